/- The document's latch: AskLevel. -/
import Derived.Test.YtbnjfahjbemleaaDoorLr0
namespace Go.Proofs.YtbnjfahjbemleaaDoor
open Go.RowKit

theorem Rw1.cellsOf {base T g cap : Nat} {l : List Value} {w : World} (h : Rw1 base T g cap l w) : ∀ (j : Nat) (u : Value), l[j]? = some u → w.cell? ((⟨g, 0, none⟩ : Addr).add j) = some u := fun j u hj => by
  obtain ⟨hjl, rfl⟩ := List.getElem?_eq_some_iff.1 hj
  rw [add_add, Nat.zero_add]
  exact (h.blk.2.2.2 j hjl).1
theorem iV_one' (l : List Int) : ∀ u ∈ l.map iV, u.oneCell' = true := by
  intro u hu
  obtain ⟨x, _, rfl⟩ := List.mem_map.1 hu
  rfl

set_option maxRecDepth 100000 in
set_option maxHeartbeats 4000000 in
theorem raskLevel_none {b : Nat} {c : Cnf} {pp : Option Addr} {cp : Nat} {dv : Value} {s : Lt} {gl cl ga ca : Nat} {w : World} (h : RLt b c (.slice pp c.plans.length cp) dv s gl cl ga ca w) (hc : ConfV w c (.slice pp c.plans.length cp) dv) (d l : Int) (hn : ¬ (0 ≤ d ∧ d < c.doms.length ∧ 0 ≤ l ∧ l < (relOf c d).length)) :
    Calls Tryd.prog 13 #[.pointer (some ⟨b, 0, none⟩), .int .i64 d, .int .i64 l] w (Yields w (.int .i64 (s.askLevel c d l).1)) := by
  obtain ⟨-, -, k2, k3, -, -, -, -, kf, hb⟩ := h.cells
  obtain ⟨pd, cd, rfl, hd1, hd2⟩ := hc.doms.shape
  unfold maxLen at hd2
  clear h kf
  by_cases h0 : d < 0
  · have hE : Hid ((s.askLevel c d l).1 = 13) := hid (by unfold Lt.askLevel; rw [if_neg (by omega)])
    clear hn hc
    go_enter Tryd.func13, Tryd.ntmps13
    go_wp2
    go_returns
    exact ⟨by simp [hE.out], ext_by⟩
  by_cases h1 : (c.doms.length : Int) ≤ d
  · have hE : Hid ((s.askLevel c d l).1 = 13) := hid (by unfold Lt.askLevel; rw [if_neg (by omega)])
    clear hn hc
    go_enter Tryd.func13, Tryd.ntmps13
    go_wp2
    go_returns
    exact ⟨by simp [hE.out], ext_by⟩
  obtain ⟨k, rfl⟩ : ∃ k : Nat, d = k := ⟨d.toNat, by omega⟩
  have hk : k < c.doms.length := by omega
  have i1 : (k : Int) < c.doms.length := by omega
  have hE : Hid ((s.askLevel c k l).1 = 10) := hid (by unfold Lt.askLevel; rw [if_pos (by omega), if_neg (by omega)])
  by_cases h2 : l < 0
  · clear hn hc
    go_enter Tryd.func13, Tryd.ntmps13
    go_wp2
    go_returns
    exact ⟨by simp [hE.out], ext_by⟩
  obtain ⟨db, doff, rfl, vr, ve, DC, -, hrel, -⟩ := hc.doms.at k hk
  have c3 := DC.release
  obtain ⟨pe, ce, rfl, he1, he2⟩ := hrel.shape
  unfold maxLen at he2
  have h3 : (c.doms[k].release.length : Int) ≤ l := by rw [relOf_get hk] at hn; omega
  clear hn hc DC hrel
  generalize c.doms[k].release = rel at *
  go_enter Tryd.func13, Tryd.ntmps13
  go_wp2
  go_returns
  exact ⟨by simp [hE.out], ext_by⟩

set_option maxRecDepth 100000 in
set_option maxHeartbeats 4000000 in
theorem raskLevel_some {b : Nat} {c : Cnf} {pp : Option Addr} {cp : Nat} {dv : Value} {s : Lt} {gl cl ga ca : Nat} {w : World} (h : RLt b c (.slice pp c.plans.length cp) dv s gl cl ga ca w) (hc : ConfV w c (.slice pp c.plans.length cp) dv) (g : Good c) (d l : Int) (hn : 0 ≤ d ∧ d < c.doms.length ∧ 0 ≤ l ∧ l < (relOf c d).length) :
    Calls Tryd.prog 13 #[.pointer (some ⟨b, 0, none⟩), .int .i64 d, .int .i64 l] w fun e w' => ∃ ga' ca', e = .returned (.int .i64 0) ∧ Mvp (LtB b gl ga) (LtB b gl ga') w w' ∧ RLt b c (.slice pp c.plans.length cp) dv { s with al := s.al.set d.toNat l } gl cl ga' ca' w' := by
  have H := hid h
  obtain ⟨-, -, k2, k3, -, -, -, k7, kf, hb⟩ := h.cells
  obtain ⟨pd, cd, rfl, hd1, hd2⟩ := hc.doms.shape
  unfold maxLen at hd2
  have f7 := kf 7
  obtain ⟨k, rfl⟩ : ∃ k : Nat, d = k := ⟨d.toNat, by omega⟩
  have hk : k < c.doms.length := by omega
  have i1 : (k : Int) < c.doms.length := by omega
  obtain ⟨db, doff, rfl, vr, ve, DC, -, hrel, -⟩ := hc.doms.at k hk
  have c3 := DC.release
  obtain ⟨pe, ce, rfl, he1, he2⟩ := hrel.shape
  unfold maxLen at he2
  have h3 : ¬ (c.doms[k].release.length : Int) ≤ l := by rw [relOf_get hk] at hn; omega
  have h2 : ¬ l < 0 := by omega
  have hok := h.ok
  have hal : Hid ((s.al.map iV).length = c.doms.length) := hid (by rw [List.length_map, hok.al])
  have HNW := hid h.al.cellsOf
  have hd6 := g.d6
  have hd1' := g.d1
  have hga := h.far.2
  have hgl := h.far.1
  clear hn hc DC hrel h kf hok g
  generalize c.doms[k].release = rel at *
  go_enter Tryd.func13, Tryd.ntmps13
  go_upto_region 6 with (at_builtin; refine wpList_copy rfl (.const (.slice none 0 0)) (.tmp 39) 44 3 (.int .i64 0) 8 rfl Tryd.underlying44 infoI rfl (ad := ⟨ga, 0, none⟩) (m := c.doms.length) (c := ca) (news := s.al.map iV) (by rfl) (by rfl) hal.out HNW.out (iV_one' s.al) (by unfold maxLen; omega) (by omega) (by omega) ?_; intro g2 c2 w5 ho5 hg5 hx5; have f7b : w5.frozen? ⟨b, 7, none⟩ = false := (H.out.blk.ext hx5).frozen 7; have k7b := hx5.cell k7; have hb5 : b < w5.heap.size := by have := hx5.size; omega)
  have hbg : b ≠ g2 := by omega
  have HB5 : Hid (Rw1 w.heap.size 3 g2 c2 (s.al.map iV) w5) := hid ⟨by rw [hal.out]; exact ho5⟩
  have R5 := hid (H.out.ext hx5)
  refine wp_forget (fun u => Hid (Mvp (LtB b gl ga) (LtB b gl g2) w u) ∧ Hid (RLt b c (.slice pp c.plans.length cp) (.slice (some ⟨db, doff, none⟩) c.doms.length cd) s gl cl g2 c2 u) ∧ u.cell? ⟨b, 7, none⟩ = some (.slice (some ⟨g2, 0, none⟩) c.doms.length c2)) ⟨hid (((Mvp.of_ext hx5).set (.inl rfl) 7 _).anew fun k hk => by
      rcases hk with rfl | rfl | rfl
      · exact .inl (.inl rfl)
      · exact .inl (.inr (.inl rfl))
      · exact .inr hg5), hid ⟨by
      have := R5.out.blk.set 7 (.slice (some ⟨g2, 0, none⟩) c.doms.length c2)
      simpa using this, R5.out.l.other R5.out.n1 _ _, (⟨owns_base HB5.out.own (Nat.zero_le _)⟩ : Rw1 0 _ g2 c2 _ _).other hbg _ _, R5.out.n1, hbg, by omega, R5.out.ok⟩, by simp [go_sem, *]⟩ ?_
  clear H R5 HB5 hx5 ho5 k2 k3 k7 k7b f7 f7b hb5 c3
  rintro w6 ⟨HM, HR, k7⟩
  have hb6 : b < w6.heap.size := HR.out.blk.lt
  obtain ⟨-, hg6, -, hcs⟩ := HR.out.al.blk
  obtain ⟨q1, q2⟩ := hcs k (by rw [hal.out]; exact hk)
  obtain ⟨old, q1⟩ : ∃ old, w6.cell? ⟨g2, k, none⟩ = some old := ⟨_, q1⟩
  clear hcs
  go_wp2
  go_returns
  have hR := HR.out
  refine ⟨by simp, g2, HM.out.set (.inr (.inr rfl)) k _, c2, ⟨hR.blk.other hR.n2 _ _, hR.l.other (fun e => hR.n3 e.symm) _ _, ?_, hR.n1, hR.n2, hR.n3, ⟨hR.ok.ll, by simpa using hR.ok.al, hR.ok.p0, hR.ok.p1, hR.ok.ap0, hR.ok.ap1⟩⟩⟩
  have := hR.al.set (j := k) (by rw [hal.out]; exact hk) (.int .i64 l)
  show Rw1 0 _ g2 c2 ((s.al.set k l).map iV) _
  rw [List.map_set]
  exact this
theorem raskLevel_any {b : Nat} {c : Cnf} {pp : Option Addr} {cp : Nat} {dv : Value} {s : Lt} {gl cl ga ca : Nat} {w : World} (h : RLt b c (.slice pp c.plans.length cp) dv s gl cl ga ca w) (hc : ConfV w c (.slice pp c.plans.length cp) dv) (g : Good c) (d l : Int) :
    Calls Tryd.prog 13 #[.pointer (some ⟨b, 0, none⟩), .int .i64 d, .int .i64 l] w fun e w' => ∃ ga' ca', e = .returned (.int .i64 (s.askLevel c d l).1) ∧ Mvp (LtB b gl ga) (LtB b gl ga') w w' ∧ RLt b c (.slice pp c.plans.length cp) dv (s.askLevel c d l).2 gl cl ga' ca' w' := by
  by_cases hn : 0 ≤ d ∧ d < c.doms.length ∧ 0 ≤ l ∧ l < (relOf c d).length
  · have he : s.askLevel c d l = (0, { s with al := s.al.set d.toNat l }) := by unfold Lt.askLevel; rw [if_pos ⟨hn.1, hn.2.1⟩, if_pos hn.2.2]
    rw [he]
    exact raskLevel_some h hc g d l hn
  · refine (raskLevel_none h hc d l hn).mono ?_
    rintro e w' ⟨rfl, hx⟩
    have he : (s.askLevel c d l).2 = s := by
      unfold Lt.askLevel
      split
      · rw [if_neg (by omega)]
      · rfl
    rw [he]
    exact ⟨ga, ca, rfl, Mvp.of_ext hx, h.ext hx⟩
end Go.Proofs.YtbnjfahjbemleaaDoor
