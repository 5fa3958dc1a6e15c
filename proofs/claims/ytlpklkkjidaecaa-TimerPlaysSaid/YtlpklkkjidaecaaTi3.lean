/- settle: a sleeper goes where it belongs. -/
import Derived.Test.YtlpklkkjidaecaaTi2
import Derived.Test.YtlpklkkjidaecaaHop
import Derived.WalkKit
import Derived.WalkSpells
import Derived.WalkLawsBesides
import Derived.Deep.RegionLaw
import Derived.Handy
import Derived.IntWalk
namespace Go.Proofs.Ytlpklkkjidaecaa
open Go.RowKit
namespace Ti
open Rw
open Go.Maps (Tidy IsMap Keyed)

/-- While a place is free for s: which one it is; what it has come from. -/
structure Sg (base x g n cap bm : Nat) (s : En) (M : List En) (w : World) (Z : List En → Nat → Prop) (h : Nat) (l : List En) (D : DataW Unit) (w' : World) : Prop where
  tm : Tm base x (.slice (some ⟨g, 0, none⟩) n cap) (.map (some bm)) l D w'
  mv : Mvp (Own x (.slice (some ⟨g, 0, none⟩) n cap) (.map (some bm))) (Own x (.slice (some ⟨g, 0, none⟩) n cap) (.map (some bm))) w w'
  box : w'.heap[w.heap.size]? = some (.cells #[.int .i64 s.1, .int .i64 s.2] 51 (0, 0))
  lt : h < l.length
  len : l.length = n
  part : Part D l h s
  apart : Apart (l.set h s)
  perm : (l.set h s).Perm M
  z : Z l h
def SgJ (base x g n cap bm : Nat) (s : En) (M : List En) (w : World) (Z : List En → Nat → Prop) (a' : Act) (w' : World) : Prop :=
  ∃ (h : Nat) (u6 u7 u8 u9 u10 u11 u12 u13 u14 u15 u16 u17 u18 u19 u20 u21 u22 u23 u24 u25 u26 u27 u28 u29 u30 u31 u32 u33 u34 u35 u36 u37 u38 u39 u40 u41 u42 u43 u44 u45 u46 u47 u48 u49 u50 u51 u52 u53 u54 u55 u56 u57 u58 u59 u60 u61 u62 u63 u64 u65 u66 u67 u68 u69 u70 u71 u72 u73 u74 : Value), a' = { tmps := #[.pointer (some ⟨x, 0, none⟩), .int .i64 h, entV s, undef, undef, .pointer (some ⟨w.heap.size, 0, none⟩), u6, u7, u8, u9, u10, u11, u12, u13, u14, u15, u16, u17, u18, u19, u20, u21, u22, u23, u24, u25, u26, u27, u28, u29, u30, u31, u32, u33, u34, u35, u36, u37, u38, u39, u40, u41, u42, u43, u44, u45, u46, u47, u48, u49, u50, u51, u52, u53, u54, u55, u56, u57, u58, u59, u60, u61, u62, u63, u64, u65, u66, u67, u68, u69, u70, u71, u72, u73, u74], defers := [] } ∧ ∃ l D, Sg base x g n cap bm s M w Z h l D w'
def SgPost (base x g n cap bm : Nat) (M : List En) (w : World) (r : Ending) (w' : World) : Prop :=
  r = .returned (.tuple #[]) ∧ ∃ l D, Tm base x (.slice (some ⟨g, 0, none⟩) n cap) (.map (some bm)) l D w' ∧ Heap l ∧ Full D l ∧ Apart l ∧ l.Perm M ∧ l.length = n ∧ Mvp (Own x (.slice (some ⟨g, 0, none⟩) n cap) (.map (some bm))) (Own x (.slice (some ⟨g, 0, none⟩) n cap) (.map (some bm))) w w'

section
variable {base x g n cap bm h0 : Nat} {l0 : List En} {D0 : DataW Unit} {w : World}
theorem Sg.ext {s : En} {M : List En} {Z : List En → Nat → Prop} {h : Nat} {l : List En} {D : DataW Unit} {w1 w2 : World} (H : Sg base x g n cap bm s M w Z h l D w1) (k : Ext w1 w2) : Sg base x g n cap bm s M w Z h l D w2 :=
  ⟨H.tm.ext k, H.mv.ext k, by rw [k.below.block _ (lt_blk H.box)]; exact H.box, H.lt, H.len, H.part, H.apart, H.perm, H.z⟩
theorem Sg.other {s : En} {M : List En} {Z Z' : List En → Nat → Prop} {h : Nat} {l : List En} {D : DataW Unit} {w1 : World} (H : Sg base x g n cap bm s M w Z h l D w1) (k : Z' l h) : Sg base x g n cap bm s M w Z' h l D w1 :=
  ⟨H.tm, H.mv, H.box, H.lt, H.len, H.part, H.apart, H.perm, k⟩
theorem Sg.small {s : En} {M : List En} {Z : List En → Nat → Prop} {h : Nat} {l : List En} {D : DataW Unit} {w1 : World} (H : Sg base x g n cap bm s M w Z h l D w1) : Maps.size D ≤ n := by
  have := H.part.size
  have := H.len
  omega
theorem Sg.mem {s a : En} {M : List En} {Z : List En → Nat → Prop} {h p : Nat} {l : List En} {D : DataW Unit} {w1 : World} (H : Sg base x g n cap bm s M w Z h l D w1) (ha : l[p]? = some a) (hp : p ≠ h) : a ∈ M :=
  H.perm.mem_iff.1 (List.mem_of_getElem? ((set_ne hp).trans ha))
theorem Sg.move {s a : En} {M : List En} {Z Z' : List En → Nat → Prop} {h p : Nat} {l : List En} {D : DataW Unit} {w1 w2 : World} (H : Sg base x g n cap bm s M w Z h l D w1) (far : ¬ Own x (.slice (some ⟨g, 0, none⟩) n cap) (.map (some bm)) w.heap.size)
    (ha : l[p]? = some a) (hp : p ≠ h) (hz : Z' (l.set h a) p) (h1 : Tm base x (.slice (some ⟨g, 0, none⟩) n cap) (.map (some bm)) (l.set h a) (D.put (key a.1) (num h)) w2)
    (h2 : Mvp (Own x (.slice (some ⟨g, 0, none⟩) n cap) (.map (some bm))) (Own x (.slice (some ⟨g, 0, none⟩) n cap) (.map (some bm))) w1 w2) : Sg base x g n cap bm s M w Z' p (l.set h a) (D.put (key a.1) (num h)) w2 := by
  have sw := set_swap (s := s) (Ne.symm hp) H.lt ha
  exact ⟨h1, H.mv.trans h2, h2.blk H.box far, by rw [List.length_set]; exact get_some ha, by rw [List.length_set]; exact H.len, H.part.move H.apart H.lt hp ha, H.apart.perm sw.symm, sw.trans H.perm, hz⟩
theorem quo_two (m : Nat) (hm : m ≤ 1000000) : IntKind.i64.wrap ((m : Int) / 2) = ((m / 2 : Nat) : Int) := by
  rw [show (m : Int) / 2 = ((m / 2 : Nat) : Int) by omega]
  exact IntWalk.i64_in _ (by omega)

set_option maxRecDepth 100000 in
set_option maxHeartbeats 8000000 in
theorem settle_any (h : Tm base x (.slice (some ⟨g, 0, none⟩) n cap) (.map (some bm)) l0 D0 w) (s : En) (hh : h0 < l0.length) (hl : l0.length ≤ 1000000) (H : Hole l0 h0) (hP : Part D0 l0 h0 s) (hA : Apart (l0.set h0 s)) (hw : ∀ e ∈ l0.set h0 s, wf64 e.1) :
    Calls Try.prog 20 #[.pointer (some ⟨x, 0, none⟩), .int .i64 h0, entV s] w (SgPost base x g n cap bm (l0.set h0 s) w) := by
  obtain ⟨s1, s2⟩ := s
  have hn : n = l0.length := by
    rcases h.row.2 with ⟨h1, _⟩ | ⟨g', cap', cur, h1, _⟩
    · cases h1
    · injection h1
  have hn6 : n ≤ 1000000 := by omega
  have HN := hid hn
  clear hn
  have FAR : Hid (¬ Own x (.slice (some ⟨g, 0, none⟩) n cap) (.map (some bm)) w.heap.size) := fun e => absurd (h.own _ e).2 (Nat.lt_irrefl _)
  have HI := hid h
  have HW := hid hw
  have START := hid (show Hole l0 h0 ∧ Part D0 l0 h0 (s1, s2) ∧ Apart (l0.set h0 (s1, s2)) ∧ h0 < l0.length from ⟨H, hP, hA, hh⟩)
  clear h hw hl H hP hA hh
  have PM := List.Perm.refl (l0.set h0 (s1, s2))
  generalize hM : l0.set h0 (s1, s2) = M at *
  have HM := hid hM
  clear hM
  go_enter Try.func20, Try.ntmps20
  go_wp2_with fail
  refine wp_goto2 0 1 (SgJ base x g n cap bm (s1, s2) M w Hole) (SgJ base x g n cap bm (s1, s2) M w (fun l h => Low l h (s1, s2))) (fun a' _ => (intOf (a'.tmps.getD 1 undef)).toNat) (fun a' _ => n - (intOf (a'.tmps.getD 1 undef)).toNat) rfl rfl ?_ ?_ ?_
  · refine fun a' w' => ex_elim fun h => ex_elim fun u6 => ex_elim fun u7 => ex_elim fun u8 => ex_elim fun u9 => ex_elim fun u10 => ex_elim fun u11 => ex_elim fun u12 => ex_elim fun u13 => ex_elim fun u14 => ex_elim fun u15 => ex_elim fun u16 => ex_elim fun u17 => ex_elim fun u18 => ex_elim fun u19 => ex_elim fun u20 => ex_elim fun u21 => ex_elim fun u22 => ex_elim fun u23 => ex_elim fun u24 => ex_elim fun u25 => ex_elim fun u26 => ex_elim fun u27 => ex_elim fun u28 => ex_elim fun u29 => ex_elim fun u30 => ex_elim fun u31 => ex_elim fun u32 => ex_elim fun u33 => ex_elim fun u34 => ex_elim fun u35 => ex_elim fun u36 => ex_elim fun u37 => ex_elim fun u38 => ex_elim fun u39 => ex_elim fun u40 => ex_elim fun u41 => ex_elim fun u42 => ex_elim fun u43 => ex_elim fun u44 => ex_elim fun u45 => ex_elim fun u46 => ex_elim fun u47 => ex_elim fun u48 => ex_elim fun u49 => ex_elim fun u50 => ex_elim fun u51 => ex_elim fun u52 => ex_elim fun u53 => ex_elim fun u54 => ex_elim fun u55 => ex_elim fun u56 => ex_elim fun u57 => ex_elim fun u58 => ex_elim fun u59 => ex_elim fun u60 => ex_elim fun u61 => ex_elim fun u62 => ex_elim fun u63 => ex_elim fun u64 => ex_elim fun u65 => ex_elim fun u66 => ex_elim fun u67 => ex_elim fun u68 => ex_elim fun u69 => ex_elim fun u70 => ex_elim fun u71 => ex_elim fun u72 => ex_elim fun u73 => ex_elim fun u74 => ?_
    rintro ⟨rfl, l, D, hS⟩
    have hxl := hS.tm.lt
    have hbl := lt_blk hS.box
    have hl6 : h ≤ 1000000 := by have := hS.lt; have := hS.len; omega
    obtain ⟨q, hq0⟩ : ∃ q, q = soon l h := ⟨_, rfl⟩
    have CS := sooner_any hS.tm h hl6
    rw [← hq0] at CS
    have CS := hid CS
    have HQ := hid hq0
    clear hq0
    have HS := hid hS
    have hgl := (hS.tm.own g (.inr (.inl rfl))).2
    clear hS
    go_wp2_with (go_at_call 23; (with_reducible refine CS.out.yields ?_); intro p0)
    have hq := ext_more w' p0
    have HS1 := hid (HS.out.ext hq)
    generalize more w' p0 = w1 at *
    have hxl1 := Nat.lt_of_lt_of_le hxl hq.size
    have hbl1 := Nat.lt_of_lt_of_le hbl hq.size
    have hgl1 := Nat.lt_of_lt_of_le hgl hq.size
    clear hxl hbl hgl hq HS CS
    have hbox := HS1.out.box
    have b0 : w1.cell? ⟨w.heap.size, 0, none⟩ = some (.int .i64 s1) := by simp [World.cell?, hbox]
    have b1 : w1.cell? ⟨w.heap.size, 1, none⟩ = some (.int .i64 s2) := by simp [World.cell?, hbox]
    obtain ⟨c0, -, -, -⟩ := HS1.out.tm.cells
    clear hbox
    by_cases hql : q < n
    · have hqll : q < l.length := by rw [HS1.out.len]; exact hql
      obtain ⟨a, ha⟩ := get_lt hqll
      have hrow := HS1.out.tm.row
      rw [HS1.out.len] at hrow
      obtain ⟨d0, d1, -, -⟩ := hrow.cell ha
      have i1 : (q : Int) < (n : Int) := by omega
      have i2 : (0 : Int) ≤ (q : Int) := by omega
      have HA := hid ha
      clear ha hrow hqll hql
      by_cases hlt : a.2 < s2
      · go_wp2
        ((first | refine wp_region_more (by kernel_rfl) (by kernel_rfl) ?_ | refine wp_region_ext (by kernel_rfl) (by kernel_rfl) ?_); (try dsimp only [append_cons', append_nil']); (repeat (go_big_quiet_step ((fail)))); refine wpQuiet_nil ?_; rintro _ ⟨pq, rfl⟩)
        have hq := ext_more w1 pq
        have HS2 := hid (HS1.out.ext hq)
        have hrow2 := HS2.out.tm.row
        rw [HS2.out.len] at hrow2
        obtain ⟨d0, d1, -, -⟩ := hrow2.cell HA.out
        obtain ⟨c0, -, -, -⟩ := HS2.out.tm.cells
        have hqh : Hid (q ≠ h) := by have := soon_up l h; have := up_lt this.1; have := HQ.out; rw [Hid]; omega
        have CP := put_any HS2.out.tm h a HS2.out.lt (by rw [HS2.out.len]; exact hn6) (Nat.le_trans HS2.out.small hn6) (HW.out a (HS2.out.mem HA.out hqh.out))
        have CP := hid CP
        have hgl2 := Nat.lt_of_lt_of_le hgl1 hq.size
        have hxl2 := Nat.lt_of_lt_of_le hxl1 hq.size
        clear hrow2 b0 b1
        generalize more w1 pq = w2 at *
        go_wp2_with (go_at_call 22; (with_reducible refine CP.out.mono ?_); rintro e w3 ⟨rfl, h3, m3⟩; have H3 := hid h3; have M3 := hid m3; clear h3 m3)
        go_step3
        simp only [Exit.then]
        refine ⟨rfl, ⟨q, _, _, _, _, _, _, _, _, _, _, _, _, _, _, _, _, _, _, _, _, _, _, _, _, _, _, _, _, _, _, _, _, _, _, _, _, _, _, _, _, _, _, _, _, _, _, _, _, _, _, _, _, _, _, _, _, _, _, _, _, _, _, _, _, _, _, _, _, _, rfl, _, _, HS2.out.move FAR.out HA.out hqh.out ?_ H3.out M3.out⟩, ?_⟩
        · have hu := soon_up l h
          rw [← HQ.out] at hu
          exact HS2.out.z.down hu.1 hu.2 HA.out hlt (soon_min (by rw [← HQ.out]; exact HA.out))
        · have hu := soon_up l h
          rw [← HQ.out] at hu
          have := up_lt hu.1
          simp [intOf]
          omega
      · go_wp2
        ((first | refine wp_region_more (by kernel_rfl) (by kernel_rfl) ?_ | refine wp_region_ext (by kernel_rfl) (by kernel_rfl) ?_); (try dsimp only [append_cons', append_nil']); (repeat (go_big_quiet_step ((fail)))); refine wpQuiet_nil ?_; rintro _ ⟨pq, rfl⟩)
        have hq := ext_more w1 pq
        have HS2 := hid (HS1.out.ext hq)
        have CP := put_any HS2.out.tm h (s1, s2) HS2.out.lt (by rw [HS2.out.len]; exact hn6) (Nat.le_trans HS2.out.small hn6) (HW.out (s1, s2) (HS2.out.perm.mem_iff.1 (List.mem_of_getElem? (set_eq HS2.out.lt))))
        have CP := hid CP
        have b0 := hq.cell b0
        have b1 := hq.cell b1
        have hbl2 := Nat.lt_of_lt_of_le hbl1 hq.size
        generalize more w1 pq = w2 at *
        go_wp2_with (go_at_call 22; (with_reducible refine CP.out.mono ?_); rintro e w3 ⟨rfl, h3, m3⟩; have H3 := hid h3; have M3 := hid m3; clear h3 m3)
        go_returns
        refine ⟨rfl, _, _, H3.out, HS2.out.z.done HS2.out.lt ?_, HS2.out.part.fill HS2.out.apart HS2.out.lt, HS2.out.apart, HS2.out.perm, by rw [List.length_set]; exact HS2.out.len, HS2.out.mv.trans M3.out⟩
        exact fun i y hi hu hy => by have := soon_min (by rw [← HQ.out]; exact HA.out) i y hi hu hy; omega
    · have i1 : decide (q < n) = false := by rw [decide_eq_false_iff_not]; omega
      have HQL := hid hql
      clear hql
      go_wp2
      ((first | refine wp_region_more (by kernel_rfl) (by kernel_rfl) ?_ | refine wp_region_ext (by kernel_rfl) (by kernel_rfl) ?_); (try dsimp only [append_cons', append_nil']); (repeat (go_big_quiet_step ((fail)))); refine wpQuiet_nil ?_; rintro _ ⟨pq, rfl⟩)
      have hq := ext_more w1 pq
      have HS2 := hid (HS1.out.ext hq)
      have CP := put_any HS2.out.tm h (s1, s2) HS2.out.lt (by rw [HS2.out.len]; exact hn6) (Nat.le_trans HS2.out.small hn6) (HW.out (s1, s2) (HS2.out.perm.mem_iff.1 (List.mem_of_getElem? (set_eq HS2.out.lt))))
      have CP := hid CP
      have b0 := hq.cell b0
      have b1 := hq.cell b1
      have hbl2 := Nat.lt_of_lt_of_le hbl1 hq.size
      generalize more w1 pq = w2 at *
      go_wp2_with (go_at_call 22; (with_reducible refine CP.out.mono ?_); rintro e w3 ⟨rfl, h3, m3⟩; have H3 := hid h3; have M3 := hid m3; clear h3 m3)
      go_returns
      refine ⟨rfl, _, _, H3.out, HS2.out.z.done HS2.out.lt ?_, HS2.out.part.fill HS2.out.apart HS2.out.lt, HS2.out.apart, HS2.out.perm, by rw [List.length_set]; exact HS2.out.len, HS2.out.mv.trans M3.out⟩
      exact fun i y hi hu hy => (soon_none (by rw [← HQ.out, HS2.out.len]; exact HQL.out) i y hi hu hy).elim
  · refine fun a' w' => ex_elim fun h => ex_elim fun u6 => ex_elim fun u7 => ex_elim fun u8 => ex_elim fun u9 => ex_elim fun u10 => ex_elim fun u11 => ex_elim fun u12 => ex_elim fun u13 => ex_elim fun u14 => ex_elim fun u15 => ex_elim fun u16 => ex_elim fun u17 => ex_elim fun u18 => ex_elim fun u19 => ex_elim fun u20 => ex_elim fun u21 => ex_elim fun u22 => ex_elim fun u23 => ex_elim fun u24 => ex_elim fun u25 => ex_elim fun u26 => ex_elim fun u27 => ex_elim fun u28 => ex_elim fun u29 => ex_elim fun u30 => ex_elim fun u31 => ex_elim fun u32 => ex_elim fun u33 => ex_elim fun u34 => ex_elim fun u35 => ex_elim fun u36 => ex_elim fun u37 => ex_elim fun u38 => ex_elim fun u39 => ex_elim fun u40 => ex_elim fun u41 => ex_elim fun u42 => ex_elim fun u43 => ex_elim fun u44 => ex_elim fun u45 => ex_elim fun u46 => ex_elim fun u47 => ex_elim fun u48 => ex_elim fun u49 => ex_elim fun u50 => ex_elim fun u51 => ex_elim fun u52 => ex_elim fun u53 => ex_elim fun u54 => ex_elim fun u55 => ex_elim fun u56 => ex_elim fun u57 => ex_elim fun u58 => ex_elim fun u59 => ex_elim fun u60 => ex_elim fun u61 => ex_elim fun u62 => ex_elim fun u63 => ex_elim fun u64 => ex_elim fun u65 => ex_elim fun u66 => ex_elim fun u67 => ex_elim fun u68 => ex_elim fun u69 => ex_elim fun u70 => ex_elim fun u71 => ex_elim fun u72 => ex_elim fun u73 => ex_elim fun u74 => ?_
    rintro ⟨rfl, l, D, hS⟩
    intro hK
    have HK := hid hK
    clear hK
    have hxl := hS.tm.lt
    have hbl := lt_blk hS.box
    obtain ⟨c0, -, -, -⟩ := hS.tm.cells
    have hbox := hS.box
    have b0 : w'.cell? ⟨w.heap.size, 0, none⟩ = some (.int .i64 s1) := by simp [World.cell?, hbox]
    have b1 : w'.cell? ⟨w.heap.size, 1, none⟩ = some (.int .i64 s2) := by simp [World.cell?, hbox]
    clear hbox
    have HS := hid hS
    have hgl := (hS.tm.own g (.inr (.inl rfl))).2
    rcases Nat.eq_zero_or_pos h with rfl | hpos
    · clear hS
      go_wp2
      ((first | refine wp_region_more (by kernel_rfl) (by kernel_rfl) ?_ | refine wp_region_ext (by kernel_rfl) (by kernel_rfl) ?_); (try dsimp only [append_cons', append_nil']); (repeat (go_big_quiet_step ((fail)))); refine wpQuiet_nil ?_; rintro _ ⟨pq, rfl⟩)
      go_wp2
      go_step3
      simp only [Exit.then]
      refine ‹∀ (a : Act) (w : World), Code.wp _ _ _ a w → _› _ _ ?_
      have hq := ext_more w' pq
      exact HK.out _ _ ⟨0, _, _, _, _, _, _, _, _, _, _, _, _, _, _, _, _, _, _, _, _, _, _, _, _, _, _, _, _, _, _, _, _, _, _, _, _, _, _, _, _, _, _, _, _, _, _, _, _, _, _, _, _, _, _, _, _, _, _, _, _, _, _, _, _, _, _, _, _, _, rfl, l, D, HS.out.tm.ext hq, HS.out.mv.ext hq, by rw [hq.below.block _ hbl]; exact HS.out.box, HS.out.lt, HS.out.len, HS.out.part, HS.out.apart, HS.out.perm, HS.out.z, fun h => absurd h (Nat.lt_irrefl _)⟩
    · obtain ⟨k, rfl⟩ : ∃ k, h = k + 1 := ⟨h - 1, by omega⟩
      have hpl : up (k + 1) < l.length := by have := hS.lt; unfold up; omega
      obtain ⟨a, ha⟩ := get_lt hpl
      have hup : Hid (up (k + 1) = k / 2) := rfl
      have hrow := hS.tm.row
      rw [hS.len] at hrow
      obtain ⟨p, hp⟩ : ∃ p, p = k / 2 := ⟨_, rfl⟩
      rw [show up (k + 1) = p from hup.out.trans hp.symm] at ha hpl
      obtain ⟨d0, d1, -, -⟩ := hrow.cell ha
      have e3 : IntKind.i64.wrap (k : Int) = (k : Int) := IntWalk.i64_in _ (by have := hS.lt; have := hS.len; omega)
      have e4 : IntKind.i64.wrap ((k : Int) / 2) = (p : Int) := by rw [hp]; exact quo_two k (by have := hS.lt; have := hS.len; omega)
      have i1 : (p : Int) < (n : Int) := by have := hS.len; omega
      have i2 : (0 : Int) ≤ (p : Int) := by omega
      have i3 : (0 : Int) < (k : Int) + 1 := by omega
      have HA := hid ha
      have HP := hid hp
      clear hS hrow ha hpl hp
      by_cases hlt : s2 < a.2
      · go_wp2
        ((first | refine wp_region_more (by kernel_rfl) (by kernel_rfl) ?_ | refine wp_region_ext (by kernel_rfl) (by kernel_rfl) ?_); (try dsimp only [append_cons', append_nil']); (repeat (go_big_quiet_step ((fail)))); refine wpQuiet_nil ?_; rintro _ ⟨pq, rfl⟩)
        have hq := ext_more w' pq
        have HS2 := hid (HS.out.ext hq)
        have hrow2 := HS2.out.tm.row
        rw [HS2.out.len] at hrow2
        obtain ⟨d0, d1, -, -⟩ := hrow2.cell HA.out
        obtain ⟨c0, -, -, -⟩ := HS2.out.tm.cells
        have CP := put_any HS2.out.tm (k + 1) a HS2.out.lt (by rw [HS2.out.len]; exact hn6) (Nat.le_trans HS2.out.small hn6) (HW.out a (HS2.out.mem HA.out (by have := HP.out; omega)))
        rw [show (((k + 1 : Nat) : Int)) = (k : Int) + 1 from rfl] at CP
        have CP := hid CP
        have hgl2 := Nat.lt_of_lt_of_le hgl hq.size
        have hxl2 := Nat.lt_of_lt_of_le hxl hq.size
        clear hrow2 b0 b1
        generalize more w' pq = w2 at *
        go_wp2_with (go_at_call 22; (with_reducible refine CP.out.mono ?_); rintro e w3 ⟨rfl, h3, m3⟩; have H3 := hid h3; have M3 := hid m3; clear h3 m3)
        go_step3
        simp only [Exit.then]
        refine .inl ⟨rfl, ⟨p, _, _, _, _, _, _, _, _, _, _, _, _, _, _, _, _, _, _, _, _, _, _, _, _, _, _, _, _, _, _, _, _, _, _, _, _, _, _, _, _, _, _, _, _, _, _, _, _, _, _, _, _, _, _, _, _, _, _, _, _, _, _, _, _, _, _, _, _, _, rfl, _, _, HS2.out.move FAR.out HA.out (by have := HP.out; omega) ?_ H3.out M3.out⟩, by simp [intOf]; have := HP.out; omega⟩
        have := HS2.out.z.up (by omega) (a := a) (by rw [show up (k + 1) = p from hup.out.trans HP.out.symm]; exact HA.out) HS2.out.lt
        rw [show up (k + 1) = p from hup.out.trans HP.out.symm] at this
        exact this
      · go_wp2
        ((first | refine wp_region_more (by kernel_rfl) (by kernel_rfl) ?_ | refine wp_region_ext (by kernel_rfl) (by kernel_rfl) ?_); (try dsimp only [append_cons', append_nil']); (repeat (go_big_quiet_step ((fail)))); refine wpQuiet_nil ?_; rintro _ ⟨pq, rfl⟩)
        go_wp2
        go_step3
        simp only [Exit.then]
        refine ‹∀ (a : Act) (w : World), Code.wp _ _ _ a w → _› _ _ ?_
        refine HK.out _ _ ⟨k + 1, _, _, _, _, _, _, _, _, _, _, _, _, _, _, _, _, _, _, _, _, _, _, _, _, _, _, _, _, _, _, _, _, _, _, _, _, _, _, _, _, _, _, _, _, _, _, _, _, _, _, _, _, _, _, _, _, _, _, _, _, _, _, _, _, _, _, _, _, _, rfl, l, D, (HS.out.ext (ext_more w' pq)).other ⟨HS.out.z, fun _ b hb => ?_⟩⟩
        rw [show up (k + 1) = p from hup.out.trans HP.out.symm, HA.out] at hb
        cases hb
        omega
  · intro start
    have Start := hid start
    clear start
    have X0 : Ext w (w.alloc (.cells #[.int .i64 s1, .int .i64 s2] 51 (0, 0))) := Ext.alloc (Ext.refl w) _
    have b0 : (w.alloc (.cells #[.int .i64 s1, .int .i64 s2] 51 (0, 0))).heap[w.heap.size]? = some (.cells #[.int .i64 s1, .int .i64 s2] 51 (0, 0)) := heap_alloc_new w _
    generalize w.alloc (.cells #[.int .i64 s1, .int .i64 s2] 51 (0, 0)) = w0 at *
    have HS := hid (show Sg base x g n cap bm (s1, s2) M w Hole h0 l0 D0 w0 from ⟨HI.out.ext X0, Mvp.of_ext X0, b0, START.out.2.2.2, HN.out.symm, START.out.2.1, HM.out ▸ START.out.2.2.1, HM.out ▸ PM, START.out.1⟩)
    clear b0
    go_wp2_with fail
    go_step3
    simp only [Exit.then]
    refine ‹∀ (a : Act) (w : World), Code.wp _ _ _ a w → _› _ _ ?_
    exact Start.out _ _ ⟨h0, _, _, _, _, _, _, _, _, _, _, _, _, _, _, _, _, _, _, _, _, _, _, _, _, _, _, _, _, _, _, _, _, _, _, _, _, _, _, _, _, _, _, _, _, _, _, _, _, _, _, _, _, _, _, _, _, _, _, _, _, _, _, _, _, _, _, _, _, _, rfl, l0, D0, HS.out⟩
end
end Ti
end Go.Proofs.Ytlpklkkjidaecaa
