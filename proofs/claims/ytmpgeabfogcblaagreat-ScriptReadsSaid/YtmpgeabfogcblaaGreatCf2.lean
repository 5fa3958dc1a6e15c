/- What the tests of package conf come to: routes, what is given away. -/
import Derived.Test.YtmpgeabfogcblaaGreatCf0
namespace Go.Proofs.YtmpgeabfogcblaaGreat
open Go.RowKit

def sliceLen : Value → Nat
  | .slice _ n _ => n
  | _ => 0

set_option maxRecDepth 100000 in
set_option maxHeartbeats 4000000 in
theorem rises_place (w : World) (c : Cnf) (pv dv : Value) (hc : ConfV w c pv dv) (own : Nat) (hown : own < c.doms.length) (v : Value) (row : List Int) (h : Nums .i64 w v row) :
    Calls Tryz.prog 92 #[confV c pv dv, .int .i64 own, v] w (Yields w (.bool (!row.isEmpty && riseL c.doms (labAt c.doms own) row))) := by
  obtain ⟨pp, cp, rfl, hp1, hp2⟩ := hc.plans.shape
  obtain ⟨pd, cd, rfl, hd1, hd2⟩ := hc.doms.shape
  unfold maxLen at hp2 hd2
  have HC := hid hc
  clear hc
  obtain ⟨p, cap, rfl, hcap, hmax⟩ := h.shape
  unfold maxLen at hmax
  have H := hid h
  clear h
  go_enter Tryz.func92, Tryz.ntmps92
  by_cases hz : row.length = 0
  · have z1 : ((row.length : Int) == 0) = true := by rw [hz]; rfl
    have HZ : Hid (row = []) := List.eq_nil_of_length_eq_zero hz
    clear hz
    go_wp2
    go_step3
    go_wp2
    rw [Exit.noGoto_ret]
    go_returns
    exact ⟨by simp [HZ.out], (by repeat (first | exact Ext.refl _ | assumption | refine Ext.more ?_ _ | refine Ext.drew ?_ | refine Ext.drewN ?_ _ | refine Ext.alloc ?_ _ | refine Ext.setCell ?_ (by simp; try omega) _ | refine Ext.trans ?_ (by assumption)))⟩
  have z1 : ((row.length : Int) == 0) = false := by rw [beq_eq_false_iff_ne]; omega
  have HNE : Hid (row.isEmpty = false) := by cases row <;> simp_all [Hid]
  have hpos : 0 < row.length := by omega
  clear hz
  obtain ⟨b, off, rfl, -, -⟩ := H.out.at 0 hpos
  have HE : Hid (∀ k (hk : k < row.length), w.cell? ⟨b, off + k, none⟩ = some (.int .i64 row[k])) := fun k hk => by
    obtain ⟨b', off', e, s0, -⟩ := H.out.at k hk
    cases e
    simpa using s0
  go_wp2
  have hx0 : Ext w (w.alloc (.cells #[.int .i64 c.frame, .int .i64 c.epoch, .slice pp c.plans.length cp, .slice pd c.doms.length cd] 26 (0, 0))) := Ext.alloc (Ext.refl _) _
  have hbx := fun (w' : World) (h : Ext (w.alloc (.cells #[.int .i64 c.frame, .int .i64 c.epoch, .slice pp c.plans.length cp, .slice pd c.doms.length cd] 26 (0, 0))) w') =>
    And.intro (boxed h 0 (by simp)) (And.intro (boxed h 1 (by simp)) (And.intro (boxed h 2 (by simp)) (boxed h 3 (by simp))))
  generalize w.alloc (.cells #[.int .i64 c.frame, .int .i64 c.epoch, .slice pp c.plans.length cp, .slice pd c.doms.length cd] 26 (0, 0)) = W1 at *
  simp only [List.getElem?_toArray, List.getElem?_cons_succ, List.getElem?_cons_zero] at hbx
  have HBX := hid hbx
  clear hbx
  refine wp_goto 0 (fun a' w' => Ext W1 w' ∧ ∃ (k m q cur : Nat) (u7 u8 u9 u10 u11 u12 u13 u14 u15 u16 u17 u18 u19 u20 u21 u22 u23 u24 u25 u26 u27 u28 u29 u30 : Value), a' = { tmps := #[confV c (.slice pp c.plans.length cp) (.slice pd c.doms.length cd), .int .i64 cur, .slice (some ⟨b, off + k, none⟩) m q, .pointer (some ⟨w.heap.size, 0, none⟩), undef, undef, .bool false, u7, u8, u9, u10, u11, u12, u13, u14, u15, u16, u17, u18, u19, u20, u21, u22, u23, u24, u25, u26, u27, u28, u29, u30], defers := [] } ∧ k + m = row.length ∧ 0 < m ∧ m ≤ q ∧ q ≤ cap ∧ cur < c.doms.length ∧ Hid (riseL c.doms (labAt c.doms own) row = riseL c.doms (labAt c.doms cur) (row.drop k))) (fun a' _ => sliceLen (a'.tmps.getD 2 undef)) rfl ?_ ?_
  · rintro a' w' ⟨hb, k, m, q, cur, u7, u8, u9, u10, u11, u12, u13, u14, u15, u16, u17, u18, u19, u20, u21, u22, u23, u24, u25, u26, u27, u28, u29, u30, rfl, hkm, hm, hmq, hqc, hcur, hri⟩
    obtain ⟨b0, b1, b2, b3⟩ := HBX.out _ hb
    have hw := hx0.trans hb
    have hbs : w.heap.size < w'.heap.size := World.block_lt_of_cell? _ _ b0
    have s0 := hw.cell (HE.out k (by omega))
    have hdr : Hid (row.drop k = row[k]'(by omega) :: row.drop (k + 1)) := List.drop_eq_getElem_cons (by omega)
    have hend : Hid (m = 1 → row.drop (k + 1) = []) := fun h => List.drop_eq_nil_of_le (by omega)
    generalize row[k]'(by omega) = n at *
    have HCW := hid (HC.out.ext hw)
    have i1 : (0 : Int) < m := by omega
    cases hpl : withB n 0 ((c.doms.length : Int) - 1)
    · have HPL := hid hpl
      clear hpl
      go_wp2_with (go_at_call 100; refine (isPlace_to HPL.out _ _ _ HCW.out).yields ?_; intro p1)
      simp only [Exit.jump]
      go_returns
      exact ⟨by simp [hri.out, hdr.out, riseL_cons, HPL.out], hw.more _⟩
    have hwb := withB_iff.1 hpl
    have HPL := hid hpl
    clear hpl
    obtain ⟨j, rfl⟩ := Int.eq_ofNat_of_zero_le hwb.1
    have hj : j < c.doms.length := by omega
    cases hab : risesB (labAt c.doms cur).1 (labAt c.doms cur).2 (labAt c.doms j).1 (labAt c.doms j).2
    · have HAB := hid hab
      clear hab
      go_wp2_with (first | (go_at_call 100; refine (isPlace_to HPL.out _ _ _ HCW.out).yields ?_; intro p1) | (go_at_call 101; refine (isAbove_to HAB.out _ _ _ (HCW.out.ext (by repeat (first | exact Ext.refl _ | assumption | refine Ext.more ?_ _ | refine Ext.drew ?_ | refine Ext.drewN ?_ _ | refine Ext.alloc ?_ _ | refine Ext.setCell ?_ (by simp; try omega) _ | refine Ext.trans ?_ (by assumption)))) hj hcur).yields ?_; intro p2))
      simp only [Exit.jump]
      go_returns
      exact ⟨by simp [hri.out, hdr.out, riseL_cons, HPL.out, HAB.out], (by repeat (first | exact Ext.refl _ | assumption | refine Ext.more ?_ _ | refine Ext.drew ?_ | refine Ext.drewN ?_ _ | refine Ext.alloc ?_ _ | refine Ext.setCell ?_ (by simp; try omega) _ | refine Ext.trans ?_ (by assumption)))⟩
    have HAB := hid hab
    clear hab
    have i2 : (1 : Int) ≤ m := by omega
    have i3 : (m : Int) ≤ q := by omega
    go_wp2_with (first | (go_at_call 100; refine (isPlace_to HPL.out _ _ _ HCW.out).yields ?_; intro p1) | (go_at_call 101; refine (isAbove_to HAB.out _ _ _ (HCW.out.ext (by repeat (first | exact Ext.refl _ | assumption | refine Ext.more ?_ _ | refine Ext.drew ?_ | refine Ext.drewN ?_ _ | refine Ext.alloc ?_ _ | refine Ext.setCell ?_ (by simp; try omega) _ | refine Ext.trans ?_ (by assumption)))) hj hcur).yields ?_; intro p2))
    ((first | refine wp_region_more (by kernel_rfl) (by kernel_rfl) ?_ | refine wp_region_ext (by kernel_rfl) (by kernel_rfl) ?_); (try dsimp only [append_cons', append_nil']); (repeat (go_big_quiet_step ((fail)))); refine wpQuiet_nil ?_; rintro _ ⟨pq, rfl⟩)
    have hq := hb.trans (ext_more w' pq)
    go_wp2
    all_goals first
      | (go_step3
         simp only [Exit.then]
         exact ⟨rfl, ⟨hq, k + 1, m - 1, q - 1, j, _, _, _, _, _, _, _, _, _, _, _, _, _, _, _, _, _, _, _, _, _, _, _, _, rfl, by omega, by omega, by omega, by omega, hj, by unfold Hid; rw [hri.out, hdr.out, riseL_cons, HPL.out, HAB.out]; rfl⟩, by simp [sliceLen]; omega⟩)
      | (simp only [Exit.jump]
         go_returns
         exact ⟨by rw [hri.out, hdr.out, riseL_cons, HPL.out, HAB.out, hend.out (by omega), HNE.out]; rfl, hx0.trans hq⟩)
  · intro start
    have Start := hid start
    clear start
    go_wp2
    go_step3
    simp only [Exit.then]
    refine ‹∀ (a : Act) (w : World), Code.wp _ _ _ a w → _› _ _ ?_
    exact Start.out _ _ ⟨Ext.refl _, 0, row.length, cap, own, _, _, _, _, _, _, _, _, _, _, _, _, _, _, _, _, _, _, _, _, _, _, _, _, rfl, by omega, by omega, by omega, by omega, hown, rfl⟩
theorem rises_to {c : Cnf} {own : Nat} {row : List Int} {r : Bool} (e : (!row.isEmpty && riseL c.doms (labAt c.doms own) row) = r) (hown : own < c.doms.length) (w : World) (pv dv : Value) (hc : ConfV w c pv dv) (v : Value) (h : Nums .i64 w v row) :
    Calls Tryz.prog 92 #[confV c pv dv, .int .i64 own, v] w (Yields w (.bool r)) := e ▸ rises_place w c pv dv hc own hown v row h

set_option maxRecDepth 100000 in
set_option maxHeartbeats 4000000 in
theorem gives_any (w : World) (c : Cnf) (pv dv : Value) (hc : ConfV w c pv dv) (i : Nat) (hi : i < c.doms.length) :
    Calls Tryz.prog 91 #[confV c pv dv, .int .i64 i] w (Yields w (.bool (giveC c.doms c.frame (labAt c.doms i) c.doms[i]))) := by
  obtain ⟨pp, cp, rfl, hp1, hp2⟩ := hc.plans.shape
  obtain ⟨pd, cd, rfl, hd1, hd2⟩ := hc.doms.shape
  unfold maxLen at hp2 hd2
  have HC := hid hc
  obtain ⟨db, doff, rfl, vr, ve, D, DR, DE, u1, u2⟩ := hc.doms.at i hi
  obtain ⟨rp, rc, rfl, hrc1, hrc2⟩ := DR.shape
  obtain ⟨ep, ec, rfl, hec1, hec2⟩ := DE.shape
  unfold maxLen at hrc2 hec2
  have DEh := hid DE
  clear hc DR DE
  obtain ⟨d0, d1, d2, d3, d4, d5, d6, d7, d8, d9⟩ := D
  have hdb : db < w.heap.size := World.block_lt_of_cell? w _ d0
  have i1 : (i : Int) < c.doms.length := by omega
  have HXL : Hid (labAt c.doms i = c.doms[i].lab) := labAt_get hi
  generalize hx : c.doms[i] = x at *
  have HX := hid hx
  clear hx
  go_enter Tryz.func91, Tryz.ntmps91
  by_cases ht : x.to = -1
  · have g4 : (x.to == (-1 : Int)) = true := by rw [ht]; rfl
    have HT := hid ht
    clear ht
    go_wp2_with fail
    go_returns
    exact ⟨by simp [giveC, HT.out]; cases x.release <;> simp; omega, (by repeat (first | exact Ext.refl _ | assumption | refine Ext.more ?_ _ | refine Ext.drew ?_ | refine Ext.drewN ?_ _ | refine Ext.alloc ?_ _ | refine Ext.setCell ?_ (by simp; try omega) _ | refine Ext.trans ?_ (by assumption)))⟩
  have g4 : (x.to == (-1 : Int)) = false := by simpa using ht
  have HT := hid ht
  clear ht
  cases hw1 : withB x.release.length 1 4
  · have W1 := hid hw1
    clear hw1
    go_wp2_with (go_at_call 88; (with_reducible refine (cwithin_to W1.out _).yields ?_); intro p1)
    go_returns
    exact ⟨by simp [giveC, HT.out, W1.out], (by repeat (first | exact Ext.refl _ | assumption | refine Ext.more ?_ _ | refine Ext.drew ?_ | refine Ext.drewN ?_ _ | refine Ext.alloc ?_ _ | refine Ext.setCell ?_ (by simp; try omega) _ | refine Ext.trans ?_ (by assumption)))⟩
  have HW1 := hid hw1
  clear hw1
  go_wp2_with (go_at_call 88; (with_reducible refine (cwithin_to HW1.out _).yields ?_); intro p1)
  have hbx := fun (w' : World) (h : Ext ((w.alloc (.cells #[.int .i64 c.frame, .int .i64 c.epoch, .slice pp c.plans.length cp, .slice (some ⟨db, doff, none⟩) c.doms.length cd] 26 (0, 0))).alloc (.cells #[.int .i64 x.level, .int .u64 x.cats, .slice rp x.routes.length rc, .slice ep x.release.length ec, .int .i64 x.to, .int .i64 x.threads, .int .i64 x.groups, .int .i64 x.ring, .int .i64 x.sends, .int .i64 x.box] 94 (0, 0))) w') =>
    And.intro (boxed (Ext.trans (Ext.alloc (Ext.refl _) _) h) 0 (by simp)) (And.intro (boxed (Ext.trans (Ext.alloc (Ext.refl _) _) h) 1 (by simp)) (And.intro (boxed (Ext.trans (Ext.alloc (Ext.refl _) _) h) 2 (by simp)) (And.intro (boxed (Ext.trans (Ext.alloc (Ext.refl _) _) h) 3 (by simp)) (And.intro (boxed h 2 (by simp)) (And.intro (boxed h 3 (by simp)) (boxed h 4 (by simp)))))))
  have hx0 : Ext w ((w.alloc (.cells #[.int .i64 c.frame, .int .i64 c.epoch, .slice pp c.plans.length cp, .slice (some ⟨db, doff, none⟩) c.doms.length cd] 26 (0, 0))).alloc (.cells #[.int .i64 x.level, .int .u64 x.cats, .slice rp x.routes.length rc, .slice ep x.release.length ec, .int .i64 x.to, .int .i64 x.threads, .int .i64 x.groups, .int .i64 x.ring, .int .i64 x.sends, .int .i64 x.box] 94 (0, 0))) := Ext.alloc (Ext.alloc (Ext.refl _) _) _
  generalize (w.alloc (.cells #[.int .i64 c.frame, .int .i64 c.epoch, .slice pp c.plans.length cp, .slice (some ⟨db, doff, none⟩) c.doms.length cd] 26 (0, 0))).alloc (.cells #[.int .i64 x.level, .int .u64 x.cats, .slice rp x.routes.length rc, .slice ep x.release.length ec, .int .i64 x.to, .int .i64 x.threads, .int .i64 x.groups, .int .i64 x.ring, .int .i64 x.sends, .int .i64 x.box] 94 (0, 0)) = W1 at *
  simp only [List.getElem?_toArray, List.getElem?_cons_succ, List.getElem?_cons_zero, World.size_alloc] at hbx
  have HBX := hid hbx
  clear hbx
  go_loopw [28] (fun v6 wr => Ext W1 wr ∧ ∃ k : Nat, v6 = .int .i64 k ∧ k ≤ x.release.length ∧ Hid ((x.release.take k).all (fun n => withB n 0 c.frame) = true)) (fun v6 _ => (x.release.length - intOf v6).toNat)
  case atStart => exact ⟨(by repeat (first | exact Ext.refl _ | refine Ext.more ?_ _)), 0, rfl, by omega, rfl⟩
  case round =>
    obtain ⟨hx, k, rfl, hk, ht⟩ := hrel
    obtain ⟨b0, b1, b2, b3, q2, q3, q4⟩ := HBX.out _ hx
    have hw := hx0.trans hx
    have hbs : w.heap.size + 1 < wr.heap.size := World.block_lt_of_cell? _ _ q3
    have hbs' : w.heap.size < wr.heap.size := by omega
    by_cases hlt : k < x.release.length
    · obtain ⟨eb, eo, rfl, s0, -⟩ := DEh.out.at k hlt
      simp only [Nat.mul_one] at s0
      have f0 := hw.cell s0
      have hA := hid (all_take' x.release (fun n => withB n 0 c.frame) k hlt ht.out)
      have hB := hid (all_bad' x.release (fun n => withB n 0 c.frame) k hlt)
      clear s0
      generalize x.release[k] = n at *
      have i3 : (k : Int) < x.release.length := by omega
      cases hwx : withB n 0 c.frame
      · have HWX := hid hwx
        clear hwx
        go_wp2_with (go_at_call 88; refine (cwithin_to HWX.out _).yields ?_; intro p1)
        go_returns
        exact ⟨by simp [giveC, HT.out, hB.out HWX.out], hw.more _⟩
      · have HWX := hid hwx
        clear hwx
        go_wp2_with (go_at_call 88; refine (cwithin_to HWX.out _).yields ?_; intro p1)
        go_roundw
        case rel => exact ⟨hx.more _, k + 1, by go_num, by omega, by unfold Hid; rw [hA.out]; exact HWX.out⟩
        case measure => simp [intOf]; omega
    · obtain rfl : k = x.release.length := by omega
      have h1 := ht.out
      rw [List.take_length] at h1
      have H1 := hid h1
      clear h1
      have HCW := hid (HC.out.ext hw)
      cases hpl : withB x.to 0 ((c.doms.length : Int) - 1)
      · have HPL := hid hpl
        clear hpl
        go_wp2_with (go_at_call 100; refine (isPlace_to HPL.out _ _ _ HCW.out).yields ?_; intro p1)
        go_returns
        exact ⟨by simp [giveC, HT.out, H1.out, HW1.out, HPL.out], hw.more _⟩
      have hwb := withB_iff.1 hpl
      have HPL := hid hpl
      obtain ⟨j, hj⟩ := Int.eq_ofNat_of_zero_le hwb.1
      rw [hj] at hwb q4
      have hjl : j < c.doms.length := by omega
      have HJ := hid hj
      clear hj hpl
      cases hab : risesB (labAt c.doms j).1 (labAt c.doms j).2 (labAt c.doms i).1 (labAt c.doms i).2
      all_goals
        have HAB := hid hab
        clear hab
        go_wp2_with (first | (go_at_call 100; refine (isPlace_to (HJ.out ▸ HPL.out) _ _ _ HCW.out).yields ?_; intro p1) | (go_at_call 101; refine (isAbove_to HAB.out _ _ _ (HCW.out.ext (by repeat (first | exact Ext.refl _ | assumption | refine Ext.more ?_ _ | refine Ext.drew ?_ | refine Ext.drewN ?_ _ | refine Ext.alloc ?_ _ | refine Ext.setCell ?_ (by simp; try omega) _ | refine Ext.trans ?_ (by assumption)))) hi hjl).yields ?_; intro p2))
        go_returns
        exact ⟨by simp [giveC, HT.out, H1.out, HW1.out, HPL.out]; rw [HJ.out, HAB.out], (by repeat (first | exact Ext.refl _ | assumption | refine Ext.more ?_ _ | refine Ext.drew ?_ | refine Ext.drewN ?_ _ | refine Ext.alloc ?_ _ | refine Ext.setCell ?_ (by simp; try omega) _ | refine Ext.trans ?_ (by assumption)))⟩
theorem gives_to {c : Cnf} {i : Nat} (hi : i < c.doms.length) {r : Bool} (e : giveC c.doms c.frame (labAt c.doms i) c.doms[i] = r) (w : World) (pv dv : Value) (hc : ConfV w c pv dv) :
    Calls Tryz.prog 91 #[confV c pv dv, .int .i64 i] w (Yields w (.bool r)) := e ▸ gives_any w c pv dv hc i hi
end Go.Proofs.YtmpgeabfogcblaaGreat
