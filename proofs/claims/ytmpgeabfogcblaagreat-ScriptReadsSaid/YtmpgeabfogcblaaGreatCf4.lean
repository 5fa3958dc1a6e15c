/- What conf.Same comes to. -/
import Derived.Test.YtmpgeabfogcblaaGreatCf0
namespace Go.Proofs.YtmpgeabfogcblaaGreat
open Go.RowKit

set_option maxRecDepth 100000 in
set_option maxHeartbeats 1000000 in
theorem sEqual_any (w : World) (va vb : Value) (la lb : List Int) (ha : Nums .i64 w va la) (hb : Nums .i64 w vb lb) :
    Calls Tryz.prog 95 #[va, vb] w (Yields w (.bool (decide (la = lb)))) := by
  obtain ⟨pa, ca, rfl, hca, hma⟩ := ha.shape
  obtain ⟨pb, cb, rfl, hcb, hmb⟩ := hb.shape
  unfold maxLen at hma hmb
  have HA := hid ha
  have HB := hid hb
  clear ha hb
  by_cases hl : la.length = lb.length
  · have l1 : (la.length : Int) ≤ lb.length := by omega
    have l2 : (lb.length : Int) ≤ la.length := by omega
    have l3 : ((la.length : Int) == (lb.length : Int)) = true := by simp; omega
    have l4 : ((la.length : Int) != (lb.length : Int)) = false := by simp; omega
    have HL := hid hl
    clear hl
    go_enter Tryz.func95, Tryz.ntmps95
    go_wp2
    go_loopw [13] (fun v5 wr => Ext w wr ∧ ∃ k : Nat, v5 = .int .i64 k ∧ k ≤ la.length ∧ Hid (la.take k = lb.take k)) (fun v5 _ => (la.length - intOf v5).toNat)
    case atStart => exact ⟨Ext.refl _, 0, rfl, by omega, rfl⟩
    case round =>
      obtain ⟨hx, k, rfl, hk, ht⟩ := hrel
      by_cases hlt : k < la.length
      · obtain ⟨ba, oa, rfl, a0, _⟩ := HA.out.at k hlt
        obtain ⟨bb, ob, rfl, b0, _⟩ := HB.out.at k (by have := HL.out; omega)
        have m0 := more_cell (hx.cell a0)
        have m1 := more_cell (hx.cell b0)
        simp only [Nat.mul_one] at m0 m1
        have hs : Hid (la[k] = lb[k]'(by have := HL.out; omega) → la.take (k + 1) = lb.take (k + 1)) := fun h => by
          rw [List.take_succ_eq_append_getElem hlt, List.take_succ_eq_append_getElem (by have := HL.out; omega), ht.out, h]
        have hn : Hid (la[k] ≠ lb[k]'(by have := HL.out; omega) → la ≠ lb) := fun h e => h (by subst e; rfl)
        clear a0 b0
        generalize la[k] = x at *
        generalize lb[k]'(by have := HL.out; omega) = y at *
        have i1 : (k : Int) < la.length := by omega
        have i2 : (k : Int) < lb.length := by omega
        rcases (show x = y ∨ x ≠ y from by omega) with he | he
        · subst he
          have hsx := hs.out rfl
          clear hs
          go_wp2
          ((first | refine wp_region_more (by kernel_rfl) (by kernel_rfl) ?_ | refine wp_region_ext (by kernel_rfl) (by kernel_rfl) ?_); (try dsimp only [append_cons', append_nil']); (repeat (go_big_quiet_step ((fail)))); refine wpQuiet_nil ?_; rintro _ ⟨pq, rfl⟩)
          go_wp2
          go_roundw
          case rel => exact ⟨hx.trans (ext_more _ _), k + 1, by go_num, by omega, hid hsx⟩
          case measure => simp [intOf]; omega
        · have hb : (x == y) = false := by simpa using he
          have hb' : (x != y) = true := by simpa using he
          go_wp2
          ((first | refine wp_region_more (by kernel_rfl) (by kernel_rfl) ?_ | refine wp_region_ext (by kernel_rfl) (by kernel_rfl) ?_); (try dsimp only [append_cons', append_nil']); (repeat (go_big_quiet_step ((fail)))); refine wpQuiet_nil ?_; rintro _ ⟨pq, rfl⟩)
          go_wp2
          go_returns
          exact ⟨by simp [hn.out he], hx.trans (ext_more _ _)⟩
      · obtain rfl : k = la.length := by omega
        have he := ht.out
        rw [List.take_length, HL.out, List.take_length] at he
        have HE := hid he
        clear he
        go_wp2
        go_returns
        exact ⟨by simp [HE.out], hx⟩
  · have hne : la ≠ lb := fun h => hl (by rw [h])
    have hl' : ((la.length : Int) == (lb.length : Int)) = false := by simp; omega
    have hl'' : ((la.length : Int) != (lb.length : Int)) = true := by simp; omega
    go_enter Tryz.func95, Tryz.ntmps95
    go_wp2
    go_returns
    exact ⟨by simp [hne], (by repeat (first | exact Ext.refl _ | assumption | refine Ext.more ?_ _ | refine Ext.drew ?_ | refine Ext.drewN ?_ _ | refine Ext.alloc ?_ _ | refine Ext.setCell ?_ (by simp; try omega) _ | refine Ext.trans ?_ (by assumption)))⟩
theorem sEqual_to {la lb : List Int} {r : Bool} (e : decide (la = lb) = r) (w : World) (va vb : Value) (ha : Nums .i64 w va la) (hb : Nums .i64 w vb lb) :
    Calls Tryz.prog 95 #[va, vb] w (Yields w (.bool r)) := e ▸ sEqual_any w va vb la lb ha hb

set_option maxRecDepth 100000 in
set_option maxHeartbeats 1000000 in
theorem eqRows_any (w : World) (va vb : Value) (la lb : List (List Int)) (ha : RowsV w va la) (hb : RowsV w vb lb) :
    Calls Tryz.prog 94 #[va, vb, .func (.func 95) #[] #[]] w (Yields w (.bool (decide (la = lb)))) := by
  obtain ⟨pa, ca, rfl, hca, hma⟩ := ha.shape
  obtain ⟨pb, cb, rfl, hcb, hmb⟩ := hb.shape
  unfold maxLen at hma hmb
  have HA := hid ha
  have HB := hid hb
  clear ha hb
  by_cases hl : la.length = lb.length
  · have l1 : (la.length : Int) ≤ lb.length := by omega
    have l2 : (lb.length : Int) ≤ la.length := by omega
    have l3 : ((la.length : Int) == (lb.length : Int)) = true := by simp; omega
    have l4 : ((la.length : Int) != (lb.length : Int)) = false := by simp; omega
    have HL := hid hl
    clear hl
    go_enter Tryz.func94, Tryz.ntmps94
    go_wp2
    go_loopw [17] (fun v5 wr => Ext w wr ∧ ∃ k : Nat, v5 = .int .i64 k ∧ k ≤ la.length ∧ Hid (la.take k = lb.take k)) (fun v5 _ => (la.length - intOf v5).toNat)
    case atStart => exact ⟨Ext.refl _, 0, rfl, by omega, rfl⟩
    case round =>
      obtain ⟨hx, k, rfl, hk, ht⟩ := hrel
      by_cases hlt : k < la.length
      · obtain ⟨ba, oa, rfl, ra, a0, na⟩ := HA.out.at k hlt
        obtain ⟨bb, ob, rfl, rb, b0, nb⟩ := HB.out.at k (by have := HL.out; omega)
        have m0 := hx.cell a0
        have m1 := hx.cell b0
        simp only [Nat.mul_one] at m0 m1
        have hs : Hid (la[k] = lb[k]'(by have := HL.out; omega) → la.take (k + 1) = lb.take (k + 1)) := fun h => by
          rw [List.take_succ_eq_append_getElem hlt, List.take_succ_eq_append_getElem (by have := HL.out; omega), ht.out, h]
        have hn : Hid (la[k] ≠ lb[k]'(by have := HL.out; omega) → la ≠ lb) := fun h e => h (by subst e; rfl)
        have ea := hid (na.ext hx)
        have eb := hid (nb.ext hx)
        clear a0 b0 na nb
        generalize la[k] = x at *
        generalize lb[k]'(by have := HL.out; omega) = y at *
        have i1 : (k : Int) < la.length := by omega
        have i2 : (k : Int) < lb.length := by omega
        by_cases he : x = y
        · have hsx := hs.out he
          have hd : Hid (decide (x = y) = true) := by simpa [Hid] using he
          clear hs he hn
          go_wp2_with (go_at_call 95; refine (sEqual_to hd.out _ _ _ ea.out eb.out).yields ?_; intro p1)
          go_roundw
          case rel => exact ⟨hx.more _, k + 1, by go_num, by omega, hid hsx⟩
          case measure => simp [intOf]; omega
        · have hd : Hid (decide (x = y) = false) := by simpa [Hid] using he
          have hne := hid (hn.out he)
          clear hn he hs
          go_wp2_with (go_at_call 95; refine (sEqual_to hd.out _ _ _ ea.out eb.out).yields ?_; intro p1)
          go_returns
          exact ⟨by simp [hne.out], hx.more _⟩
      · obtain rfl : k = la.length := by omega
        have he := ht.out
        rw [List.take_length, HL.out, List.take_length] at he
        have HE := hid he
        clear he
        go_wp2
        go_returns
        exact ⟨by simp [HE.out], hx⟩
  · have hne : la ≠ lb := fun h => hl (by rw [h])
    have hl' : ((la.length : Int) == (lb.length : Int)) = false := by simp; omega
    have hl'' : ((la.length : Int) != (lb.length : Int)) = true := by simp; omega
    go_enter Tryz.func94, Tryz.ntmps94
    go_wp2
    go_returns
    exact ⟨by simp [hne], (by repeat (first | exact Ext.refl _ | assumption | refine Ext.more ?_ _ | refine Ext.drew ?_ | refine Ext.drewN ?_ _ | refine Ext.alloc ?_ _ | refine Ext.setCell ?_ (by simp; try omega) _ | refine Ext.trans ?_ (by assumption)))⟩
theorem csameRows_any (w : World) (va vb : Value) (la lb : List (List Int)) (ha : RowsV w va la) (hb : RowsV w vb lb) :
    Calls Tryz.prog 66 #[va, vb] w (Yields w (.bool (decide (la = lb)))) := by
  go_enter Tryz.func66, Tryz.ntmps66
  go_wp2_with (go_at_call 94; refine (eqRows_any _ _ _ _ _ ha hb).yields ?_; intro p1)
  go_returns
  exact ⟨rfl, (by repeat (first | exact Ext.refl _ | assumption | refine Ext.more ?_ _ | refine Ext.drew ?_ | refine Ext.drewN ?_ _ | refine Ext.alloc ?_ _ | refine Ext.setCell ?_ (by simp; try omega) _ | refine Ext.trans ?_ (by assumption)))⟩
theorem csameRows_to {la lb : List (List Int)} {r : Bool} (e : decide (la = lb) = r) (w : World) (va vb : Value) (ha : RowsV w va la) (hb : RowsV w vb lb) :
    Calls Tryz.prog 66 #[va, vb] w (Yields w (.bool r)) := e ▸ csameRows_any w va vb la lb ha hb

/-- A domain's value. -/
abbrev domV (d : Dom) (vr ve : Value) : Value := .agg #[.int .i64 d.level, .int .u64 d.cats, vr, ve, .int .i64 d.to, .int .i64 d.threads, .int .i64 d.groups, .int .i64 d.ring, .int .i64 d.sends, .int .i64 d.box]

set_option maxRecDepth 100000 in
set_option maxHeartbeats 8000000 in
theorem sameDomain_any (w : World) (x y : Dom) (xr xe yr ye : Value) (hxr : RowsV w xr x.routes) (hxe : Nums .i64 w xe x.release) (hyr : RowsV w yr y.routes) (hye : Nums .i64 w ye y.release) :
    Calls Tryz.prog 68 #[domV x xr xe, domV y yr ye] w (Yields w (.bool (sameD x y))) := by
  have HXR := hid hxr
  have HXE := hid hxe
  have HYR := hid hyr
  have HYE := hid hye
  clear hxr hxe hyr hye
  go_enter Tryz.func68, Tryz.ntmps68
  cases h0 : eqB x.level x.cats y.level y.cats
  · have Q0 := hid h0
    go_wp2_with fail
    go_returns
    exact ⟨by simp [sameD, Q0.out], (by repeat (first | exact Ext.refl _ | assumption | refine Ext.more ?_ _ | refine Ext.drew ?_ | refine Ext.drewN ?_ _ | refine Ext.alloc ?_ _ | refine Ext.setCell ?_ (by simp; try omega) _ | refine Ext.trans ?_ (by assumption)))⟩
  have Q0 := hid h0
  cases h1 : decide (x.routes = y.routes)
  · have Q1 := hid h1
    clear h1
    go_wp2_with (first | (go_at_call 66; (with_reducible refine (csameRows_to Q1.out _ _ _ (HXR.out.ext (by repeat (first | exact Ext.refl _ | assumption | refine Ext.more ?_ _ | refine Ext.drew ?_ | refine Ext.drewN ?_ _ | refine Ext.alloc ?_ _ | refine Ext.setCell ?_ (by simp; try omega) _ | refine Ext.trans ?_ (by assumption)))) (HYR.out.ext (by repeat (first | exact Ext.refl _ | assumption | refine Ext.more ?_ _ | refine Ext.drew ?_ | refine Ext.drewN ?_ _ | refine Ext.alloc ?_ _ | refine Ext.setCell ?_ (by simp; try omega) _ | refine Ext.trans ?_ (by assumption))))).yields ?_); intro p1))
    go_returns
    exact ⟨by simp [sameD, Q0.out, Q1.out], (by repeat (first | exact Ext.refl _ | assumption | refine Ext.more ?_ _ | refine Ext.drew ?_ | refine Ext.drewN ?_ _ | refine Ext.alloc ?_ _ | refine Ext.setCell ?_ (by simp; try omega) _ | refine Ext.trans ?_ (by assumption)))⟩
  have Q1 := hid h1
  clear h1
  cases h2 : decide (x.release = y.release)
  · have Q2 := hid h2
    clear h2
    go_wp2_with (first | (go_at_call 66; (with_reducible refine (csameRows_to Q1.out _ _ _ (HXR.out.ext (by repeat (first | exact Ext.refl _ | assumption | refine Ext.more ?_ _ | refine Ext.drew ?_ | refine Ext.drewN ?_ _ | refine Ext.alloc ?_ _ | refine Ext.setCell ?_ (by simp; try omega) _ | refine Ext.trans ?_ (by assumption)))) (HYR.out.ext (by repeat (first | exact Ext.refl _ | assumption | refine Ext.more ?_ _ | refine Ext.drew ?_ | refine Ext.drewN ?_ _ | refine Ext.alloc ?_ _ | refine Ext.setCell ?_ (by simp; try omega) _ | refine Ext.trans ?_ (by assumption))))).yields ?_); intro p1) | (go_at_call 95; (with_reducible refine (sEqual_to Q2.out _ _ _ (HXE.out.ext (by repeat (first | exact Ext.refl _ | assumption | refine Ext.more ?_ _ | refine Ext.drew ?_ | refine Ext.drewN ?_ _ | refine Ext.alloc ?_ _ | refine Ext.setCell ?_ (by simp; try omega) _ | refine Ext.trans ?_ (by assumption)))) (HYE.out.ext (by repeat (first | exact Ext.refl _ | assumption | refine Ext.more ?_ _ | refine Ext.drew ?_ | refine Ext.drewN ?_ _ | refine Ext.alloc ?_ _ | refine Ext.setCell ?_ (by simp; try omega) _ | refine Ext.trans ?_ (by assumption))))).yields ?_); intro p2))
    go_returns
    exact ⟨by simp [sameD, Q0.out, Q1.out, Q2.out], (by repeat (first | exact Ext.refl _ | assumption | refine Ext.more ?_ _ | refine Ext.drew ?_ | refine Ext.drewN ?_ _ | refine Ext.alloc ?_ _ | refine Ext.setCell ?_ (by simp; try omega) _ | refine Ext.trans ?_ (by assumption)))⟩
  have Q2 := hid h2
  clear h2
  cases h3 : x.to == y.to
  · have Q3 := hid h3
    go_wp2_with (first | (go_at_call 66; (with_reducible refine (csameRows_to Q1.out _ _ _ (HXR.out.ext (by repeat (first | exact Ext.refl _ | assumption | refine Ext.more ?_ _ | refine Ext.drew ?_ | refine Ext.drewN ?_ _ | refine Ext.alloc ?_ _ | refine Ext.setCell ?_ (by simp; try omega) _ | refine Ext.trans ?_ (by assumption)))) (HYR.out.ext (by repeat (first | exact Ext.refl _ | assumption | refine Ext.more ?_ _ | refine Ext.drew ?_ | refine Ext.drewN ?_ _ | refine Ext.alloc ?_ _ | refine Ext.setCell ?_ (by simp; try omega) _ | refine Ext.trans ?_ (by assumption))))).yields ?_); intro p1) | (go_at_call 95; (with_reducible refine (sEqual_to Q2.out _ _ _ (HXE.out.ext (by repeat (first | exact Ext.refl _ | assumption | refine Ext.more ?_ _ | refine Ext.drew ?_ | refine Ext.drewN ?_ _ | refine Ext.alloc ?_ _ | refine Ext.setCell ?_ (by simp; try omega) _ | refine Ext.trans ?_ (by assumption)))) (HYE.out.ext (by repeat (first | exact Ext.refl _ | assumption | refine Ext.more ?_ _ | refine Ext.drew ?_ | refine Ext.drewN ?_ _ | refine Ext.alloc ?_ _ | refine Ext.setCell ?_ (by simp; try omega) _ | refine Ext.trans ?_ (by assumption))))).yields ?_); intro p2))
    go_returns
    exact ⟨by simp [sameD, Q0.out, Q1.out, Q2.out, Q3.out], (by repeat (first | exact Ext.refl _ | assumption | refine Ext.more ?_ _ | refine Ext.drew ?_ | refine Ext.drewN ?_ _ | refine Ext.alloc ?_ _ | refine Ext.setCell ?_ (by simp; try omega) _ | refine Ext.trans ?_ (by assumption)))⟩
  have Q3 := hid h3
  cases h4 : x.threads == y.threads
  · have Q4 := hid h4
    go_wp2_with (first | (go_at_call 66; (with_reducible refine (csameRows_to Q1.out _ _ _ (HXR.out.ext (by repeat (first | exact Ext.refl _ | assumption | refine Ext.more ?_ _ | refine Ext.drew ?_ | refine Ext.drewN ?_ _ | refine Ext.alloc ?_ _ | refine Ext.setCell ?_ (by simp; try omega) _ | refine Ext.trans ?_ (by assumption)))) (HYR.out.ext (by repeat (first | exact Ext.refl _ | assumption | refine Ext.more ?_ _ | refine Ext.drew ?_ | refine Ext.drewN ?_ _ | refine Ext.alloc ?_ _ | refine Ext.setCell ?_ (by simp; try omega) _ | refine Ext.trans ?_ (by assumption))))).yields ?_); intro p1) | (go_at_call 95; (with_reducible refine (sEqual_to Q2.out _ _ _ (HXE.out.ext (by repeat (first | exact Ext.refl _ | assumption | refine Ext.more ?_ _ | refine Ext.drew ?_ | refine Ext.drewN ?_ _ | refine Ext.alloc ?_ _ | refine Ext.setCell ?_ (by simp; try omega) _ | refine Ext.trans ?_ (by assumption)))) (HYE.out.ext (by repeat (first | exact Ext.refl _ | assumption | refine Ext.more ?_ _ | refine Ext.drew ?_ | refine Ext.drewN ?_ _ | refine Ext.alloc ?_ _ | refine Ext.setCell ?_ (by simp; try omega) _ | refine Ext.trans ?_ (by assumption))))).yields ?_); intro p2))
    go_returns
    exact ⟨by simp [sameD, Q0.out, Q1.out, Q2.out, Q3.out, Q4.out], (by repeat (first | exact Ext.refl _ | assumption | refine Ext.more ?_ _ | refine Ext.drew ?_ | refine Ext.drewN ?_ _ | refine Ext.alloc ?_ _ | refine Ext.setCell ?_ (by simp; try omega) _ | refine Ext.trans ?_ (by assumption)))⟩
  have Q4 := hid h4
  cases h5 : x.groups == y.groups
  · have Q5 := hid h5
    go_wp2_with (first | (go_at_call 66; (with_reducible refine (csameRows_to Q1.out _ _ _ (HXR.out.ext (by repeat (first | exact Ext.refl _ | assumption | refine Ext.more ?_ _ | refine Ext.drew ?_ | refine Ext.drewN ?_ _ | refine Ext.alloc ?_ _ | refine Ext.setCell ?_ (by simp; try omega) _ | refine Ext.trans ?_ (by assumption)))) (HYR.out.ext (by repeat (first | exact Ext.refl _ | assumption | refine Ext.more ?_ _ | refine Ext.drew ?_ | refine Ext.drewN ?_ _ | refine Ext.alloc ?_ _ | refine Ext.setCell ?_ (by simp; try omega) _ | refine Ext.trans ?_ (by assumption))))).yields ?_); intro p1) | (go_at_call 95; (with_reducible refine (sEqual_to Q2.out _ _ _ (HXE.out.ext (by repeat (first | exact Ext.refl _ | assumption | refine Ext.more ?_ _ | refine Ext.drew ?_ | refine Ext.drewN ?_ _ | refine Ext.alloc ?_ _ | refine Ext.setCell ?_ (by simp; try omega) _ | refine Ext.trans ?_ (by assumption)))) (HYE.out.ext (by repeat (first | exact Ext.refl _ | assumption | refine Ext.more ?_ _ | refine Ext.drew ?_ | refine Ext.drewN ?_ _ | refine Ext.alloc ?_ _ | refine Ext.setCell ?_ (by simp; try omega) _ | refine Ext.trans ?_ (by assumption))))).yields ?_); intro p2))
    go_returns
    exact ⟨by simp [sameD, Q0.out, Q1.out, Q2.out, Q3.out, Q4.out, Q5.out], (by repeat (first | exact Ext.refl _ | assumption | refine Ext.more ?_ _ | refine Ext.drew ?_ | refine Ext.drewN ?_ _ | refine Ext.alloc ?_ _ | refine Ext.setCell ?_ (by simp; try omega) _ | refine Ext.trans ?_ (by assumption)))⟩
  have Q5 := hid h5
  cases h6 : x.ring == y.ring
  · have Q6 := hid h6
    go_wp2_with (first | (go_at_call 66; (with_reducible refine (csameRows_to Q1.out _ _ _ (HXR.out.ext (by repeat (first | exact Ext.refl _ | assumption | refine Ext.more ?_ _ | refine Ext.drew ?_ | refine Ext.drewN ?_ _ | refine Ext.alloc ?_ _ | refine Ext.setCell ?_ (by simp; try omega) _ | refine Ext.trans ?_ (by assumption)))) (HYR.out.ext (by repeat (first | exact Ext.refl _ | assumption | refine Ext.more ?_ _ | refine Ext.drew ?_ | refine Ext.drewN ?_ _ | refine Ext.alloc ?_ _ | refine Ext.setCell ?_ (by simp; try omega) _ | refine Ext.trans ?_ (by assumption))))).yields ?_); intro p1) | (go_at_call 95; (with_reducible refine (sEqual_to Q2.out _ _ _ (HXE.out.ext (by repeat (first | exact Ext.refl _ | assumption | refine Ext.more ?_ _ | refine Ext.drew ?_ | refine Ext.drewN ?_ _ | refine Ext.alloc ?_ _ | refine Ext.setCell ?_ (by simp; try omega) _ | refine Ext.trans ?_ (by assumption)))) (HYE.out.ext (by repeat (first | exact Ext.refl _ | assumption | refine Ext.more ?_ _ | refine Ext.drew ?_ | refine Ext.drewN ?_ _ | refine Ext.alloc ?_ _ | refine Ext.setCell ?_ (by simp; try omega) _ | refine Ext.trans ?_ (by assumption))))).yields ?_); intro p2))
    go_returns
    exact ⟨by simp [sameD, Q0.out, Q1.out, Q2.out, Q3.out, Q4.out, Q5.out, Q6.out], (by repeat (first | exact Ext.refl _ | assumption | refine Ext.more ?_ _ | refine Ext.drew ?_ | refine Ext.drewN ?_ _ | refine Ext.alloc ?_ _ | refine Ext.setCell ?_ (by simp; try omega) _ | refine Ext.trans ?_ (by assumption)))⟩
  have Q6 := hid h6
  cases h7 : x.sends == y.sends
  · have Q7 := hid h7
    go_wp2_with (first | (go_at_call 66; (with_reducible refine (csameRows_to Q1.out _ _ _ (HXR.out.ext (by repeat (first | exact Ext.refl _ | assumption | refine Ext.more ?_ _ | refine Ext.drew ?_ | refine Ext.drewN ?_ _ | refine Ext.alloc ?_ _ | refine Ext.setCell ?_ (by simp; try omega) _ | refine Ext.trans ?_ (by assumption)))) (HYR.out.ext (by repeat (first | exact Ext.refl _ | assumption | refine Ext.more ?_ _ | refine Ext.drew ?_ | refine Ext.drewN ?_ _ | refine Ext.alloc ?_ _ | refine Ext.setCell ?_ (by simp; try omega) _ | refine Ext.trans ?_ (by assumption))))).yields ?_); intro p1) | (go_at_call 95; (with_reducible refine (sEqual_to Q2.out _ _ _ (HXE.out.ext (by repeat (first | exact Ext.refl _ | assumption | refine Ext.more ?_ _ | refine Ext.drew ?_ | refine Ext.drewN ?_ _ | refine Ext.alloc ?_ _ | refine Ext.setCell ?_ (by simp; try omega) _ | refine Ext.trans ?_ (by assumption)))) (HYE.out.ext (by repeat (first | exact Ext.refl _ | assumption | refine Ext.more ?_ _ | refine Ext.drew ?_ | refine Ext.drewN ?_ _ | refine Ext.alloc ?_ _ | refine Ext.setCell ?_ (by simp; try omega) _ | refine Ext.trans ?_ (by assumption))))).yields ?_); intro p2))
    go_returns
    exact ⟨by simp [sameD, Q0.out, Q1.out, Q2.out, Q3.out, Q4.out, Q5.out, Q6.out, Q7.out], (by repeat (first | exact Ext.refl _ | assumption | refine Ext.more ?_ _ | refine Ext.drew ?_ | refine Ext.drewN ?_ _ | refine Ext.alloc ?_ _ | refine Ext.setCell ?_ (by simp; try omega) _ | refine Ext.trans ?_ (by assumption)))⟩
  have Q7 := hid h7
  cases h8 : x.box == y.box
  · have Q8 := hid h8
    go_wp2_with (first | (go_at_call 66; (with_reducible refine (csameRows_to Q1.out _ _ _ (HXR.out.ext (by repeat (first | exact Ext.refl _ | assumption | refine Ext.more ?_ _ | refine Ext.drew ?_ | refine Ext.drewN ?_ _ | refine Ext.alloc ?_ _ | refine Ext.setCell ?_ (by simp; try omega) _ | refine Ext.trans ?_ (by assumption)))) (HYR.out.ext (by repeat (first | exact Ext.refl _ | assumption | refine Ext.more ?_ _ | refine Ext.drew ?_ | refine Ext.drewN ?_ _ | refine Ext.alloc ?_ _ | refine Ext.setCell ?_ (by simp; try omega) _ | refine Ext.trans ?_ (by assumption))))).yields ?_); intro p1) | (go_at_call 95; (with_reducible refine (sEqual_to Q2.out _ _ _ (HXE.out.ext (by repeat (first | exact Ext.refl _ | assumption | refine Ext.more ?_ _ | refine Ext.drew ?_ | refine Ext.drewN ?_ _ | refine Ext.alloc ?_ _ | refine Ext.setCell ?_ (by simp; try omega) _ | refine Ext.trans ?_ (by assumption)))) (HYE.out.ext (by repeat (first | exact Ext.refl _ | assumption | refine Ext.more ?_ _ | refine Ext.drew ?_ | refine Ext.drewN ?_ _ | refine Ext.alloc ?_ _ | refine Ext.setCell ?_ (by simp; try omega) _ | refine Ext.trans ?_ (by assumption))))).yields ?_); intro p2))
    go_returns
    exact ⟨by simp [sameD, Q0.out, Q1.out, Q2.out, Q3.out, Q4.out, Q5.out, Q6.out, Q7.out, Q8.out], (by repeat (first | exact Ext.refl _ | assumption | refine Ext.more ?_ _ | refine Ext.drew ?_ | refine Ext.drewN ?_ _ | refine Ext.alloc ?_ _ | refine Ext.setCell ?_ (by simp; try omega) _ | refine Ext.trans ?_ (by assumption)))⟩
  have Q8 := hid h8
  go_wp2_with (first | (go_at_call 66; (with_reducible refine (csameRows_to Q1.out _ _ _ (HXR.out.ext (by repeat (first | exact Ext.refl _ | assumption | refine Ext.more ?_ _ | refine Ext.drew ?_ | refine Ext.drewN ?_ _ | refine Ext.alloc ?_ _ | refine Ext.setCell ?_ (by simp; try omega) _ | refine Ext.trans ?_ (by assumption)))) (HYR.out.ext (by repeat (first | exact Ext.refl _ | assumption | refine Ext.more ?_ _ | refine Ext.drew ?_ | refine Ext.drewN ?_ _ | refine Ext.alloc ?_ _ | refine Ext.setCell ?_ (by simp; try omega) _ | refine Ext.trans ?_ (by assumption))))).yields ?_); intro p1) | (go_at_call 95; (with_reducible refine (sEqual_to Q2.out _ _ _ (HXE.out.ext (by repeat (first | exact Ext.refl _ | assumption | refine Ext.more ?_ _ | refine Ext.drew ?_ | refine Ext.drewN ?_ _ | refine Ext.alloc ?_ _ | refine Ext.setCell ?_ (by simp; try omega) _ | refine Ext.trans ?_ (by assumption)))) (HYE.out.ext (by repeat (first | exact Ext.refl _ | assumption | refine Ext.more ?_ _ | refine Ext.drew ?_ | refine Ext.drewN ?_ _ | refine Ext.alloc ?_ _ | refine Ext.setCell ?_ (by simp; try omega) _ | refine Ext.trans ?_ (by assumption))))).yields ?_); intro p2))
  go_returns
  exact ⟨by simp [sameD, Q0.out, Q1.out, Q2.out, Q3.out, Q4.out, Q5.out, Q6.out, Q7.out, Q8.out], (by repeat (first | exact Ext.refl _ | assumption | refine Ext.more ?_ _ | refine Ext.drew ?_ | refine Ext.drewN ?_ _ | refine Ext.alloc ?_ _ | refine Ext.setCell ?_ (by simp; try omega) _ | refine Ext.trans ?_ (by assumption)))⟩
theorem sameDomain_to {x y : Dom} {r : Bool} (e : sameD x y = r) (w : World) (xr xe yr ye : Value) (hxr : RowsV w xr x.routes) (hxe : Nums .i64 w xe x.release) (hyr : RowsV w yr y.routes) (hye : Nums .i64 w ye y.release) :
    Calls Tryz.prog 68 #[domV x xr xe, domV y yr ye] w (Yields w (.bool r)) := e ▸ sameDomain_any w x y xr xe yr ye hxr hxe hyr hye
end Go.Proofs.YtmpgeabfogcblaaGreat
