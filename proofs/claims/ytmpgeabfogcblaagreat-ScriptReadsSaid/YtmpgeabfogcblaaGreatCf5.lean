/- What conf.Same comes to: the domains, the whole. -/
import Derived.Test.YtmpgeabfogcblaaGreatCf4
namespace Go.Proofs.YtmpgeabfogcblaaGreat
open Go.RowKit

theorem sameAll_len : ∀ (l m : List Dom), l.length ≠ m.length → sameAll l m = false
  | [], [], h => absurd rfl h
  | [], _ :: _, _ => rfl
  | _ :: _, [], _ => rfl
  | x :: l, y :: m, h => by simp [sameAll, sameAll_len l m (by simpa using h)]

set_option maxRecDepth 100000 in
set_option maxHeartbeats 4000000 in
theorem eqDoms_any (w : World) (va vb : Value) (la lb : List Dom) (ha : DomsV w va la) (hb : DomsV w vb lb) :
    Calls Tryz.prog 67 #[va, vb, .func (.func 68) #[] #[]] w (Yields w (.bool (sameAll la lb))) := by
  obtain ⟨pa, ca, rfl, hca, hma⟩ := ha.shape
  obtain ⟨pb, cb, rfl, hcb, hmb⟩ := hb.shape
  unfold maxLen at hma hmb
  have HA := hid ha
  have HB := hid hb
  clear ha hb
  by_cases hl : la.length = lb.length
  · have l1 : (la.length : Int) ≤ lb.length := by omega
    have l2 : (lb.length : Int) ≤ la.length := by omega
    have l3 : ((la.length : Int) == (lb.length : Int)) = true := by simp; omega
    have l4 : ((la.length : Int) != (lb.length : Int)) = false := by simp; omega
    have HL := hid hl
    clear hl
    go_enter Tryz.func67, Tryz.ntmps67
    go_wp2
    go_loopw [17] (fun v5 wr => Ext w wr ∧ ∃ k : Nat, v5 = .int .i64 k ∧ k ≤ la.length ∧ Hid (sameAll la lb = sameAll (la.drop k) (lb.drop k))) (fun v5 _ => (la.length - intOf v5).toNat)
    case atStart => exact ⟨Ext.refl _, 0, rfl, by omega, rfl⟩
    case round =>
      obtain ⟨hx, k, rfl, hk, ht⟩ := hrel
      by_cases hlt : k < la.length
      · obtain ⟨ba, oa, rfl, ar, ae, DA, na, ea, -⟩ := HA.out.at k hlt
        obtain ⟨bb, ob, rfl, br, be, DB, nb, eb, -⟩ := HB.out.at k (by have := HL.out; omega)
        have hs : Hid (sameAll la lb = (sameD la[k] (lb[k]'(by have := HL.out; omega)) && sameAll (la.drop (k + 1)) (lb.drop (k + 1)))) := by
          unfold Hid
          rw [ht.out, List.drop_eq_getElem_cons hlt, List.drop_eq_getElem_cons (show k < lb.length by have := HL.out; omega)]
          rfl
        obtain ⟨c0, c1, c2, c3, c4, c5, c6, c7, c8, c9⟩ := DA.ext hx
        obtain ⟨d0, d1, d2, d3, d4, d5, d6, d7, d8, d9⟩ := DB.ext hx
        have hba : ba < wr.heap.size := World.block_lt_of_cell? _ _ c0
        have hbb : bb < wr.heap.size := World.block_lt_of_cell? _ _ d0
        obtain ⟨ap1, ac1, rfl, -, -⟩ := na.shape
        obtain ⟨ap2, ac2, rfl, -, -⟩ := ea.shape
        obtain ⟨bp1, bc1, rfl, -, -⟩ := nb.shape
        obtain ⟨bp2, bc2, rfl, -, -⟩ := eb.shape
        have NA := hid (na.ext hx)
        have NB := hid (nb.ext hx)
        have EA := hid (ea.ext hx)
        have EB := hid (eb.ext hx)
        clear DA DB na nb ea eb
        generalize la[k] = x at *
        generalize lb[k]'(by have := HL.out; omega) = y at *
        have i1 : (k : Int) < la.length := by omega
        have i2 : (k : Int) < lb.length := by omega
        cases hd : sameD x y
        · have HD := hid hd
          clear hd
          go_wp2_with (go_at_call 68; refine (sameDomain_to HD.out _ _ _ _ _ (NA.out.ext (by repeat (first | exact Ext.refl _ | assumption | refine Ext.more ?_ _ | refine Ext.drew ?_ | refine Ext.drewN ?_ _ | refine Ext.alloc ?_ _ | refine Ext.setCell ?_ (by simp; try omega) _ | refine Ext.trans ?_ (by assumption)))) (EA.out.ext (by repeat (first | exact Ext.refl _ | assumption | refine Ext.more ?_ _ | refine Ext.drew ?_ | refine Ext.drewN ?_ _ | refine Ext.alloc ?_ _ | refine Ext.setCell ?_ (by simp; try omega) _ | refine Ext.trans ?_ (by assumption)))) (NB.out.ext (by repeat (first | exact Ext.refl _ | assumption | refine Ext.more ?_ _ | refine Ext.drew ?_ | refine Ext.drewN ?_ _ | refine Ext.alloc ?_ _ | refine Ext.setCell ?_ (by simp; try omega) _ | refine Ext.trans ?_ (by assumption)))) (EB.out.ext (by repeat (first | exact Ext.refl _ | assumption | refine Ext.more ?_ _ | refine Ext.drew ?_ | refine Ext.drewN ?_ _ | refine Ext.alloc ?_ _ | refine Ext.setCell ?_ (by simp; try omega) _ | refine Ext.trans ?_ (by assumption))))).yields ?_; intro p1)
          go_returns
          exact ⟨by simp [hs.out, HD.out], by repeat (first | exact hx | refine Ext.more ?_ _ | refine Ext.alloc ?_ _)⟩
        · have HD := hid hd
          clear hd
          go_wp2_with (go_at_call 68; refine (sameDomain_to HD.out _ _ _ _ _ (NA.out.ext (by repeat (first | exact Ext.refl _ | assumption | refine Ext.more ?_ _ | refine Ext.drew ?_ | refine Ext.drewN ?_ _ | refine Ext.alloc ?_ _ | refine Ext.setCell ?_ (by simp; try omega) _ | refine Ext.trans ?_ (by assumption)))) (EA.out.ext (by repeat (first | exact Ext.refl _ | assumption | refine Ext.more ?_ _ | refine Ext.drew ?_ | refine Ext.drewN ?_ _ | refine Ext.alloc ?_ _ | refine Ext.setCell ?_ (by simp; try omega) _ | refine Ext.trans ?_ (by assumption)))) (NB.out.ext (by repeat (first | exact Ext.refl _ | assumption | refine Ext.more ?_ _ | refine Ext.drew ?_ | refine Ext.drewN ?_ _ | refine Ext.alloc ?_ _ | refine Ext.setCell ?_ (by simp; try omega) _ | refine Ext.trans ?_ (by assumption)))) (EB.out.ext (by repeat (first | exact Ext.refl _ | assumption | refine Ext.more ?_ _ | refine Ext.drew ?_ | refine Ext.drewN ?_ _ | refine Ext.alloc ?_ _ | refine Ext.setCell ?_ (by simp; try omega) _ | refine Ext.trans ?_ (by assumption))))).yields ?_; intro p1)
          go_roundw
          case rel => exact ⟨by repeat (first | exact hx | refine Ext.more ?_ _ | refine Ext.alloc ?_ _), k + 1, by go_num, by omega, by unfold Hid; rw [hs.out, HD.out]; rfl⟩
          case measure => simp [intOf]; omega
      · obtain rfl : k = la.length := by omega
        have he := ht.out
        rw [List.drop_length, HL.out, List.drop_length] at he
        have HE := hid he
        clear he
        go_wp2
        go_returns
        exact ⟨by rw [HE.out]; simp [sameAll], hx⟩
  · have hne := hid (sameAll_len la lb hl)
    have hl' : ((la.length : Int) == (lb.length : Int)) = false := by simp; omega
    have hl'' : ((la.length : Int) != (lb.length : Int)) = true := by simp; omega
    go_enter Tryz.func67, Tryz.ntmps67
    go_wp2
    go_returns
    exact ⟨by simp [hne.out], (by repeat (first | exact Ext.refl _ | assumption | refine Ext.more ?_ _ | refine Ext.drew ?_ | refine Ext.drewN ?_ _ | refine Ext.alloc ?_ _ | refine Ext.setCell ?_ (by simp; try omega) _ | refine Ext.trans ?_ (by assumption)))⟩

set_option maxRecDepth 100000 in
set_option maxHeartbeats 4000000 in
theorem confSame_any (w : World) (a b : Cnf) (pa da pb db : Value) (ha : ConfV w a pa da) (hb : ConfV w b pb db) :
    Calls Tryz.prog 36 #[confV a pa da, confV b pb db] w (Yields w (.bool (sameC a b))) := by
  have HA := hid ha
  have HB := hid hb
  clear ha hb
  go_enter Tryz.func36, Tryz.ntmps36
  cases h0 : a.frame == b.frame
  · go_wp2_with fail
    go_returns
    exact ⟨by simp [sameC, h0], (by repeat (first | exact Ext.refl _ | assumption | refine Ext.more ?_ _ | refine Ext.drew ?_ | refine Ext.drewN ?_ _ | refine Ext.alloc ?_ _ | refine Ext.setCell ?_ (by simp; try omega) _ | refine Ext.trans ?_ (by assumption)))⟩
  cases h1 : a.epoch == b.epoch
  · go_wp2_with fail
    go_returns
    exact ⟨by simp [sameC, h1], (by repeat (first | exact Ext.refl _ | assumption | refine Ext.more ?_ _ | refine Ext.drew ?_ | refine Ext.drewN ?_ _ | refine Ext.alloc ?_ _ | refine Ext.setCell ?_ (by simp; try omega) _ | refine Ext.trans ?_ (by assumption)))⟩
  cases h2 : decide (a.plans = b.plans)
  · have Q2 := hid h2
    clear h2
    go_wp2_with (go_at_call 66; (with_reducible refine (csameRows_to Q2.out _ _ _ (HA.out.plans.ext (by repeat (first | exact Ext.refl _ | assumption | refine Ext.more ?_ _ | refine Ext.drew ?_ | refine Ext.drewN ?_ _ | refine Ext.alloc ?_ _ | refine Ext.setCell ?_ (by simp; try omega) _ | refine Ext.trans ?_ (by assumption)))) (HB.out.plans.ext (by repeat (first | exact Ext.refl _ | assumption | refine Ext.more ?_ _ | refine Ext.drew ?_ | refine Ext.drewN ?_ _ | refine Ext.alloc ?_ _ | refine Ext.setCell ?_ (by simp; try omega) _ | refine Ext.trans ?_ (by assumption))))).yields ?_); intro p1)
    go_returns
    exact ⟨by simp [sameC, Q2.out], (by repeat (first | exact Ext.refl _ | assumption | refine Ext.more ?_ _ | refine Ext.drew ?_ | refine Ext.drewN ?_ _ | refine Ext.alloc ?_ _ | refine Ext.setCell ?_ (by simp; try omega) _ | refine Ext.trans ?_ (by assumption)))⟩
  have Q2 := hid h2
  clear h2
  go_wp2_with (first
    | (go_at_call 66; (with_reducible refine (csameRows_to Q2.out _ _ _ (HA.out.plans.ext (by repeat (first | exact Ext.refl _ | assumption | refine Ext.more ?_ _ | refine Ext.drew ?_ | refine Ext.drewN ?_ _ | refine Ext.alloc ?_ _ | refine Ext.setCell ?_ (by simp; try omega) _ | refine Ext.trans ?_ (by assumption)))) (HB.out.plans.ext (by repeat (first | exact Ext.refl _ | assumption | refine Ext.more ?_ _ | refine Ext.drew ?_ | refine Ext.drewN ?_ _ | refine Ext.alloc ?_ _ | refine Ext.setCell ?_ (by simp; try omega) _ | refine Ext.trans ?_ (by assumption))))).yields ?_); intro p1)
    | (go_at_call 67; (with_reducible refine (eqDoms_any _ _ _ _ _ (HA.out.doms.ext (by repeat (first | exact Ext.refl _ | assumption | refine Ext.more ?_ _ | refine Ext.drew ?_ | refine Ext.drewN ?_ _ | refine Ext.alloc ?_ _ | refine Ext.setCell ?_ (by simp; try omega) _ | refine Ext.trans ?_ (by assumption)))) (HB.out.doms.ext (by repeat (first | exact Ext.refl _ | assumption | refine Ext.more ?_ _ | refine Ext.drew ?_ | refine Ext.drewN ?_ _ | refine Ext.alloc ?_ _ | refine Ext.setCell ?_ (by simp; try omega) _ | refine Ext.trans ?_ (by assumption))))).yields ?_); intro p2))
  go_returns
  exact ⟨by simp [sameC, Q2.out, h0, h1], (by repeat (first | exact Ext.refl _ | assumption | refine Ext.more ?_ _ | refine Ext.drew ?_ | refine Ext.drewN ?_ _ | refine Ext.alloc ?_ _ | refine Ext.setCell ?_ (by simp; try omega) _ | refine Ext.trans ?_ (by assumption)))⟩
theorem confSame_to {a b : Cnf} {r : Bool} (e : sameC a b = r) (w : World) (pa da pb db : Value) (ha : ConfV w a pa da) (hb : ConfV w b pb db) :
    Calls Tryz.prog 36 #[confV a pa da, confV b pb db] w (Yields w (.bool r)) := e ▸ confSame_any w a b pa da pb db ha hb
end Go.Proofs.YtmpgeabfogcblaaGreat
