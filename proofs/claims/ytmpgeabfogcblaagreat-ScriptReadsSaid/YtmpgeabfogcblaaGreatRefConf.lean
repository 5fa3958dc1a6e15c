/- What the document's own functions on configurations (tontineref1) come to. -/
import Derived.Test.YtmpgeabfogcblaaGreatRows
import Derived.Test.YtmpgeabfogcblaaGreatConf
import Derived.WalkKit
import Derived.WalkSpells
import Derived.WalkLawsBesides
import Derived.Deep.QuietTactic
import Derived.BigQuiet
import Derived.Handy
namespace Go.Proofs.YtmpgeabfogcblaaGreat
open Go.RowKit

set_option maxHeartbeats 400000 in
theorem within_any (n a b : Int) (w : World) : Calls Tryz.prog 50 #[.int .i64 n, .int .i64 a, .int .i64 b] w (Yields w (.bool (withB n a b))) := by
  by_cases h : a ≤ n <;>
  · go_enter Tryz.func50, Tryz.ntmps50
    go_wp2
    go_ret
    exact ⟨by simp [withB]; try omega, (by repeat (first | exact Ext.refl _ | assumption | refine Ext.more ?_ _ | refine Ext.drew ?_ | refine Ext.drewN ?_ _ | refine Ext.alloc ?_ _ | refine Ext.setCell ?_ (by simp; try omega) _ | refine Ext.trans ?_ (by assumption)))⟩

set_option maxRecDepth 100000 in
set_option maxHeartbeats 1000000 in
theorem sameInts_any (w : World) (va vb : Value) (la lb : List Int) (ha : Nums .i64 w va la) (hb : Nums .i64 w vb lb) :
    Calls Tryz.prog 56 #[va, vb] w (Yields w (.bool (decide (la = lb)))) := by
  obtain ⟨pa, ca, rfl, hca, hma⟩ := ha.shape
  obtain ⟨pb, cb, rfl, hcb, hmb⟩ := hb.shape
  unfold maxLen at hma hmb
  have HA := hid ha
  have HB := hid hb
  clear ha hb
  by_cases hl : la.length = lb.length
  · have l1 : (la.length : Int) ≤ lb.length := by omega
    have l2 : (lb.length : Int) ≤ la.length := by omega
    have l3 : ((la.length : Int) == (lb.length : Int)) = true := by simp; omega
    have HL := hid hl
    clear hl
    go_enter Tryz.func56, Tryz.ntmps56
    go_wp2
    go_loopw [5] (fun v5 wr => Ext w wr ∧ ∃ k : Nat, v5 = .int .i64 k ∧ k ≤ la.length ∧ Hid (la.take k = lb.take k)) (fun v5 _ => (la.length - intOf v5).toNat)
    case atStart => exact ⟨Ext.refl _, 0, rfl, by omega, rfl⟩
    case round =>
      obtain ⟨hx, k, rfl, hk, ht⟩ := hrel
      by_cases hlt : k < la.length
      · obtain ⟨ba, oa, rfl, a0, _⟩ := HA.out.at k hlt
        obtain ⟨bb, ob, rfl, b0, _⟩ := HB.out.at k (by have := HL.out; omega)
        have m0 := more_cell (hx.cell a0)
        have m1 := more_cell (hx.cell b0)
        simp only [Nat.mul_one] at m0 m1
        have hs : Hid (la[k] = lb[k]'(by have := HL.out; omega) → la.take (k + 1) = lb.take (k + 1)) := fun h => by
          rw [List.take_succ_eq_append_getElem hlt, List.take_succ_eq_append_getElem (by have := HL.out; omega), ht.out, h]
        have hn : Hid (la[k] ≠ lb[k]'(by have := HL.out; omega) → la ≠ lb) := fun h e => h (by subst e; rfl)
        clear a0 b0
        generalize la[k] = x at *
        generalize lb[k]'(by have := HL.out; omega) = y at *
        have i1 : (k : Int) < la.length := by omega
        have i2 : (k : Int) < lb.length := by omega
        rcases (show x = y ∨ x ≠ y from by omega) with he | he
        · subst he
          have hsx := hs.out rfl
          clear hs
          go_wp2
          ((first | refine wp_region_more (by kernel_rfl) (by kernel_rfl) ?_ | refine wp_region_ext (by kernel_rfl) (by kernel_rfl) ?_); (try dsimp only [append_cons', append_nil']); (repeat (go_big_quiet_step ((fail)))); refine wpQuiet_nil ?_; rintro _ ⟨pq, rfl⟩)
          go_wp2
          go_roundw
          case rel => exact ⟨hx.trans (ext_more _ _), k + 1, by go_num, by omega, hid hsx⟩
          case measure => simp [intOf]; omega
        · have hb : (x == y) = false := by simpa using he
          go_wp2
          ((first | refine wp_region_more (by kernel_rfl) (by kernel_rfl) ?_ | refine wp_region_ext (by kernel_rfl) (by kernel_rfl) ?_); (try dsimp only [append_cons', append_nil']); (repeat (go_big_quiet_step ((fail)))); refine wpQuiet_nil ?_; rintro _ ⟨pq, rfl⟩)
          go_wp2
          go_returns
          exact ⟨by simp [hn.out he], hx.trans (ext_more _ _)⟩
      · obtain rfl : k = la.length := by omega
        have he := ht.out
        rw [List.take_length, HL.out, List.take_length] at he
        have HE := hid he
        clear he
        go_wp2
        go_returns
        exact ⟨by simp [HE.out], hx⟩
  · have hne : la ≠ lb := fun h => hl (by rw [h])
    have hl' : ((la.length : Int) == (lb.length : Int)) = false := by simp; omega
    go_enter Tryz.func56, Tryz.ntmps56
    go_wp2
    go_returns
    exact ⟨by simp [hne], (by repeat (first | exact Ext.refl _ | assumption | refine Ext.more ?_ _ | refine Ext.drew ?_ | refine Ext.drewN ?_ _ | refine Ext.alloc ?_ _ | refine Ext.setCell ?_ (by simp; try omega) _ | refine Ext.trans ?_ (by assumption)))⟩
theorem sameInts_to {la lb : List Int} {r : Bool} (e : decide (la = lb) = r) (w : World) (va vb : Value) (ha : Nums .i64 w va la) (hb : Nums .i64 w vb lb) :
    Calls Tryz.prog 56 #[va, vb] w (Yields w (.bool r)) := e ▸ sameInts_any w va vb la lb ha hb

set_option maxRecDepth 100000 in
set_option maxHeartbeats 1000000 in
theorem sameRows_any (w : World) (va vb : Value) (la lb : List (List Int)) (ha : RowsV w va la) (hb : RowsV w vb lb) :
    Calls Tryz.prog 55 #[va, vb] w (Yields w (.bool (decide (la = lb)))) := by
  obtain ⟨pa, ca, rfl, hca, hma⟩ := ha.shape
  obtain ⟨pb, cb, rfl, hcb, hmb⟩ := hb.shape
  unfold maxLen at hma hmb
  have HA := hid ha
  have HB := hid hb
  clear ha hb
  by_cases hl : la.length = lb.length
  · have l1 : (la.length : Int) ≤ lb.length := by omega
    have l2 : (lb.length : Int) ≤ la.length := by omega
    have l3 : ((la.length : Int) == (lb.length : Int)) = true := by simp; omega
    have HL := hid hl
    clear hl
    go_enter Tryz.func55, Tryz.ntmps55
    go_wp2
    go_loopw [5] (fun v5 wr => Ext w wr ∧ ∃ k : Nat, v5 = .int .i64 k ∧ k ≤ la.length ∧ Hid (la.take k = lb.take k)) (fun v5 _ => (la.length - intOf v5).toNat)
    case atStart => exact ⟨Ext.refl _, 0, rfl, by omega, rfl⟩
    case round =>
      obtain ⟨hx, k, rfl, hk, ht⟩ := hrel
      by_cases hlt : k < la.length
      · obtain ⟨ba, oa, rfl, ra, a0, na⟩ := HA.out.at k hlt
        obtain ⟨bb, ob, rfl, rb, b0, nb⟩ := HB.out.at k (by have := HL.out; omega)
        have m0 := more_cell (hx.cell a0)
        have m1 := more_cell (hx.cell b0)
        simp only [Nat.mul_one] at m0 m1
        have hs : Hid (la[k] = lb[k]'(by have := HL.out; omega) → la.take (k + 1) = lb.take (k + 1)) := fun h => by
          rw [List.take_succ_eq_append_getElem hlt, List.take_succ_eq_append_getElem (by have := HL.out; omega), ht.out, h]
        have hn : Hid (la[k] ≠ lb[k]'(by have := HL.out; omega) → la ≠ lb) := fun h e => h (by subst e; rfl)
        have ea := hid (na.ext hx)
        have eb := hid (nb.ext hx)
        clear a0 b0 na nb
        generalize la[k] = x at *
        generalize lb[k]'(by have := HL.out; omega) = y at *
        have i1 : (k : Int) < la.length := by omega
        have i2 : (k : Int) < lb.length := by omega
        by_cases he : x = y
        · have hsx := hs.out he
          have hd : Hid (decide (x = y) = true) := by simpa [Hid] using he
          clear hs he hn
          go_wp2
          ((first | refine wp_region_more (by kernel_rfl) (by kernel_rfl) ?_ | refine wp_region_ext (by kernel_rfl) (by kernel_rfl) ?_); (try dsimp only [append_cons', append_nil']); (repeat (go_big_quiet_step ((go_at_call 56; refine Calls.more_of (sameInts_to hd.out _ _ _ (ea.out.ext (ext_more _ _)) (eb.out.ext (ext_more _ _))))))); refine wpQuiet_nil ?_; rintro _ ⟨pq, rfl⟩)
          go_wp2
          go_roundw
          case rel => exact ⟨hx.trans (ext_more _ _), k + 1, by go_num, by omega, hid hsx⟩
          case measure => simp [intOf]; omega
        · have hd : Hid (decide (x = y) = false) := by simpa [Hid] using he
          have hne := hid (hn.out he)
          clear hn he hs
          go_wp2
          ((first | refine wp_region_more (by kernel_rfl) (by kernel_rfl) ?_ | refine wp_region_ext (by kernel_rfl) (by kernel_rfl) ?_); (try dsimp only [append_cons', append_nil']); (repeat (go_big_quiet_step ((go_at_call 56; refine Calls.more_of (sameInts_to hd.out _ _ _ (ea.out.ext (ext_more _ _)) (eb.out.ext (ext_more _ _))))))); refine wpQuiet_nil ?_; rintro _ ⟨pq, rfl⟩)
          go_wp2
          go_returns
          exact ⟨by simp [hne.out], hx.trans (ext_more _ _)⟩
      · obtain rfl : k = la.length := by omega
        have he := ht.out
        rw [List.take_length, HL.out, List.take_length] at he
        have HE := hid he
        clear he
        go_wp2
        go_returns
        exact ⟨by simp [HE.out], hx⟩
  · have hne : la ≠ lb := fun h => hl (by rw [h])
    have hl' : ((la.length : Int) == (lb.length : Int)) = false := by simp; omega
    go_enter Tryz.func55, Tryz.ntmps55
    go_wp2
    go_returns
    exact ⟨by simp [hne], (by repeat (first | exact Ext.refl _ | assumption | refine Ext.more ?_ _ | refine Ext.drew ?_ | refine Ext.drewN ?_ _ | refine Ext.alloc ?_ _ | refine Ext.setCell ?_ (by simp; try omega) _ | refine Ext.trans ?_ (by assumption)))⟩
theorem sameRows_to {la lb : List (List Int)} {r : Bool} (e : decide (la = lb) = r) (w : World) (va vb : Value) (ha : RowsV w va la) (hb : RowsV w vb lb) :
    Calls Tryz.prog 55 #[va, vb] w (Yields w (.bool r)) := e ▸ sameRows_any w va vb la lb ha hb
end Go.Proofs.YtmpgeabfogcblaaGreat
