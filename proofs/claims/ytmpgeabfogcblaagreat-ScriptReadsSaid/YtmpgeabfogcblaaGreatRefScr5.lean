/- The document's own row, as a walk. -/
import Derived.Test.YtmpgeabfogcblaaGreatRef2
import Derived.Test.YtmpgeabfogcblaaGreatRefScr2
namespace Go.Proofs.YtmpgeabfogcblaaGreat
open Go.RowKit

theorem take_flat {α : Type} (g : α → List UInt8) {l : List α} {k : Nat} (h : k < l.length) : (l.take (k + 1)).flatMap g = (l.take k).flatMap g ++ g l[k] := by
  rw [List.take_succ_eq_append_getElem h, List.flatMap_append, List.flatMap_singleton]

set_option maxRecDepth 100000 in
set_option maxHeartbeats 1000000 in
theorem rrow_any (w : World) (va : Value) (la : List Int) (ha : Nums .i64 w va la) (hl : la.length ≤ 1000000) :
    Calls Tryz.prog 54 #[va] w (Yields w (.string (str (rowB la)))) := by
  obtain ⟨pa, ca, rfl, hca, hma⟩ := ha.shape
  unfold maxLen at hma
  have HA := hid ha
  clear ha
  go_enter Tryz.func54, Tryz.ntmps54
  go_wp2_with (go_at_call 52; (with_reducible refine (fnum_any _ _).yields ?_); intro p0)
  have hx0 : Ext w (more w p0) := ext_more _ _
  generalize more w p0 = W1 at *
  go_loopw [3, 4] (fun v3 v4 wr => Ext w wr ∧ ∃ (k : Nat) (pre : List UInt8), v3 = .string (str pre) ∧ v4 = .int .i64 k ∧ k ≤ la.length ∧ pre.length ≤ 3000003 ∧ Hid (pre = numB la.length ++ (la.take k).flatMap numB ∧ pre.length ≤ 3 + 3 * k)) (fun v3 v4 _ => (la.length - intOf v4).toNat)
  case atStart => exact ⟨by first | exact hx0 | exact hx0.trans (by repeat (first | exact Ext.refl _ | assumption | refine Ext.more ?_ _ | refine Ext.drew ?_ | refine Ext.drewN ?_ _ | refine Ext.alloc ?_ _ | refine Ext.setCell ?_ (by simp; try omega) _ | refine Ext.trans ?_ (by assumption))), 0, numB la.length, rfl, rfl, by omega, by have := numB_length la.length; omega, by simp, by have := numB_length la.length; omega⟩
  case round =>
    obtain ⟨hx, k, pre, rfl, rfl, hk, hp, ht⟩ := hrel
    by_cases hlt : k < la.length
    · obtain ⟨ba, oa, rfl, a0, _⟩ := HA.out.at k hlt
      simp only [Nat.mul_one] at a0
      have c0 := hx.cell a0
      have hba : ba < wr.heap.size := World.block_lt_of_cell? _ _ c0
      have hT := hid (take_flat numB hlt)
      clear a0
      generalize la[k] = x at *
      have i1 : (k : Int) < la.length := by omega
      have hlen : (numB x).length ≤ 3 := numB_length x
      have hsum : pre.length + (numB x).length ≤ 3000006 := by omega
      go_wp2_with (go_at_call 52; (with_reducible refine (fnum_any _ _).yields ?_); intro p1)
      go_roundw
      case rel => exact ⟨(by repeat (first | exact Ext.refl _ | assumption | refine Ext.more ?_ _ | refine Ext.drew ?_ | refine Ext.drewN ?_ _ | refine Ext.alloc ?_ _ | refine Ext.setCell ?_ (by simp; try omega) _ | refine Ext.trans ?_ (by assumption))), k + 1, pre ++ numB x, rfl, by go_num, by omega, by have := ht.out.2; simp; omega, by rw [hT.out, ht.out.1, List.append_assoc], by have := ht.out.2; simp; omega⟩
      case measure => simp [intOf]; omega
    · obtain rfl : k = la.length := by omega
      have he := ht.out.1
      rw [List.take_length] at he
      have HE := hid he
      clear he
      go_wp2
      go_returns
      exact ⟨by rw [HE.out]; rfl, hx⟩
end Go.Proofs.YtmpgeabfogcblaaGreat
