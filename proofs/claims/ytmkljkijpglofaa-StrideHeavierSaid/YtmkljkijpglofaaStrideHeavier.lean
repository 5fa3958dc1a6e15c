/- StrideHeavier: of every two weights and every two counts: who is heavier goes shorter ways, as often as he is heavier; fairness goes both ways and is kept when both have had a whole more: the law answers true. No conditions. -/
import Derived.Test.YtmkljkijpglofaaSdK
import Derived.Test.YtmkljkijpglofaaOwn2
namespace Go.Proofs.Ytmkljkijpglofaa
open Go.ChangeShapes Go.WideShapes Go.ChangeAt Go.RowKit Go.Joins Go.Deep

namespace strideHeavier
theorem lt_fin : ∀ x y : Fin 16, decide (ofW ((x.val : Int) + 1) < ofW ((y.val : Int) + 1)) = decide (y.val < x.val) ∧ ofW ((x.val : Int) + 1) * ((x.val : Int) + 1) = 720720 := by decide
theorem lt_of {x y : Int} (hx : 1 ≤ x ∧ x ≤ 16) (hy : 1 ≤ y ∧ y ≤ 16) : (ofW x < ofW y ↔ y < x) ∧ ofW x * x = 720720 := by
  have h := lt_fin ⟨(x - 1).toNat, by omega⟩ ⟨(y - 1).toNat, by omega⟩
  have e1 : (((x - 1).toNat : Nat) : Int) + 1 = x := by omega
  have e2 : (((y - 1).toNat : Nat) : Int) + 1 = y := by omega
  simp only [e1, e2, decide_eq_decide] at h
  refine ⟨?_, h.2⟩
  rw [h.1]; omega

theorem held_of {n : Int} (h : 0 ≤ n ∧ n ≤ 1048576) : heldW n 1048576 = n := by unfold heldW; omega
theorem fair_swap (n a m b : Int) : fairW m b n a = fairW n a m b := by
  unfold fairW; rw [decide_eq_decide]
  generalize heldW n 1048576 * ofW a = p
  generalize heldW m 1048576 * ofW b = q
  omega
theorem fair_more {n a m b : Int} (hn : 0 ≤ n ∧ n ≤ 65535) (hm : 0 ≤ m ∧ m ≤ 65535) (ha : 1 ≤ a ∧ a ≤ 16) (hb : 1 ≤ b ∧ b ≤ 16) : fairW (n + a) a (m + b) b = fairW n a m b := by
  unfold fairW
  rw [held_of (n := n) (by omega), held_of (n := m) (by omega), held_of (n := n + a) (by omega), held_of (n := m + b) (by omega)]
  have e1 := (lt_of ha hb).2
  have e2 := (lt_of hb ha).2
  rw [Int.add_mul, Int.add_mul, Int.mul_comm a, Int.mul_comm b, e1, e2, decide_eq_decide]
  generalize n * ofW a = p
  generalize m * ofW b = q
  omega
theorem fair_self (n a : Int) : fairW n a n a = true := by
  have := ofW_bounds a
  unfold fairW; rw [decide_eq_true_eq, Int.sub_self]; simp; omega
theorem fair_first (a b : Int) : fairW 0 a 1 b = true := by
  have := ofW_bounds a
  have := ofW_bounds b
  unfold fairW; rw [decide_eq_true_eq, held_of (n := 0) (by omega), held_of (n := 1) (by omega)]; omega

set_option maxHeartbeats 4000000 in
theorem walkA (a b n m : Int) (ha : 0 ≤ a ∧ a ≤ 255) (hb : 0 ≤ b ∧ b ≤ 255) (hn : 0 ≤ n ∧ n ≤ 65535) (hm : 0 ≤ m ∧ m ≤ 65535) (hf : fairW n (a % 16 + 1) m (b % 16 + 1) = false) (w : World) :
    Calls Try.prog 6 #[.int .u8 a, .int .u8 b, .int .u16 n, .int .u16 m] w (Yields w (.bool true)) := by
  have hx1 : 1 ≤ a % 16 + 1 := by omega
  have hx2 : a % 16 + 1 ≤ 16 := by omega
  have hy1 : 1 ≤ b % 16 + 1 := by omega
  have hy2 : b % 16 + 1 ≤ 16 := by omega
  go_enter Try.func6, Try.ntmps6
  go_upto_region 5 with (go_at_call 7; refine (known_any _).yields ?_; intro p0)
  generalize a % 16 + 1 = x at *
  generalize b % 16 + 1 = y at *
  have LT := (lt_of ⟨hx1, hx2⟩ ⟨hy1, hy2⟩).1
  have hlt : (decide (ofW x < ofW y) != decide (y < x)) = false := by rw [bne_eq_false_iff_eq, decide_eq_decide]; exact LT
  have hmul : (ofW x * x != ofW y * y) = false := by rw [(lt_of ⟨hx1, hx2⟩ ⟨hy1, hy2⟩).2, (lt_of ⟨hy1, hy2⟩ ⟨hx1, hx2⟩).2]; rfl
  have bx := ofW_bounds x
  have by' := ofW_bounds y
  have mx : ofW x * x = 720720 := (lt_of ⟨hx1, hx2⟩ ⟨hy1, hy2⟩).2
  have my : ofW y * y = 720720 := (lt_of ⟨hy1, hy2⟩ ⟨hx1, hx2⟩).2
  have F1 := hid hf
  have F2 := hid ((fair_swap n x m y).trans hf)
  have F3 := hid ((fair_more hn hm ⟨hx1, hx2⟩ ⟨hy1, hy2⟩).trans hf)
  clear hf hlt hmul
  go_wp2_with (first
    | (go_at_call 10; (with_reducible refine (ofW_any _ _).yields ?_); intro p0)
    | (go_at_call 12; (first
        | (with_reducible refine (fair_to F1.out _).yields ?_)
        | (with_reducible refine (fair_to F2.out _).yields ?_)
        | (with_reducible refine (fair_to F3.out _).yields ?_)
        | (with_reducible refine (fair_to (fair_self n x) _).yields ?_)
        | (with_reducible refine (fair_to (fair_first x y) _).yields ?_)); intro p0))
  all_goals
    go_returns
    refine ⟨?_, (by repeat (first | exact Ext.refl _ | assumption | refine Ext.more ?_ _ | refine Ext.drew ?_ | refine Ext.drewN ?_ _ | refine Ext.alloc ?_ _ | refine Ext.setCell ?_ (by simp; try omega) _ | refine Ext.trans ?_ (by assumption)))⟩
    first
      | (simp; done)
      | (simp; omega)
set_option maxHeartbeats 4000000 in
theorem walkB (a b n m : Int) (ha : 0 ≤ a ∧ a ≤ 255) (hb : 0 ≤ b ∧ b ≤ 255) (hn : 0 ≤ n ∧ n ≤ 65535) (hm : 0 ≤ m ∧ m ≤ 65535) (hf : fairW n (a % 16 + 1) m (b % 16 + 1) = true) (w : World) :
    Calls Try.prog 6 #[.int .u8 a, .int .u8 b, .int .u16 n, .int .u16 m] w (Yields w (.bool true)) := by
  have hx1 : 1 ≤ a % 16 + 1 := by omega
  have hx2 : a % 16 + 1 ≤ 16 := by omega
  have hy1 : 1 ≤ b % 16 + 1 := by omega
  have hy2 : b % 16 + 1 ≤ 16 := by omega
  go_enter Try.func6, Try.ntmps6
  go_upto_region 5 with (go_at_call 7; refine (known_any _).yields ?_; intro p0)
  generalize a % 16 + 1 = x at *
  generalize b % 16 + 1 = y at *
  have LT := (lt_of ⟨hx1, hx2⟩ ⟨hy1, hy2⟩).1
  have hlt : (decide (ofW x < ofW y) != decide (y < x)) = false := by rw [bne_eq_false_iff_eq, decide_eq_decide]; exact LT
  have hmul : (ofW x * x != ofW y * y) = false := by rw [(lt_of ⟨hx1, hx2⟩ ⟨hy1, hy2⟩).2, (lt_of ⟨hy1, hy2⟩ ⟨hx1, hx2⟩).2]; rfl
  have bx := ofW_bounds x
  have by' := ofW_bounds y
  have mx : ofW x * x = 720720 := (lt_of ⟨hx1, hx2⟩ ⟨hy1, hy2⟩).2
  have my : ofW y * y = 720720 := (lt_of ⟨hy1, hy2⟩ ⟨hx1, hx2⟩).2
  have F1 := hid hf
  have F2 := hid ((fair_swap n x m y).trans hf)
  have F3 := hid ((fair_more hn hm ⟨hx1, hx2⟩ ⟨hy1, hy2⟩).trans hf)
  clear hf hlt hmul
  go_wp2_with (first
    | (go_at_call 10; (with_reducible refine (ofW_any _ _).yields ?_); intro p0)
    | (go_at_call 12; (first
        | (with_reducible refine (fair_to F1.out _).yields ?_)
        | (with_reducible refine (fair_to F2.out _).yields ?_)
        | (with_reducible refine (fair_to F3.out _).yields ?_)
        | (with_reducible refine (fair_to (fair_self n x) _).yields ?_)
        | (with_reducible refine (fair_to (fair_first x y) _).yields ?_)); intro p0))
  all_goals
    go_returns
    refine ⟨?_, (by repeat (first | exact Ext.refl _ | assumption | refine Ext.more ?_ _ | refine Ext.drew ?_ | refine Ext.drewN ?_ _ | refine Ext.alloc ?_ _ | refine Ext.setCell ?_ (by simp; try omega) _ | refine Ext.trans ?_ (by assumption)))⟩
    first
      | (simp; done)
      | (simp; omega)
theorem walk (a b n m : Int) (ha : 0 ≤ a ∧ a ≤ 255) (hb : 0 ≤ b ∧ b ≤ 255) (hn : 0 ≤ n ∧ n ≤ 65535) (hm : 0 ≤ m ∧ m ≤ 65535) (w : World) :
    Calls Try.prog 6 #[.int .u8 a, .int .u8 b, .int .u16 n, .int .u16 m] w (Yields w (.bool true)) := by
  cases hf : fairW n (a % 16 + 1) m (b % 16 + 1)
  · exact walkA a b n m ha hb hn hm hf w
  · exact walkB a b n m ha hb hn hm hf w

set_option linter.unusedVariables false in
set_option maxRecDepth 100000 in
theorem lifted (os : Os) (started : os.Started) (H : Type) (enc : TypeId × Value → H) :
    ReturnsInHanded {} Try.checked os 6 .any (Rows.strideHeavierSpec.pre6 enc Try.prog Try.f6 Rows.strideHeavierRow.domain false) (Rows.strideHeavierSpec.post enc Try.prog Try.f6 false true false false) := by
  refine returnsInHanded_of_change (C := Try.checked) Own.own started (by kernel_rfl) Try.func6
    (ChangeSpec.witness6 (enc := enc) (C := Try.checked) false ⟨#[], #[.int .u8 0, .int .u8 0, .int .u16 0, .int .u16 0], []⟩ 8 (by kernel_rfl) (by kernel_rfl) (by kernel_rfl) (by kernel_rfl)) ?_
  intro W base args ds gs before hval0 hW hcnd _
  have hval : ∀ (j : Nat) t v, Try.f6.params[j]? = some t → args[j]? = some v → Value.okWide Try.prog W .any base t v := hval0
  have hW' := hW
  obtain ⟨p, q, hA0, hV, rfl, hfz, hnd⟩ := hW
  have hA : DataW.TrodAll enc Try.prog W 0 (fun _ => true) true Try.f6.params.toList args.toList ds p := hA0
  rw [Try.params6] at hA hval
  obtain ⟨v0, vs0, d0, ds0, p0, q0, hargs, rfl, rfl, h0, r0⟩ := trodAll_cons hA
  obtain ⟨v1, vs1, d1, ds1, p1, q1, rfl, rfl, rfl, h1, r1⟩ := trodAll_cons r0
  obtain ⟨v2, vs2, d2, ds2, p2, q2, rfl, rfl, rfl, h2, r2⟩ := trodAll_cons r1
  obtain ⟨v3, vs3, d3, ds3, p3, q3, rfl, rfl, rfl, h3, r3⟩ := trodAll_cons r2
  obtain ⟨rfl, rfl, rfl⟩ := trodAll_nil r3
  obtain rfl : args = #[v0, v1, v2, v3] := by cases args; simp_all
  obtain ⟨rfl, rfl⟩ := trodVars_none hV
  have k0 := h0
  have lt0 : ∀ x ∈ p0, x.block < W.heap.size := by obtain ⟨m, hm⟩ := k0; exact DataW.trod_lt m _ _ _ hm
  have k1 := h1
  have lt1 : ∀ x ∈ p1, x.block < W.heap.size := by obtain ⟨m, hm⟩ := k1; exact DataW.trod_lt m _ _ _ hm
  have k2 := h2
  have lt2 : ∀ x ∈ p2, x.block < W.heap.size := by obtain ⟨m, hm⟩ := k2; exact DataW.trod_lt m _ _ _ hm
  have k3 := h3
  have lt3 : ∀ x ∈ p3, x.block < W.heap.size := by obtain ⟨m, hm⟩ := k3; exact DataW.trod_lt m _ _ _ hm
  obtain ⟨a, rfl, rfl, rfl, wa⟩ := open_int Try.underlying5 (hval 0 5 v0 rfl rfl) h0
  obtain ⟨b, rfl, rfl, rfl, wb⟩ := open_int Try.underlying5 (hval 1 5 v1 rfl rfl) h1
  obtain ⟨n, rfl, rfl, rfl, wn⟩ := open_int Try.underlying32 (hval 2 32 v2 rfl rfl) h2
  obtain ⟨m, rfl, rfl, rfl, wm⟩ := open_int Try.underlying32 (hval 3 32 v3 rfl rfl) h3
  have ba := bounds_u8 wa
  have bb := bounds_u8 wb
  have bn := bounds_u16 wn
  have bm := bounds_u16 wm
  clear hA0 hval0
  refine (walk a b n m ⟨by omega, by omega⟩ ⟨by omega, by omega⟩ ⟨by omega, by omega⟩ ⟨by omega, by omega⟩ W).mono fun e W' ⟨he, hx⟩ => ?_
  subst he
  exact ⟨_, rfl, _, _, _, [], _, [], hW', trodAll_mk1 (shut_bool Try.underlying4 _), (trodAll_cons_mk (Below.trod Own.laidOut (by kernel_rfl) (of_decide_eq_true (by kernel_rfl)) k0 hx.below lt0) (trodAll_cons_mk (Below.trod Own.laidOut (by kernel_rfl) (of_decide_eq_true (by kernel_rfl)) k1 hx.below lt1) (trodAll_cons_mk (Below.trod Own.laidOut (by kernel_rfl) (of_decide_eq_true (by kernel_rfl)) k2 hx.below lt2) (trodAll_cons_mk (Below.trod Own.laidOut (by kernel_rfl) (of_decide_eq_true (by kernel_rfl)) k3 hx.below lt3) trodAll_mk0)))), rfl, hx.below.frame _, fun h => by cases h⟩

theorem proved : Rows.StrideHeavierSaid :=
  OpenClaim.holds_of_wide 6 Try.f6 rfl rfl rfl rfl rfl rfl rfl ⟨rfl, rfl, rfl, rfl, rfl⟩ rfl rfl rfl rfl rfl (by kernel_rfl) Try.func6 (by kernel_rfl)
    (of_decide_eq_true (by kernel_rfl)) (by unfold Func.isWrapper; first | (rw [if_pos (by decide +kernel)]; kernel_rfl) | (rw [if_neg (by decide +kernel)]; exact ⟨rfl, rfl⟩))
    (fun os started H enc _ => lifted os started H enc)

end strideHeavier
end Go.Proofs.Ytmkljkijpglofaa
