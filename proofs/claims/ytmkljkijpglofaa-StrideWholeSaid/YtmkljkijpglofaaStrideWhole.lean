/- StrideWhole: of every weight: as many strides as it weighs are the whole: the law answers true. No conditions. -/
import Derived.Test.YtmkljkijpglofaaSdK
import Derived.Test.YtmkljkijpglofaaOwn2
namespace Go.Proofs.Ytmkljkijpglofaa
open Go.ChangeShapes Go.WideShapes Go.ChangeAt Go.RowKit Go.Joins Go.Deep

namespace strideWhole
theorem whole_of : ∀ k : Nat, 1 ≤ k → k ≤ 16 → ofW (k : Int) * (k : Int) = 720720 ∧ ofW ((k : Int) + 16) = 0 := by
  intro k h1 h2
  have h : k = 1 ∨ k = 2 ∨ k = 3 ∨ k = 4 ∨ k = 5 ∨ k = 6 ∨ k = 7 ∨ k = 8 ∨ k = 9 ∨ k = 10 ∨ k = 11 ∨ k = 12 ∨ k = 13 ∨ k = 14 ∨ k = 15 ∨ k = 16 := by omega
  rcases h with rfl | rfl | rfl | rfl | rfl | rfl | rfl | rfl | rfl | rfl | rfl | rfl | rfl | rfl | rfl | rfl <;> decide
theorem whole_of' {x : Int} (h1 : 1 ≤ x) (h2 : x ≤ 16) : ofW x * x = 720720 ∧ ofW (x + 16) = 0 := by
  have := whole_of x.toNat (by omega) (by omega)
  rwa [Int.toNat_of_nonneg (by omega)] at this

set_option maxHeartbeats 4000000 in
theorem walk (a : Int) (ha : 0 ≤ a ∧ a ≤ 255) (w : World) :
    Calls Try.prog 4 #[.int .u8 a] w (Yields w (.bool true)) := by
  have hk1 : 1 ≤ a % 16 + 1 := by omega
  have hk2 : a % 16 + 1 ≤ 16 := by omega
  have HW := hid (whole_of' hk1 hk2)
  have hx := ofW_bounds (a % 16 + 1)
  go_enter Try.func4, Try.ntmps4
  go_upto_region 4 with (go_at_call 7; refine (known_any _).yields ?_; intro p0)
  generalize a % 16 + 1 = x at *
  have HX : Hid (x.toNat = x) := Int.toNat_of_nonneg (by omega)
  go_upto_region 6 with (fail)
  go_loopw [4, 5] (fun v4 v5 wr => Ext w wr ∧ ∃ (i : Nat) (P : Int), v5 = .int .i64 i ∧ v4 = .int .i64 P ∧ (i : Int) ≤ x ∧ 0 ≤ P ∧ P ≤ 720720 * i ∧ Hid (P = ofW x * i)) (fun _ v5 _ => (x - intOf v5).toNat)
  case atStart => exact ⟨(by repeat (first | exact Ext.refl _ | assumption | refine Ext.more ?_ _ | refine Ext.drew ?_ | refine Ext.drewN ?_ _ | refine Ext.alloc ?_ _ | refine Ext.setCell ?_ (by simp; try omega) _ | refine Ext.trans ?_ (by assumption))), 0, 0, rfl, rfl, by omega, by omega, by omega, by simp [Hid]⟩
  case round =>
    obtain ⟨X, i, P, rfl, rfl, hi, hP0, hP1, hP⟩ := hrel
    by_cases hlt : (i : Int) < x
    · go_wp2_with (go_at_call 14; (with_reducible refine (nextW_any _ _ (by omega) (by omega) _).yields ?_); intro p0)
      all_goals
        go_roundw
        case rel => exact ⟨X.more _, i + 1, _, by go_num, rfl, by omega, by omega, by omega, by unfold Hid; rw [hP.out]; push_cast; rw [Int.mul_add, Int.mul_one]⟩
        case measure => simp [intOf]; omega
    · have hix : (i : Int) = x := by omega
      have h2 := hP.out
      rw [hix, HW.out.1] at h2
      have e1 := HW.out.1
      have e2 := HW.out.2
      subst h2
      go_wp2_with (go_at_call 10; (with_reducible refine (ofW_any _ _).yields ?_); intro p0)
      all_goals
        go_returns
        exact ⟨by simp, (by repeat (first | exact Ext.refl _ | assumption | refine Ext.more ?_ _ | refine Ext.drew ?_ | refine Ext.drewN ?_ _ | refine Ext.alloc ?_ _ | refine Ext.setCell ?_ (by simp; try omega) _ | refine Ext.trans ?_ (by assumption)))⟩

set_option linter.unusedVariables false in
set_option maxRecDepth 100000 in
theorem lifted (os : Os) (started : os.Started) (H : Type) (enc : TypeId × Value → H) :
    ReturnsInHanded {} Try.checked os 4 .any (Rows.strideWholeSpec.pre6 enc Try.prog Try.f4 Rows.strideWholeRow.domain false) (Rows.strideWholeSpec.post enc Try.prog Try.f4 false true false false) := by
  refine returnsInHanded_of_change (C := Try.checked) Own.own started (by kernel_rfl) Try.func4
    (ChangeSpec.witness6 (enc := enc) (C := Try.checked) false ⟨#[], #[.int .u8 0], []⟩ 8 (by kernel_rfl) (by kernel_rfl) (by kernel_rfl) (by kernel_rfl)) ?_
  intro W base args ds gs before hval0 hW hcnd _
  have hval : ∀ (j : Nat) t v, Try.f4.params[j]? = some t → args[j]? = some v → Value.okWide Try.prog W .any base t v := hval0
  have hW' := hW
  obtain ⟨p, q, hA0, hV, rfl, hfz, hnd⟩ := hW
  have hA : DataW.TrodAll enc Try.prog W 0 (fun _ => true) true Try.f4.params.toList args.toList ds p := hA0
  rw [Try.params4] at hA hval
  obtain ⟨v0, vs0, d0, ds0, p0, q0, hargs, rfl, rfl, h0, r0⟩ := trodAll_cons hA
  obtain ⟨rfl, rfl, rfl⟩ := trodAll_nil r0
  obtain rfl : args = #[v0] := by cases args; simp_all
  obtain ⟨rfl, rfl⟩ := trodVars_none hV
  have k0 := h0
  have lt0 : ∀ x ∈ p0, x.block < W.heap.size := by obtain ⟨m, hm⟩ := k0; exact DataW.trod_lt m _ _ _ hm
  obtain ⟨a, rfl, rfl, rfl, wa⟩ := open_int Try.underlying5 (hval 0 5 v0 rfl rfl) h0
  have ba := bounds_u8 wa
  clear hA0 hval0
  refine (walk a ⟨by omega, by omega⟩ W).mono fun e W' ⟨he, hx⟩ => ?_
  subst he
  exact ⟨_, rfl, _, _, _, [], _, [], hW', trodAll_mk1 (shut_bool Try.underlying4 _), (trodAll_cons_mk (Below.trod Own.laidOut (by kernel_rfl) (of_decide_eq_true (by kernel_rfl)) k0 hx.below lt0) trodAll_mk0), rfl, hx.below.frame _, fun h => by cases h⟩

theorem proved : Rows.StrideWholeSaid :=
  OpenClaim.holds_of_wide 4 Try.f4 rfl rfl rfl rfl rfl rfl rfl ⟨rfl, rfl, rfl, rfl, rfl⟩ rfl rfl rfl rfl rfl (by kernel_rfl) Try.func4 (by kernel_rfl)
    (of_decide_eq_true (by kernel_rfl)) (by unfold Func.isWrapper; first | (rw [if_pos (by decide +kernel)]; kernel_rfl) | (rw [if_neg (by decide +kernel)]; exact ⟨rfl, rfl⟩))
    (fun os started H enc _ => lifted os started H enc)

end strideWhole
end Go.Proofs.Ytmkljkijpglofaa
