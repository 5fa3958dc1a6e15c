/- StrideScales: of every two weights, every now, and every pass within a stride above now: what it is when the weight changes lies within the new stride above now: the law answers true. No conditions. -/
import Derived.Test.YtmkljkijpglofaaSdK
import Derived.Test.YtmkljkijpglofaaOwn2
namespace Go.Proofs.Ytmkljkijpglofaa
open Go.ChangeShapes Go.WideShapes Go.ChangeAt Go.RowKit Go.Joins Go.Deep

namespace strideScales
theorem weight_of (x : Int) : isW (x % 16 + 1) = true := by
  rw [isW_iff]; omega
theorem over_in (x k : Int) (hk : 0 ≤ k) : 0 ≤ x % (k + 1) ∧ x % (k + 1) ≤ k := by
  have := Int.emod_nonneg x (by omega : k + 1 ≠ 0)
  have := Int.emod_lt_of_pos x (by omega : 0 < k + 1)
  omega
/-- What was within the old stride is within the new one. -/
theorem scale_in {n d a b : Int} (ha : isW a = true) (h0 : 0 ≤ d) (h1 : d ≤ ofW a) : n ≤ scaleW (n + d) n a b ∧ scaleW (n + d) n a b ≤ n + ofW b ∧ (a = b → scaleW (n + d) n a b = n + d) ∧ (d = 0 → scaleW (n + d) n a b = n) := by
  have hp := ofW_pos ha
  have hb := ofW_bounds b
  have hq := ofW_bounds a
  unfold scaleW
  by_cases hd : d = 0
  · subst hd; simp; omega
  · rw [if_neg (by omega), show n + d - n = d by omega]
    have hx : 0 ≤ d * ofW b := Int.mul_nonneg h0 hb.1
    rw [Int.tdiv_eq_ediv_of_nonneg hx]
    have hy : 0 ≤ d * ofW b / ofW a := Int.ediv_nonneg hx (by omega)
    have hz : d * ofW b / ofW a ≤ ofW b := by
      have : d * ofW b ≤ ofW a * ofW b := Int.mul_le_mul_of_nonneg_right h1 hb.1
      have := Int.ediv_le_ediv (by omega : 0 < ofW a) this
      rwa [Int.mul_ediv_cancel_left _ (by omega : ofW a ≠ 0)] at this
    refine ⟨by omega, by omega, ?_, fun h => absurd h hd⟩
    intro e
    subst e
    rw [Int.mul_ediv_cancel _ (by omega : ofW a ≠ 0)]

set_option maxHeartbeats 4000000 in
theorem walk (over now a b : Int) (ho : 0 ≤ over ∧ over ≤ 4294967295) (hn : 0 ≤ now ∧ now ≤ 4294967295) (ha : 0 ≤ a ∧ a ≤ 255) (hb : 0 ≤ b ∧ b ≤ 255) (w : World) :
    Calls Try.prog 5 #[.int .u32 over, .int .u32 now, .int .u8 a, .int .u8 b] w (Yields w (.bool true)) := by
  have wx := hid (weight_of a)
  have wy := hid (weight_of b)
  have hx := ofW_bounds (a % 16 + 1)
  have hd := over_in over _ hx.1
  have hy := ofW_bounds (b % 16 + 1)
  have HS := hid (scale_in (n := now) (b := b % 16 + 1) wx.out hd.1 hd.2)
  have hz : (ofW (a % 16 + 1) + 1 == 0) = false := by rw [beq_eq_false_iff_ne]; omega
  go_enter Try.func5, Try.ntmps5
  go_upto_region 4 with (go_at_call 7; refine (known_any _).yields ?_; intro p0)
  generalize a % 16 + 1 = x at *
  generalize b % 16 + 1 = y at *
  by_cases hxy : x = y
  · subst hxy
    go_wp2_with (first
      | (go_at_call 10; (with_reducible refine (ofW_any _ _).yields ?_); intro p0)
      | (go_at_call 16; (with_reducible refine (scaleW_any _ _ _ _ wx.out (by omega) (by omega) (by omega) (by omega) _).yields ?_); intro p0))
    all_goals
      go_returns
      obtain ⟨s1, s2, s3, s4⟩ := HS.out
      have s5 := (by first | exact s3 rfl | exact s3 trivial)
      refine ⟨?_, (by repeat (first | exact Ext.refl _ | assumption | refine Ext.more ?_ _ | refine Ext.drew ?_ | refine Ext.drewN ?_ _ | refine Ext.alloc ?_ _ | refine Ext.setCell ?_ (by simp; try omega) _ | refine Ext.trans ?_ (by assumption)))⟩
      first
        | (simp; done)
        | (simp; omega)
  · have h1 : (x != y) = true := by rw [bne_iff_ne]; exact hxy
    go_wp2_with (first
      | (go_at_call 10; (with_reducible refine (ofW_any _ _).yields ?_); intro p0)
      | (go_at_call 16; (with_reducible refine (scaleW_any _ _ _ _ wx.out (by omega) (by omega) (by omega) (by omega) _).yields ?_); intro p0))
    all_goals
      go_returns
      obtain ⟨s1, s2, s3, s4⟩ := HS.out
      refine ⟨?_, (by repeat (first | exact Ext.refl _ | assumption | refine Ext.more ?_ _ | refine Ext.drew ?_ | refine Ext.drewN ?_ _ | refine Ext.alloc ?_ _ | refine Ext.setCell ?_ (by simp; try omega) _ | refine Ext.trans ?_ (by assumption)))⟩
      first
        | (simp; done)
        | (simp; omega)

set_option linter.unusedVariables false in
set_option maxRecDepth 100000 in
theorem lifted (os : Os) (started : os.Started) (H : Type) (enc : TypeId × Value → H) :
    ReturnsInHanded {} Try.checked os 5 .any (Rows.strideScalesSpec.pre6 enc Try.prog Try.f5 Rows.strideScalesRow.domain false) (Rows.strideScalesSpec.post enc Try.prog Try.f5 false true false false) := by
  refine returnsInHanded_of_change (C := Try.checked) Own.own started (by kernel_rfl) Try.func5
    (ChangeSpec.witness6 (enc := enc) (C := Try.checked) false ⟨#[], #[.int .u32 0, .int .u32 0, .int .u8 0, .int .u8 0], []⟩ 8 (by kernel_rfl) (by kernel_rfl) (by kernel_rfl) (by kernel_rfl)) ?_
  intro W base args ds gs before hval0 hW hcnd _
  have hval : ∀ (j : Nat) t v, Try.f5.params[j]? = some t → args[j]? = some v → Value.okWide Try.prog W .any base t v := hval0
  have hW' := hW
  obtain ⟨p, q, hA0, hV, rfl, hfz, hnd⟩ := hW
  have hA : DataW.TrodAll enc Try.prog W 0 (fun _ => true) true Try.f5.params.toList args.toList ds p := hA0
  rw [Try.params5] at hA hval
  obtain ⟨v0, vs0, d0, ds0, p0, q0, hargs, rfl, rfl, h0, r0⟩ := trodAll_cons hA
  obtain ⟨v1, vs1, d1, ds1, p1, q1, rfl, rfl, rfl, h1, r1⟩ := trodAll_cons r0
  obtain ⟨v2, vs2, d2, ds2, p2, q2, rfl, rfl, rfl, h2, r2⟩ := trodAll_cons r1
  obtain ⟨v3, vs3, d3, ds3, p3, q3, rfl, rfl, rfl, h3, r3⟩ := trodAll_cons r2
  obtain ⟨rfl, rfl, rfl⟩ := trodAll_nil r3
  obtain rfl : args = #[v0, v1, v2, v3] := by cases args; simp_all
  obtain ⟨rfl, rfl⟩ := trodVars_none hV
  have k0 := h0
  have lt0 : ∀ x ∈ p0, x.block < W.heap.size := by obtain ⟨m, hm⟩ := k0; exact DataW.trod_lt m _ _ _ hm
  have k1 := h1
  have lt1 : ∀ x ∈ p1, x.block < W.heap.size := by obtain ⟨m, hm⟩ := k1; exact DataW.trod_lt m _ _ _ hm
  have k2 := h2
  have lt2 : ∀ x ∈ p2, x.block < W.heap.size := by obtain ⟨m, hm⟩ := k2; exact DataW.trod_lt m _ _ _ hm
  have k3 := h3
  have lt3 : ∀ x ∈ p3, x.block < W.heap.size := by obtain ⟨m, hm⟩ := k3; exact DataW.trod_lt m _ _ _ hm
  obtain ⟨o, rfl, rfl, rfl, wo⟩ := open_int Try.underlying30 (hval 0 30 v0 rfl rfl) h0
  obtain ⟨n, rfl, rfl, rfl, wn⟩ := open_int Try.underlying30 (hval 1 30 v1 rfl rfl) h1
  obtain ⟨a, rfl, rfl, rfl, wa⟩ := open_int Try.underlying5 (hval 2 5 v2 rfl rfl) h2
  obtain ⟨b, rfl, rfl, rfl, wb⟩ := open_int Try.underlying5 (hval 3 5 v3 rfl rfl) h3
  have bo := bounds_u32 wo
  have bn := bounds_u32 wn
  have ba := bounds_u8 wa
  have bb := bounds_u8 wb
  clear hA0 hval0
  refine (walk o n a b ⟨by omega, by omega⟩ ⟨by omega, by omega⟩ ⟨by omega, by omega⟩ ⟨by omega, by omega⟩ W).mono fun e W' ⟨he, hx⟩ => ?_
  subst he
  exact ⟨_, rfl, _, _, _, [], _, [], hW', trodAll_mk1 (shut_bool Try.underlying4 _), (trodAll_cons_mk (Below.trod Own.laidOut (by kernel_rfl) (of_decide_eq_true (by kernel_rfl)) k0 hx.below lt0) (trodAll_cons_mk (Below.trod Own.laidOut (by kernel_rfl) (of_decide_eq_true (by kernel_rfl)) k1 hx.below lt1) (trodAll_cons_mk (Below.trod Own.laidOut (by kernel_rfl) (of_decide_eq_true (by kernel_rfl)) k2 hx.below lt2) (trodAll_cons_mk (Below.trod Own.laidOut (by kernel_rfl) (of_decide_eq_true (by kernel_rfl)) k3 hx.below lt3) trodAll_mk0)))), rfl, hx.below.frame _, fun h => by cases h⟩

theorem proved : Rows.StrideScalesSaid :=
  OpenClaim.holds_of_wide 5 Try.f5 rfl rfl rfl rfl rfl rfl rfl ⟨rfl, rfl, rfl, rfl, rfl⟩ rfl rfl rfl rfl rfl (by kernel_rfl) Try.func5 (by kernel_rfl)
    (of_decide_eq_true (by kernel_rfl)) (by unfold Func.isWrapper; first | (rw [if_pos (by decide +kernel)]; kernel_rfl) | (rw [if_neg (by decide +kernel)]; exact ⟨rfl, rfl⟩))
    (fun os started H enc _ => lifted os started H enc)

end strideScales
end Go.Proofs.Ytmkljkijpglofaa
