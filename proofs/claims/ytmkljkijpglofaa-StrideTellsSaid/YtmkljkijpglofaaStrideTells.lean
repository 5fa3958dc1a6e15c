/- StrideTells: of every two weights, passes and counts: stride's answers are the document's own ones: the law answers true. No conditions. -/
import Derived.Test.YtmkljkijpglofaaSdK
import Derived.Test.YtmkljkijpglofaaOwn2
namespace Go.Proofs.Ytmkljkijpglofaa
open Go.ChangeShapes Go.WideShapes Go.ChangeAt Go.RowKit Go.Joins Go.Deep

namespace strideTells
set_option maxHeartbeats 4000000 in
theorem walkA (a b p now n m : Int) (ha : isW a = false) (hb : isW b = false) (w : World) :
    Calls Try.prog 3 #[.int .i64 a, .int .i64 b, .int .i64 p, .int .i64 now, .int .i64 n, .int .i64 m] w (Yields w (.bool true)) := by
  have HA := hid ha
  have HB := hid hb
  go_enter Try.func3, Try.ntmps3
  go_wp2_with (first
    | (go_at_call 7; refine (known_any _).yields ?_; intro p0)
    | (go_at_call 8; (with_reducible refine (isW_to HA.out _).yields ?_); intro p0)
    | (go_at_call 9; (first | (with_reducible refine (risW_to HA.out _).yields ?_) | (with_reducible refine (risW_to HB.out _).yields ?_)); intro p0)
    | (go_at_call 10; (with_reducible refine (ofW_any _ _).yields ?_); intro p0)
    | (go_at_call 11; (with_reducible refine (rofW_any _ _).yields ?_); intro p0)
    | (go_at_call 14; (with_reducible refine (nextW_any _ _ (by omega) (by omega) _).yields ?_); intro p0)
    | (go_at_call 15; (with_reducible refine (rnextW_any _ _ (by omega) (by omega) _).yields ?_); intro p0)
    | (go_at_call 16; (with_reducible refine (scaleW_any _ _ _ _ HA.out (by omega) (by omega) (by omega) (by omega) _).yields ?_); intro p0)
    | (go_at_call 17; (with_reducible refine (rscaleW_any _ _ _ _ HA.out (by omega) (by omega) (by omega) (by omega) _).yields ?_); intro p0)
    | (go_at_call 12; (with_reducible refine (fair_any _ _ _ _ _).yields ?_); intro p0)
    | (go_at_call 13; (with_reducible refine (rfair_any _ _ _ _ _).yields ?_); intro p0))
  all_goals
    go_returns
    exact ⟨by simp, (by repeat (first | exact Ext.refl _ | assumption | refine Ext.more ?_ _ | refine Ext.drew ?_ | refine Ext.drewN ?_ _ | refine Ext.alloc ?_ _ | refine Ext.setCell ?_ (by simp; try omega) _ | refine Ext.trans ?_ (by assumption)))⟩
set_option maxHeartbeats 4000000 in
theorem walkB (a b p now n m : Int) (ha : isW a = false) (hb : isW b = true) (w : World) :
    Calls Try.prog 3 #[.int .i64 a, .int .i64 b, .int .i64 p, .int .i64 now, .int .i64 n, .int .i64 m] w (Yields w (.bool true)) := by
  have HA := hid ha
  have HB := hid hb
  go_enter Try.func3, Try.ntmps3
  go_wp2_with (first
    | (go_at_call 7; refine (known_any _).yields ?_; intro p0)
    | (go_at_call 8; (with_reducible refine (isW_to HA.out _).yields ?_); intro p0)
    | (go_at_call 9; (first | (with_reducible refine (risW_to HA.out _).yields ?_) | (with_reducible refine (risW_to HB.out _).yields ?_)); intro p0)
    | (go_at_call 10; (with_reducible refine (ofW_any _ _).yields ?_); intro p0)
    | (go_at_call 11; (with_reducible refine (rofW_any _ _).yields ?_); intro p0)
    | (go_at_call 14; (with_reducible refine (nextW_any _ _ (by omega) (by omega) _).yields ?_); intro p0)
    | (go_at_call 15; (with_reducible refine (rnextW_any _ _ (by omega) (by omega) _).yields ?_); intro p0)
    | (go_at_call 16; (with_reducible refine (scaleW_any _ _ _ _ HA.out (by omega) (by omega) (by omega) (by omega) _).yields ?_); intro p0)
    | (go_at_call 17; (with_reducible refine (rscaleW_any _ _ _ _ HA.out (by omega) (by omega) (by omega) (by omega) _).yields ?_); intro p0)
    | (go_at_call 12; (with_reducible refine (fair_any _ _ _ _ _).yields ?_); intro p0)
    | (go_at_call 13; (with_reducible refine (rfair_any _ _ _ _ _).yields ?_); intro p0))
  all_goals
    go_returns
    exact ⟨by simp, (by repeat (first | exact Ext.refl _ | assumption | refine Ext.more ?_ _ | refine Ext.drew ?_ | refine Ext.drewN ?_ _ | refine Ext.alloc ?_ _ | refine Ext.setCell ?_ (by simp; try omega) _ | refine Ext.trans ?_ (by assumption)))⟩
set_option maxHeartbeats 4000000 in
theorem walkC (a b p now n m : Int) (ha : isW a = true) (hb : isW b = false) (w : World) :
    Calls Try.prog 3 #[.int .i64 a, .int .i64 b, .int .i64 p, .int .i64 now, .int .i64 n, .int .i64 m] w (Yields w (.bool true)) := by
  have HA := hid ha
  have HB := hid hb
  go_enter Try.func3, Try.ntmps3
  go_wp2_with (first
    | (go_at_call 7; refine (known_any _).yields ?_; intro p0)
    | (go_at_call 8; (with_reducible refine (isW_to HA.out _).yields ?_); intro p0)
    | (go_at_call 9; (first | (with_reducible refine (risW_to HA.out _).yields ?_) | (with_reducible refine (risW_to HB.out _).yields ?_)); intro p0)
    | (go_at_call 10; (with_reducible refine (ofW_any _ _).yields ?_); intro p0)
    | (go_at_call 11; (with_reducible refine (rofW_any _ _).yields ?_); intro p0)
    | (go_at_call 14; (with_reducible refine (nextW_any _ _ (by omega) (by omega) _).yields ?_); intro p0)
    | (go_at_call 15; (with_reducible refine (rnextW_any _ _ (by omega) (by omega) _).yields ?_); intro p0)
    | (go_at_call 16; (with_reducible refine (scaleW_any _ _ _ _ HA.out (by omega) (by omega) (by omega) (by omega) _).yields ?_); intro p0)
    | (go_at_call 17; (with_reducible refine (rscaleW_any _ _ _ _ HA.out (by omega) (by omega) (by omega) (by omega) _).yields ?_); intro p0)
    | (go_at_call 12; (with_reducible refine (fair_any _ _ _ _ _).yields ?_); intro p0)
    | (go_at_call 13; (with_reducible refine (rfair_any _ _ _ _ _).yields ?_); intro p0))
  all_goals
    go_returns
    exact ⟨by simp, (by repeat (first | exact Ext.refl _ | assumption | refine Ext.more ?_ _ | refine Ext.drew ?_ | refine Ext.drewN ?_ _ | refine Ext.alloc ?_ _ | refine Ext.setCell ?_ (by simp; try omega) _ | refine Ext.trans ?_ (by assumption)))⟩
set_option maxHeartbeats 4000000 in
theorem walkD (a b p now n m : Int) (ha : isW a = true) (hb : isW b = true) (w : World) :
    Calls Try.prog 3 #[.int .i64 a, .int .i64 b, .int .i64 p, .int .i64 now, .int .i64 n, .int .i64 m] w (Yields w (.bool true)) := by
  have HA := hid ha
  have HB := hid hb
  go_enter Try.func3, Try.ntmps3
  go_wp2_with (first
    | (go_at_call 7; refine (known_any _).yields ?_; intro p0)
    | (go_at_call 8; (with_reducible refine (isW_to HA.out _).yields ?_); intro p0)
    | (go_at_call 9; (first | (with_reducible refine (risW_to HA.out _).yields ?_) | (with_reducible refine (risW_to HB.out _).yields ?_)); intro p0)
    | (go_at_call 10; (with_reducible refine (ofW_any _ _).yields ?_); intro p0)
    | (go_at_call 11; (with_reducible refine (rofW_any _ _).yields ?_); intro p0)
    | (go_at_call 14; (with_reducible refine (nextW_any _ _ (by omega) (by omega) _).yields ?_); intro p0)
    | (go_at_call 15; (with_reducible refine (rnextW_any _ _ (by omega) (by omega) _).yields ?_); intro p0)
    | (go_at_call 16; (with_reducible refine (scaleW_any _ _ _ _ HA.out (by omega) (by omega) (by omega) (by omega) _).yields ?_); intro p0)
    | (go_at_call 17; (with_reducible refine (rscaleW_any _ _ _ _ HA.out (by omega) (by omega) (by omega) (by omega) _).yields ?_); intro p0)
    | (go_at_call 12; (with_reducible refine (fair_any _ _ _ _ _).yields ?_); intro p0)
    | (go_at_call 13; (with_reducible refine (rfair_any _ _ _ _ _).yields ?_); intro p0))
  all_goals
    go_returns
    exact ⟨by simp, (by repeat (first | exact Ext.refl _ | assumption | refine Ext.more ?_ _ | refine Ext.drew ?_ | refine Ext.drewN ?_ _ | refine Ext.alloc ?_ _ | refine Ext.setCell ?_ (by simp; try omega) _ | refine Ext.trans ?_ (by assumption)))⟩
theorem walk (a b p now n m : Int) (w : World) :
    Calls Try.prog 3 #[.int .i64 a, .int .i64 b, .int .i64 p, .int .i64 now, .int .i64 n, .int .i64 m] w (Yields w (.bool true)) := by
  cases ha : isW a <;> cases hb : isW b
  · exact walkA a b p now n m ha hb w
  · exact walkB a b p now n m ha hb w
  · exact walkC a b p now n m ha hb w
  · exact walkD a b p now n m ha hb w

set_option linter.unusedVariables false in
set_option maxRecDepth 100000 in
theorem lifted (os : Os) (started : os.Started) (H : Type) (enc : TypeId × Value → H) :
    ReturnsInHanded {} Try.checked os 3 .any (Rows.strideTellsSpec.pre6 enc Try.prog Try.f3 Rows.strideTellsRow.domain false) (Rows.strideTellsSpec.post enc Try.prog Try.f3 false true false false) := by
  refine returnsInHanded_of_change (C := Try.checked) Own.own started (by kernel_rfl) Try.func3
    (ChangeSpec.witness6 (enc := enc) (C := Try.checked) false ⟨#[], #[.int .i64 0, .int .i64 0, .int .i64 0, .int .i64 0, .int .i64 0, .int .i64 0], []⟩ 8 (by kernel_rfl) (by kernel_rfl) (by kernel_rfl) (by kernel_rfl)) ?_
  intro W base args ds gs before hval0 hW hcnd _
  have hval : ∀ (j : Nat) t v, Try.f3.params[j]? = some t → args[j]? = some v → Value.okWide Try.prog W .any base t v := hval0
  have hW' := hW
  obtain ⟨p, q, hA0, hV, rfl, hfz, hnd⟩ := hW
  have hA : DataW.TrodAll enc Try.prog W 0 (fun _ => true) true Try.f3.params.toList args.toList ds p := hA0
  rw [Try.params3] at hA hval
  obtain ⟨v0, vs0, d0, ds0, p0, q0, hargs, rfl, rfl, h0, r0⟩ := trodAll_cons hA
  obtain ⟨v1, vs1, d1, ds1, p1, q1, rfl, rfl, rfl, h1, r1⟩ := trodAll_cons r0
  obtain ⟨v2, vs2, d2, ds2, p2, q2, rfl, rfl, rfl, h2, r2⟩ := trodAll_cons r1
  obtain ⟨v3, vs3, d3, ds3, p3, q3, rfl, rfl, rfl, h3, r3⟩ := trodAll_cons r2
  obtain ⟨v4, vs4, d4, ds4, p4, q4, rfl, rfl, rfl, h4, r4⟩ := trodAll_cons r3
  obtain ⟨v5, vs5, d5, ds5, p5, q5, rfl, rfl, rfl, h5, r5⟩ := trodAll_cons r4
  obtain ⟨rfl, rfl, rfl⟩ := trodAll_nil r5
  obtain rfl : args = #[v0, v1, v2, v3, v4, v5] := by cases args; simp_all
  obtain ⟨rfl, rfl⟩ := trodVars_none hV
  have k0 := h0
  have lt0 : ∀ x ∈ p0, x.block < W.heap.size := by obtain ⟨m, hm⟩ := k0; exact DataW.trod_lt m _ _ _ hm
  have k1 := h1
  have lt1 : ∀ x ∈ p1, x.block < W.heap.size := by obtain ⟨m, hm⟩ := k1; exact DataW.trod_lt m _ _ _ hm
  have k2 := h2
  have lt2 : ∀ x ∈ p2, x.block < W.heap.size := by obtain ⟨m, hm⟩ := k2; exact DataW.trod_lt m _ _ _ hm
  have k3 := h3
  have lt3 : ∀ x ∈ p3, x.block < W.heap.size := by obtain ⟨m, hm⟩ := k3; exact DataW.trod_lt m _ _ _ hm
  have k4 := h4
  have lt4 : ∀ x ∈ p4, x.block < W.heap.size := by obtain ⟨m, hm⟩ := k4; exact DataW.trod_lt m _ _ _ hm
  have k5 := h5
  have lt5 : ∀ x ∈ p5, x.block < W.heap.size := by obtain ⟨m, hm⟩ := k5; exact DataW.trod_lt m _ _ _ hm
  obtain ⟨a, rfl, rfl, rfl, wa⟩ := open_int Try.underlying3 (hval 0 3 v0 rfl rfl) h0
  obtain ⟨b, rfl, rfl, rfl, wb⟩ := open_int Try.underlying3 (hval 1 3 v1 rfl rfl) h1
  obtain ⟨p, rfl, rfl, rfl, wp⟩ := open_int Try.underlying3 (hval 2 3 v2 rfl rfl) h2
  obtain ⟨now, rfl, rfl, rfl, wnow⟩ := open_int Try.underlying3 (hval 3 3 v3 rfl rfl) h3
  obtain ⟨n, rfl, rfl, rfl, wn⟩ := open_int Try.underlying3 (hval 4 3 v4 rfl rfl) h4
  obtain ⟨m, rfl, rfl, rfl, wm⟩ := open_int Try.underlying3 (hval 5 3 v5 rfl rfl) h5
  clear hA0 hval0
  refine (walk a b p now n m W).mono fun e W' ⟨he, hx⟩ => ?_
  subst he
  exact ⟨_, rfl, _, _, _, [], _, [], hW', trodAll_mk1 (shut_bool Try.underlying4 _), (trodAll_cons_mk (Below.trod Own.laidOut (by kernel_rfl) (of_decide_eq_true (by kernel_rfl)) k0 hx.below lt0) (trodAll_cons_mk (Below.trod Own.laidOut (by kernel_rfl) (of_decide_eq_true (by kernel_rfl)) k1 hx.below lt1) (trodAll_cons_mk (Below.trod Own.laidOut (by kernel_rfl) (of_decide_eq_true (by kernel_rfl)) k2 hx.below lt2) (trodAll_cons_mk (Below.trod Own.laidOut (by kernel_rfl) (of_decide_eq_true (by kernel_rfl)) k3 hx.below lt3) (trodAll_cons_mk (Below.trod Own.laidOut (by kernel_rfl) (of_decide_eq_true (by kernel_rfl)) k4 hx.below lt4) (trodAll_cons_mk (Below.trod Own.laidOut (by kernel_rfl) (of_decide_eq_true (by kernel_rfl)) k5 hx.below lt5) trodAll_mk0)))))), rfl, hx.below.frame _, fun h => by cases h⟩

theorem proved : Rows.StrideTellsSaid :=
  OpenClaim.holds_of_wide 3 Try.f3 rfl rfl rfl rfl rfl rfl rfl ⟨rfl, rfl, rfl, rfl, rfl⟩ rfl rfl rfl rfl rfl (by kernel_rfl) Try.func3 (by kernel_rfl)
    (of_decide_eq_true (by kernel_rfl)) (by unfold Func.isWrapper; first | (rw [if_pos (by decide +kernel)]; kernel_rfl) | (rw [if_neg (by decide +kernel)]; exact ⟨rfl, rfl⟩))
    (fun os started H enc _ => lifted os started H enc)

end strideTells
end Go.Proofs.Ytmkljkijpglofaa
