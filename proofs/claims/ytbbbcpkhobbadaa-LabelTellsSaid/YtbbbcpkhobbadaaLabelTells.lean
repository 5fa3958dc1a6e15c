/- LabelTells: of every two labels and every row of labels, in whatever memory: the law answers true, and its arguments read as they did. No conditions. -/
import Derived.Test.YtbbbcpkhobbadaaKnown
import Derived.Test.YtbbbcpkhobbadaaOwn
namespace Go.Proofs.Ytbbbcpkhobbadaa
open Go.ChangeShapes Go.WideShapes Go.ChangeAt Go.RowKit Go.Joins Go.Deep

namespace labelTells
theorem eqB_self (a b : Int) : eqB a b a b = true := eqB_iff.2 ⟨rfl, rfl⟩
set_option maxHeartbeats 2000000 in
theorem walk (a b c d : Int) (v : Value) (l : List (Int × Int)) (w : World) (hl : Labels w v l) :
    Calls Try.prog 3 #[.agg #[.int .i64 a, .int .u64 b], .agg #[.int .i64 c, .int .u64 d], v] w (Yields w (.bool true)) := by
  have e1 := eqB_self (maxI a c) (bits BinOp.or IntKind.u64 b d)
  have e2 := eqB_self (minI a c) (bits BinOp.and IntKind.u64 b d)
  have H : ∀ w', Ext w w' → Labels w' v l := fun w' h => hl.ext h
  have H := hid H
  obtain ⟨p, cap, rfl, hcap, hmax, _⟩ := hl
  unfold maxLen at hmax
  go_enter Try.func3, Try.ntmps3
  go_wp2_with (first
    | (go_at_call 8; refine (known_any _).yields ?_; intro p)
    | (go_at_call 11; refine (leq_any _ _ _ _ _).yields ?_; intro p)
    | (go_at_call 13; refine (join_any _ _ _ _ _).yields ?_; intro p)
    | (go_at_call 15; refine (meet_any _ _ _ _ _).yields ?_; intro p)
    | (go_at_call 9; refine (is_any _ _ _).yields ?_; intro p)
    | (go_at_call 10; refine (ris_any _ _ _).yields ?_; intro p)
    | (go_at_call 12; refine (rleq_any _ _ _ _ _).yields ?_; intro p)
    | (go_at_call 14; refine (rjoin_any _ _ _ _ _).yields ?_; intro p)
    | (go_at_call 16; refine (rmeet_any _ _ _ _ _).yields ?_; intro p)
    | (go_at_call 17; refine (chain_any _ _ l (H.out _ (by repeat (first | exact Ext.refl _ | assumption | refine Ext.more ?_ _ | refine Ext.drew ?_ | refine Ext.drewN ?_ _ | refine Ext.alloc ?_ _ | refine Ext.setCell ?_ (by simp; try omega) _ | refine Ext.trans ?_ (by assumption))))).yields ?_; intro p)
    | (go_at_call 18; refine (rchain_any _ _ l (H.out _ (by repeat (first | exact Ext.refl _ | assumption | refine Ext.more ?_ _ | refine Ext.drew ?_ | refine Ext.drewN ?_ _ | refine Ext.alloc ?_ _ | refine Ext.setCell ?_ (by simp; try omega) _ | refine Ext.trans ?_ (by assumption))))).yields ?_; intro p))
  · go_returns
    exact ⟨by simp_all, (by repeat (first | exact Ext.refl _ | assumption | refine Ext.more ?_ _ | refine Ext.drew ?_ | refine Ext.drewN ?_ _ | refine Ext.alloc ?_ _ | refine Ext.setCell ?_ (by simp; try omega) _ | refine Ext.trans ?_ (by assumption)))⟩
  · ((first | refine wp_region_more (by kernel_rfl) (by kernel_rfl) ?_ | refine wp_region_ext (by kernel_rfl) (by kernel_rfl) ?_); (try dsimp only [append_cons', append_nil']); (repeat (go_big_quiet_step ((first | (go_at_call 8; refine Calls.more_of (known_any _)) | (go_at_call 11; refine Calls.more_of (leq_any _ _ _ _ _)) | (go_at_call 13; refine Calls.more_of (join_any _ _ _ _ _)) | (go_at_call 15; refine Calls.more_of (meet_any _ _ _ _ _)) | (go_at_call 9; refine Calls.more_of (is_any _ _ _)) | (go_at_call 10; refine Calls.more_of (ris_any _ _ _)) | (go_at_call 12; refine Calls.more_of (rleq_any _ _ _ _ _)) | (go_at_call 14; refine Calls.more_of (rjoin_any _ _ _ _ _)) | (go_at_call 16; refine Calls.more_of (rmeet_any _ _ _ _ _)) | (go_at_call 17; refine Calls.more_of (chain_any _ _ l (H.out _ (by repeat (first | exact Ext.refl _ | assumption | refine Ext.more ?_ _ | refine Ext.drew ?_ | refine Ext.drewN ?_ _ | refine Ext.alloc ?_ _ | refine Ext.setCell ?_ (by simp; try omega) _ | refine Ext.trans ?_ (by assumption)))))) | (go_at_call 18; refine Calls.more_of (rchain_any _ _ l (H.out _ (by repeat (first | exact Ext.refl _ | assumption | refine Ext.more ?_ _ | refine Ext.drew ?_ | refine Ext.drewN ?_ _ | refine Ext.alloc ?_ _ | refine Ext.setCell ?_ (by simp; try omega) _ | refine Ext.trans ?_ (by assumption)))))))))); refine wpQuiet_nil ?_; rintro _ ⟨pq, rfl⟩)
    go_wp2
    go_returns
    exact ⟨by simp_all, (by repeat (first | exact Ext.refl _ | assumption | refine Ext.more ?_ _ | refine Ext.drew ?_ | refine Ext.drewN ?_ _ | refine Ext.alloc ?_ _ | refine Ext.setCell ?_ (by simp; try omega) _ | refine Ext.trans ?_ (by assumption)))⟩

set_option linter.unusedVariables false in
set_option maxRecDepth 100000 in
theorem lifted (os : Os) (started : os.Started) (H : Type) (enc : TypeId × Value → H) :
    ReturnsInHanded {} Try.checked os 3 .any (Rows.labelTellsSpec.pre6 enc Try.prog Try.f3 Rows.labelTellsRow.domain false) (Rows.labelTellsSpec.post enc Try.prog Try.f3 false true false false) := by
  refine returnsInHanded_of_change (C := Try.checked) Own.own started (by kernel_rfl) Try.func3
    (ChangeSpec.witness6 (enc := enc) (C := Try.checked) false ⟨#[], #[.agg #[.int .i64 0, .int .u64 0], .agg #[.int .i64 0, .int .u64 0], .slice none 0 0], []⟩ 8 (by kernel_rfl) (by kernel_rfl) (by kernel_rfl) (by kernel_rfl)) ?_
  intro W base args ds gs before hval0 hW hcnd _
  have hval : ∀ (j : Nat) t v, Try.f3.params[j]? = some t → args[j]? = some v → Value.okWide Try.prog W .any base t v := hval0
  have hW' := hW
  obtain ⟨p, q, hA0, hV, rfl, hfz, hnd⟩ := hW
  have hA : DataW.TrodAll enc Try.prog W 0 (fun _ => true) true Try.f3.params.toList args.toList ds p := hA0
  rw [Try.params3] at hA hval
  obtain ⟨v0, vs0, d0, ds0, p0, q0, hargs, rfl, rfl, h0, r0⟩ := trodAll_cons hA
  obtain ⟨v1, vs1, d1, ds1, p1, q1, rfl, rfl, rfl, h1, r1⟩ := trodAll_cons r0
  obtain ⟨v2, vs2, d2, ds2, p2, q2, rfl, rfl, rfl, h2, r2⟩ := trodAll_cons r1
  obtain ⟨rfl, rfl, rfl⟩ := trodAll_nil r2
  obtain rfl : args = #[v0, v1, v2] := by cases args; simp_all
  obtain ⟨rfl, rfl⟩ := trodVars_none hV
  have k0 := h0
  have lt0 : ∀ x ∈ p0, x.block < W.heap.size := by obtain ⟨m, hm⟩ := k0; exact DataW.trod_lt m _ _ _ hm
  have k1 := h1
  have lt1 : ∀ x ∈ p1, x.block < W.heap.size := by obtain ⟨m, hm⟩ := k1; exact DataW.trod_lt m _ _ _ hm
  have k2 := h2
  have lt2 : ∀ x ∈ p2, x.block < W.heap.size := by obtain ⟨m, hm⟩ := k2; exact DataW.trod_lt m _ _ _ hm
  obtain ⟨a, b, rfl, hb⟩ := Own.open_label (hval 0 24 v0 rfl rfl) h0
  obtain ⟨c, d, rfl, hd⟩ := Own.open_label (hval 1 24 v1 rfl rfl) h1
  obtain ⟨a0, len0, cap0, rfl⟩ := okWide_slice Try.underlying25 (hval 2 25 v2 rfl rfl)
  obtain ⟨l, hl⟩ := Own.open_labels h2
  clear hA0 hval0
  refine (walk a b c d _ l W hl).mono fun e W' ⟨he, hx⟩ => ?_
  subst he
  exact ⟨_, rfl, _, _, _, [], _, [], hW', trodAll_mk1 (shut_bool Try.underlying4 _), (trodAll_cons_mk (Below.trod Own.laidOut (by kernel_rfl) (of_decide_eq_true (by kernel_rfl)) k0 hx.below lt0) (trodAll_cons_mk (Below.trod Own.laidOut (by kernel_rfl) (of_decide_eq_true (by kernel_rfl)) k1 hx.below lt1) (trodAll_cons_mk (Below.trod Own.laidOut (by kernel_rfl) (of_decide_eq_true (by kernel_rfl)) k2 hx.below lt2) trodAll_mk0))), rfl, hx.below.frame _, fun h => by cases h⟩

theorem proved : Rows.LabelTellsSaid :=
  OpenClaim.holds_of_wide 3 Try.f3 rfl rfl rfl rfl rfl rfl rfl ⟨rfl, rfl, rfl, rfl, rfl⟩ rfl rfl rfl rfl rfl (by kernel_rfl) Try.func3 (by kernel_rfl)
    (of_decide_eq_true (by kernel_rfl)) (by unfold Func.isWrapper; first | (rw [if_pos (by decide +kernel)]; kernel_rfl) | (rw [if_neg (by decide +kernel)]; exact ⟨rfl, rfl⟩))
    (fun os started H enc _ => lifted os started H enc)

end labelTells
end Go.Proofs.Ytbbbcpkhobbadaa
