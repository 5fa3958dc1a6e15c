/- LabelLaws: of every three labels, in whatever memory: the law answers true, and its arguments read as they did. No conditions. -/
import Derived.Test.YtbbbcpkhobbadaaKnown
import Derived.Test.YtbbbcpkhobbadaaOwn
namespace Go.Proofs.Ytbbbcpkhobbadaa
open Go.ChangeShapes Go.WideShapes Go.ChangeAt Go.RowKit Go.Joins Go.Deep

namespace labelLaws
set_option linter.unusedSimpArgs false
theorem eqB_of {a b c d : Int} (h : a = c) (h' : b = d) : eqB a b c d = true := eqB_iff.2 ⟨h, h'⟩
set_option maxHeartbeats 2000000 in
theorem walk (a b c d e f : Int) (hb : U64 b) (hd : U64 d) (hf : U64 f) (w : World) :
    Calls Try.prog 7 #[.agg #[.int .i64 a, .int .u64 b], .agg #[.int .i64 c, .int .u64 d], .agg #[.int .i64 e, .int .u64 f]] w (Yields w (.bool true)) := by
  have e1 : eqB (maxI a c) (bits BinOp.or IntKind.u64 b d) (maxI c a) (bits BinOp.or IntKind.u64 d b) = true := eqB_of (by simp only [maxI, minI]; omega) (or_comm' hb hd)
  have e2 : eqB (minI a c) (bits BinOp.and IntKind.u64 b d) (minI c a) (bits BinOp.and IntKind.u64 d b) = true := eqB_of (by simp only [maxI, minI]; omega) (and_comm' hb hd)
  have e3 : eqB (maxI a (maxI c e)) (bits BinOp.or IntKind.u64 b (bits BinOp.or IntKind.u64 d f)) (maxI (maxI a c) e) (bits BinOp.or IntKind.u64 (bits BinOp.or IntKind.u64 b d) f) = true := eqB_of (by simp only [maxI, minI]; omega) (or_assoc' hb hd hf)
  have e4 : eqB (minI a (minI c e)) (bits BinOp.and IntKind.u64 b (bits BinOp.and IntKind.u64 d f)) (minI (minI a c) e) (bits BinOp.and IntKind.u64 (bits BinOp.and IntKind.u64 b d) f) = true := eqB_of (by simp only [maxI, minI]; omega) (and_assoc' hb hd hf)
  have e5 : eqB (maxI a a) (bits BinOp.or IntKind.u64 b b) a b = true := eqB_of (by simp only [maxI, minI]; omega) (or_self' hb)
  have e6 : eqB (minI a a) (bits BinOp.and IntKind.u64 b b) a b = true := eqB_of (by simp only [maxI, minI]; omega) (and_self' hb)
  have e7 : eqB (maxI a (minI a c)) (bits BinOp.or IntKind.u64 b (bits BinOp.and IntKind.u64 b d)) a b = true := eqB_of (by simp only [maxI, minI]; omega) (or_and' hb hd)
  have e8 : eqB (minI a (maxI a c)) (bits BinOp.and IntKind.u64 b (bits BinOp.or IntKind.u64 b d)) a b = true := eqB_of (by simp only [maxI, minI]; omega) (and_or' hb hd)
  go_enter Try.func7, Try.ntmps7
  go_wp2_with (first
    | (go_at_call 8; refine (known_any _).yields ?_; intro p)
    | (go_at_call 11; refine (leq_any _ _ _ _ _).yields ?_; intro p)
    | (go_at_call 13; refine (join_any _ _ _ _ _).yields ?_; intro p)
    | (go_at_call 15; refine (meet_any _ _ _ _ _).yields ?_; intro p))
  ((first | refine wp_region_more (by kernel_rfl) (by kernel_rfl) ?_ | refine wp_region_ext (by kernel_rfl) (by kernel_rfl) ?_); (try dsimp only [append_cons', append_nil']); (repeat (go_big_quiet_step ((first | (go_at_call 8; refine Calls.more_of (known_any _)) | (go_at_call 11; refine Calls.more_of (leq_any _ _ _ _ _)) | (go_at_call 13; refine Calls.more_of (join_any _ _ _ _ _)) | (go_at_call 15; refine Calls.more_of (meet_any _ _ _ _ _)))))); refine wpQuiet_nil ?_; rintro _ ⟨pq, rfl⟩)
  go_wp2
  all_goals
    go_returns
    exact ⟨by simp_all, (by repeat (first | exact Ext.refl _ | assumption | refine Ext.more ?_ _ | refine Ext.drew ?_ | refine Ext.drewN ?_ _ | refine Ext.alloc ?_ _ | refine Ext.setCell ?_ (by simp; try omega) _ | refine Ext.trans ?_ (by assumption)))⟩

set_option linter.unusedVariables false in
set_option maxRecDepth 100000 in
theorem lifted (os : Os) (started : os.Started) (H : Type) (enc : TypeId × Value → H) :
    ReturnsInHanded {} Try.checked os 7 .any (Rows.labelLawsSpec.pre6 enc Try.prog Try.f7 Rows.labelLawsRow.domain false) (Rows.labelLawsSpec.post enc Try.prog Try.f7 false true false false) := by
  refine returnsInHanded_of_change (C := Try.checked) Own.own started (by kernel_rfl) Try.func7
    (ChangeSpec.witness6 (enc := enc) (C := Try.checked) false ⟨#[], #[.agg #[.int .i64 0, .int .u64 0], .agg #[.int .i64 0, .int .u64 0], .agg #[.int .i64 0, .int .u64 0]], []⟩ 8 (by kernel_rfl) (by kernel_rfl) (by kernel_rfl) (by kernel_rfl)) ?_
  intro W base args ds gs before hval0 hW hcnd _
  have hval : ∀ (j : Nat) t v, Try.f7.params[j]? = some t → args[j]? = some v → Value.okWide Try.prog W .any base t v := hval0
  have hW' := hW
  obtain ⟨p, q, hA0, hV, rfl, hfz, hnd⟩ := hW
  have hA : DataW.TrodAll enc Try.prog W 0 (fun _ => true) true Try.f7.params.toList args.toList ds p := hA0
  rw [Try.params7] at hA hval
  obtain ⟨v0, vs0, d0, ds0, p0, q0, hargs, rfl, rfl, h0, r0⟩ := trodAll_cons hA
  obtain ⟨v1, vs1, d1, ds1, p1, q1, rfl, rfl, rfl, h1, r1⟩ := trodAll_cons r0
  obtain ⟨v2, vs2, d2, ds2, p2, q2, rfl, rfl, rfl, h2, r2⟩ := trodAll_cons r1
  obtain ⟨rfl, rfl, rfl⟩ := trodAll_nil r2
  obtain rfl : args = #[v0, v1, v2] := by cases args; simp_all
  obtain ⟨rfl, rfl⟩ := trodVars_none hV
  have k0 := h0
  have lt0 : ∀ x ∈ p0, x.block < W.heap.size := by obtain ⟨m, hm⟩ := k0; exact DataW.trod_lt m _ _ _ hm
  have k1 := h1
  have lt1 : ∀ x ∈ p1, x.block < W.heap.size := by obtain ⟨m, hm⟩ := k1; exact DataW.trod_lt m _ _ _ hm
  have k2 := h2
  have lt2 : ∀ x ∈ p2, x.block < W.heap.size := by obtain ⟨m, hm⟩ := k2; exact DataW.trod_lt m _ _ _ hm
  obtain ⟨a, b, rfl, hb⟩ := Own.open_label (hval 0 24 v0 rfl rfl) h0
  obtain ⟨c, d, rfl, hd⟩ := Own.open_label (hval 1 24 v1 rfl rfl) h1
  obtain ⟨e, f, rfl, hf⟩ := Own.open_label (hval 2 24 v2 rfl rfl) h2
  clear hA0 hval0
  refine (walk a b c d e f hb hd hf W).mono fun e W' ⟨he, hx⟩ => ?_
  subst he
  exact ⟨_, rfl, _, _, _, [], _, [], hW', trodAll_mk1 (shut_bool Try.underlying4 _), (trodAll_cons_mk (Below.trod Own.laidOut (by kernel_rfl) (of_decide_eq_true (by kernel_rfl)) k0 hx.below lt0) (trodAll_cons_mk (Below.trod Own.laidOut (by kernel_rfl) (of_decide_eq_true (by kernel_rfl)) k1 hx.below lt1) (trodAll_cons_mk (Below.trod Own.laidOut (by kernel_rfl) (of_decide_eq_true (by kernel_rfl)) k2 hx.below lt2) trodAll_mk0))), rfl, hx.below.frame _, fun h => by cases h⟩

theorem proved : Rows.LabelLawsSaid :=
  OpenClaim.holds_of_wide 7 Try.f7 rfl rfl rfl rfl rfl rfl rfl ⟨rfl, rfl, rfl, rfl, rfl⟩ rfl rfl rfl rfl rfl (by kernel_rfl) Try.func7 (by kernel_rfl)
    (of_decide_eq_true (by kernel_rfl)) (by unfold Func.isWrapper; first | (rw [if_pos (by decide +kernel)]; kernel_rfl) | (rw [if_neg (by decide +kernel)]; exact ⟨rfl, rfl⟩))
    (fun os started H enc _ => lifted os started H enc)

end labelLaws
end Go.Proofs.Ytbbbcpkhobbadaa
