/- ShareTells: of every frame, shares, counts the program tells the document's counts, and whether counts are exact: the law answers true. No conditions. -/
import Derived.Test.YtpickmmegaeklaaShL
import Derived.Test.YtpickmmegaeklaaRs1
import Derived.Test.YtpickmmegaeklaaRs2
namespace Go.Proofs.Ytpickmmegaeklaa
set_option linter.unusedSimpArgs false
open Go.ChangeShapes Go.WideShapes Go.ChangeAt Go.RowKit Go.Joins Go.Deep

namespace shareTells
/-- The document's counts whatever comes in. -/
theorem rcounts_all {f : Int} {l : List Int} {v : Value} {w : World} (h : Ints w v l) : Calls Try.prog 11 #[.int .i64 f, v] w fun e w' => ∃ u, e = .returned u ∧ Ext w w' ∧ Ints w' u (if mayS f l = true then countsL f l else []) := by
  cases hm : mayS f l
  · refine (rcounts_none h hm).mono ?_
    rintro e w' ⟨rfl, hx⟩
    exact ⟨_, rfl, hx, none, 0, rfl, by simp, by unfold maxLen; omega, fun hp => by simp at hp⟩
  · have hM := May.of hm
    refine (rcounts_any hm h).mono ?_
    rintro e w' ⟨g, rfl, _, hx, hI⟩
    refine ⟨_, rfl, hx, ?_⟩
    rw [if_pos rfl]
    have := Iz.ints hI (by rw [countsL_length]; have := hM.len; unfold maxLen; omega)
    rwa [countsL_length] at this

set_option maxRecDepth 100000 in
set_option maxHeartbeats 4000000 in
theorem walk (f : Int) (v vc : Value) (L C : List Int) (w : World) (hL0 : Nums .i64 w v L) (hC0 : Nums .i64 w vc C) :
    Calls Try.prog 3 #[.int .i64 f, v, vc] w (Yields w (.bool true)) := by
  have hL := nums_ints hL0
  have hC := nums_ints hC0
  have HW : Hid (∀ y ∈ C, wf64 y) := hid fun y hy => wf_bounds64 (nums_wf hC0 y hy)
  clear hL0 hC0
  obtain ⟨p, cap, rfl, hcap, hmax⟩ := hL.shape
  obtain ⟨pc, cc, rfl, hcc, hmc⟩ := hC.shape
  unfold maxLen at hmax hmc
  have HL := hid hL
  have HC := hid hC
  clear hL hC
  by_cases h1 : (20 : Int) < L.length
  · go_enter Try.func3, Try.ntmps3
    go_wp2_with (go_at_call 8; refine (known_any _).yields ?_; intro p0)
    go_returns
    exact ⟨by simp, ext_by⟩
  by_cases h2 : (20 : Int) < C.length
  · go_enter Try.func3, Try.ntmps3
    go_wp2_with (go_at_call 8; refine (known_any _).yields ?_; intro p0)
    go_returns
    exact ⟨by simp, ext_by⟩
  go_enter Try.func3, Try.ntmps3
  go_upto_region 5 with (go_at_call 8; refine (known_any _).yields ?_; intro p0)
  refine wp_forget (fun u => Ext w u) ext_by ?_
  intro w1 hx1
  have heq : (exactL f L C == exactL f L C) = true := by simp
  have HEX := hid hx1
  go_wp2_with (first
    | (go_at_call 10; (with_reducible refine (counts_all (HL.out.ext hx1) _ rfl).mono ?_); rintro e w2 ⟨u2, rfl, hx2, hI2⟩)
    | (go_at_call 11; (with_reducible refine (rcounts_all ((HL.out.ext hx1).ext hx2)).mono ?_); rintro e w3 ⟨u3, rfl, hx3, hI3⟩)
    | (go_at_call 9; (with_reducible refine (sameI_to (hI2.ext hx3) hI3).yields ?_); intro p4)
    | (go_at_call 12; (with_reducible refine (exact_any (((HL.out.ext hx1).ext hx2).ext (hx3.more _)) (((HC.out.ext hx1).ext hx2).ext (hx3.more _)) HW.out).yields ?_); intro p5)
    | (go_at_call 13; (with_reducible refine (rexact_any (((HL.out.ext hx1).ext hx2).ext (hx3.more _)) (((HC.out.ext hx1).ext hx2).ext (hx3.more _))).yields ?_); intro p6))
  all_goals
    go_returns
    exact ⟨by simp, ((hx1.trans hx2).trans hx3).more _⟩

set_option linter.unusedVariables false in
set_option maxRecDepth 100000 in
theorem lifted (os : Os) (started : os.Started) (H : Type) (enc : TypeId × Value → H) :
    ReturnsInHanded {} Try.checked os 3 .any (Rows.shareTellsSpec.pre6 enc Try.prog Try.f3 Rows.shareTellsRow.domain false) (Rows.shareTellsSpec.post enc Try.prog Try.f3 false true false false) := by
  refine returnsInHanded_of_change (C := Try.checked) Own.own started (by kernel_rfl) Try.func3
    (ChangeSpec.witness6 (enc := enc) (C := Try.checked) false ⟨#[], #[.int .i64 0, .slice none 0 0, .slice none 0 0], []⟩ 8 (by kernel_rfl) (by kernel_rfl) (by kernel_rfl) (by kernel_rfl)) ?_
  intro W base args ds gs before hval0 hW hcnd _
  have hval : ∀ (j : Nat) t v, Try.f3.params[j]? = some t → args[j]? = some v → Value.okWide Try.prog W .any base t v := hval0
  have hW' := hW
  obtain ⟨p, q, hA0, hV, rfl, hfz, hnd⟩ := hW
  have hA : DataW.TrodAll enc Try.prog W 0 (fun _ => true) true Try.f3.params.toList args.toList ds p := hA0
  rw [Try.params3] at hA hval
  obtain ⟨v0, vs0, d0, ds0, p0, q0, hargs, rfl, rfl, h0, r0⟩ := trodAll_cons hA
  obtain ⟨v1, vs1, d1, ds1, p1, q1, rfl, rfl, rfl, h1, r1⟩ := trodAll_cons r0
  obtain ⟨v2, vs2, d2, ds2, p2, q2, rfl, rfl, rfl, h2, r2⟩ := trodAll_cons r1
  obtain ⟨rfl, rfl, rfl⟩ := trodAll_nil r2
  obtain rfl : args = #[v0, v1, v2] := by cases args; simp_all
  obtain ⟨rfl, rfl⟩ := trodVars_none hV
  have k0 := h0
  have lt0 : ∀ x ∈ p0, x.block < W.heap.size := by obtain ⟨m, hm⟩ := k0; exact DataW.trod_lt m _ _ _ hm
  have k1 := h1
  have lt1 : ∀ x ∈ p1, x.block < W.heap.size := by obtain ⟨m, hm⟩ := k1; exact DataW.trod_lt m _ _ _ hm
  have k2 := h2
  have lt2 : ∀ x ∈ p2, x.block < W.heap.size := by obtain ⟨m, hm⟩ := k2; exact DataW.trod_lt m _ _ _ hm
  obtain ⟨f, rfl, rfl, rfl, wf0⟩ := open_int Try.underlying3 (hval 0 3 v0 rfl rfl) h0
  obtain ⟨a1, len1, cap1, rfl⟩ := okWide_slice Try.underlying22 (hval 1 22 v1 rfl rfl)
  obtain ⟨L, hL⟩ := Own.open_nums Try.underlying22 Try.underlying3 (by kernel_rfl) h1
  obtain ⟨a2, len2, cap2, rfl⟩ := okWide_slice Try.underlying22 (hval 2 22 v2 rfl rfl)
  obtain ⟨C, hC⟩ := Own.open_nums Try.underlying22 Try.underlying3 (by kernel_rfl) h2
  clear hA0 hval0
  refine (walk f _ _ L C W hL hC).mono fun e W' ⟨he, hx⟩ => ?_
  subst he
  exact ⟨_, rfl, _, _, _, [], _, [], hW', trodAll_mk1 (shut_bool Try.underlying4 _), (trodAll_cons_mk (Below.trod Own.laidOut (by kernel_rfl) (of_decide_eq_true (by kernel_rfl)) k0 hx.below lt0) (trodAll_cons_mk (Below.trod Own.laidOut (by kernel_rfl) (of_decide_eq_true (by kernel_rfl)) k1 hx.below lt1) (trodAll_cons_mk (Below.trod Own.laidOut (by kernel_rfl) (of_decide_eq_true (by kernel_rfl)) k2 hx.below lt2) trodAll_mk0))), rfl, hx.below.frame _, fun h => by cases h⟩

theorem proved : Rows.ShareTellsSaid :=
  OpenClaim.holds_of_wide 3 Try.f3 rfl rfl rfl rfl rfl rfl rfl ⟨rfl, rfl, rfl, rfl, rfl⟩ rfl rfl rfl rfl rfl (by kernel_rfl) Try.func3 (by kernel_rfl)
    (of_decide_eq_true (by kernel_rfl)) (by unfold Func.isWrapper; first | (rw [if_pos (by decide +kernel)]; kernel_rfl) | (rw [if_neg (by decide +kernel)]; exact ⟨rfl, rfl⟩))
    (fun os started H enc _ => lifted os started H enc)

end shareTells
end Go.Proofs.Ytpickmmegaeklaa
