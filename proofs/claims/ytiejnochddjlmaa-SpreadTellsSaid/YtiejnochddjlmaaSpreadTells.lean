/- SpreadTells: of every counts the program tells the document's slots, of every slots its gaps: the law answers true. No conditions. -/
import Derived.Test.YtiejnochddjlmaaSpK
import Derived.Test.YtiejnochddjlmaaRp1
import Derived.Test.YtiejnochddjlmaaRp2
namespace Go.Proofs.Ytiejnochddjlmaa
set_option linter.unusedSimpArgs false
open Go.ChangeShapes Go.WideShapes Go.ChangeAt Go.RowKit Go.Joins Go.Deep

namespace spreadTells
set_option maxRecDepth 100000 in
set_option maxHeartbeats 4000000 in
theorem walk (d : Int) (v vs : Value) (C S : List Int) (w : World) (hC0 : Nums .i64 w v C) (hS0 : Nums .i64 w vs S) :
    Calls Try.prog 3 #[v, vs, .int .i64 d] w (Yields w (.bool true)) := by
  have hC := nums_ints hC0
  have hS := nums_ints hS0
  clear hC0 hS0
  obtain ⟨p, cap, rfl, hcap, hmax⟩ := hC.shape
  obtain ⟨ps, cs, rfl, hcs, hms⟩ := hS.shape
  unfold maxLen at hmax hms
  have HC := hid hC
  have HS := hid hS
  clear hC hS
  by_cases h1 : (20 : Int) < C.length
  · go_enter Try.func3, Try.ntmps3
    go_wp2_with (go_at_call 8; refine (known_any _).yields ?_; intro p0)
    go_returns
    exact ⟨by simp, ext_by⟩
  by_cases h2 : (100 : Int) < S.length
  · go_enter Try.func3, Try.ntmps3
    go_wp2_with (go_at_call 8; refine (known_any _).yields ?_; intro p0)
    go_returns
    exact ⟨by simp, ext_by⟩
  have hl100 : S.length ≤ 100 := by omega
  obtain ⟨a, ha⟩ : ∃ a, a = (gapL S d).1 := ⟨_, rfl⟩
  obtain ⟨b, hb⟩ : ∃ b, b = (gapL S d).2 := ⟨_, rfl⟩
  have HG : Hid (∀ u, Ext w u → Calls Try.prog 9 #[.slice ps S.length cs, .int .i64 d] u (Yields u (.tuple #[.int .i64 a, .int .i64 b]))) := hid fun u hu => by rw [ha, hb]; exact gap_any (HS.out.ext hu) hl100
  have HR : Hid (∀ u, Ext w u → Calls Try.prog 10 #[.slice ps S.length cs, .int .i64 d] u (Yields u (.tuple #[.int .i64 a, .int .i64 b]))) := hid fun u hu => by rw [ha, hb]; exact rgap_any (HS.out.ext hu) (by omega)
  have ea : (a == a) = true := by simp
  have eb : (b == b) = true := by simp
  clear ha hb
  go_enter Try.func3, Try.ntmps3
  go_upto_region 7 with (first
    | (go_at_call 8; refine (known_any _).yields ?_; intro p0)
    | (go_at_call 9; refine (HG.out _ (ext_more _ _)).yields ?_; intro p1)
    | (go_at_call 10; refine (HR.out _ (ext_more _ _)).yields ?_; intro p2))
  refine wp_forget (fun u => Ext w u) ext_by ?_
  intro w1 hx1
  go_wp2_with (first
    | (go_at_call 12; (with_reducible refine (slots_all (HC.out.ext hx1) _ rfl).mono ?_); rintro e w2 ⟨u2, rfl, hx2, hI2⟩)
    | (go_at_call 13; (with_reducible refine (rslots_all ((HC.out.ext hx1).ext hx2) _ rfl).mono ?_); rintro e w3 ⟨u3, rfl, hx3, hI3⟩)
    | (go_at_call 11; (with_reducible refine (sameI_to (hI2.ext hx3) hI3).yields ?_); intro p4))
  all_goals
    go_returns
    exact ⟨by simp, ((hx1.trans hx2).trans hx3).more _⟩

set_option linter.unusedVariables false in
set_option maxRecDepth 100000 in
theorem lifted (os : Os) (started : os.Started) (H : Type) (enc : TypeId × Value → H) :
    ReturnsInHanded {} Try.checked os 3 .any (Rows.spreadTellsSpec.pre6 enc Try.prog Try.f3 Rows.spreadTellsRow.domain false) (Rows.spreadTellsSpec.post enc Try.prog Try.f3 false true false false) := by
  refine returnsInHanded_of_change (C := Try.checked) Own.own started (by kernel_rfl) Try.func3
    (ChangeSpec.witness6 (enc := enc) (C := Try.checked) false ⟨#[], #[.slice none 0 0, .slice none 0 0, .int .i64 0], []⟩ 8 (by kernel_rfl) (by kernel_rfl) (by kernel_rfl) (by kernel_rfl)) ?_
  intro W base args ds gs before hval0 hW hcnd _
  have hval : ∀ (j : Nat) t v, Try.f3.params[j]? = some t → args[j]? = some v → Value.okWide Try.prog W .any base t v := hval0
  have hW' := hW
  obtain ⟨p, q, hA0, hV, rfl, hfz, hnd⟩ := hW
  have hA : DataW.TrodAll enc Try.prog W 0 (fun _ => true) true Try.f3.params.toList args.toList ds p := hA0
  rw [Try.params3] at hA hval
  obtain ⟨v0, vs0, d0, ds0, p0, q0, hargs, rfl, rfl, h0, r0⟩ := trodAll_cons hA
  obtain ⟨v1, vs1, d1, ds1, p1, q1, rfl, rfl, rfl, h1, r1⟩ := trodAll_cons r0
  obtain ⟨v2, vs2, d2, ds2, p2, q2, rfl, rfl, rfl, h2, r2⟩ := trodAll_cons r1
  obtain ⟨rfl, rfl, rfl⟩ := trodAll_nil r2
  obtain rfl : args = #[v0, v1, v2] := by cases args; simp_all
  obtain ⟨rfl, rfl⟩ := trodVars_none hV
  have k0 := h0
  have lt0 : ∀ x ∈ p0, x.block < W.heap.size := by obtain ⟨m, hm⟩ := k0; exact DataW.trod_lt m _ _ _ hm
  have k1 := h1
  have lt1 : ∀ x ∈ p1, x.block < W.heap.size := by obtain ⟨m, hm⟩ := k1; exact DataW.trod_lt m _ _ _ hm
  have k2 := h2
  have lt2 : ∀ x ∈ p2, x.block < W.heap.size := by obtain ⟨m, hm⟩ := k2; exact DataW.trod_lt m _ _ _ hm
  obtain ⟨a1, len1, cap1, rfl⟩ := okWide_slice Try.underlying22 (hval 0 22 v0 rfl rfl)
  obtain ⟨C, hC⟩ := Own.open_nums Try.underlying22 Try.underlying3 (by kernel_rfl) h0
  obtain ⟨a2, len2, cap2, rfl⟩ := okWide_slice Try.underlying22 (hval 1 22 v1 rfl rfl)
  obtain ⟨S, hS⟩ := Own.open_nums Try.underlying22 Try.underlying3 (by kernel_rfl) h1
  obtain ⟨d, rfl, rfl, rfl, wd⟩ := open_int Try.underlying3 (hval 2 3 v2 rfl rfl) h2
  clear hA0 hval0
  refine (walk d _ _ C S W hC hS).mono fun e W' ⟨he, hx⟩ => ?_
  subst he
  exact ⟨_, rfl, _, _, _, [], _, [], hW', trodAll_mk1 (shut_bool Try.underlying4 _), (trodAll_cons_mk (Below.trod Own.laidOut (by kernel_rfl) (of_decide_eq_true (by kernel_rfl)) k0 hx.below lt0) (trodAll_cons_mk (Below.trod Own.laidOut (by kernel_rfl) (of_decide_eq_true (by kernel_rfl)) k1 hx.below lt1) (trodAll_cons_mk (Below.trod Own.laidOut (by kernel_rfl) (of_decide_eq_true (by kernel_rfl)) k2 hx.below lt2) trodAll_mk0))), rfl, hx.below.frame _, fun h => by cases h⟩

theorem proved : Rows.SpreadTellsSaid :=
  OpenClaim.holds_of_wide 3 Try.f3 rfl rfl rfl rfl rfl rfl rfl ⟨rfl, rfl, rfl, rfl, rfl⟩ rfl rfl rfl rfl rfl (by kernel_rfl) Try.func3 (by kernel_rfl)
    (of_decide_eq_true (by kernel_rfl)) (by unfold Func.isWrapper; first | (rw [if_pos (by decide +kernel)]; kernel_rfl) | (rw [if_neg (by decide +kernel)]; exact ⟨rfl, rfl⟩))
    (fun os started H enc _ => lifted os started H enc)

end spreadTells
end Go.Proofs.Ytiejnochddjlmaa
