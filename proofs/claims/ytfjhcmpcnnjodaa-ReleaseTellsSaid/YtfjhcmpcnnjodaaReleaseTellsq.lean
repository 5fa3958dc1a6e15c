/- ReleaseTells: of every configuration, slots, levels: the law answers true, and its arguments read as they did. No conditions. -/
import Derived.Test.YtfjhcmpcnnjodaaReKq
import Derived.Test.YtfjhcmpcnnjodaaWideq
import Derived.ChangeMaps5
import Derived.ChangeSame
import Derived.ChangeVars
import Derived.JoinedOf
import Derived.RowKitTokens
namespace Go.Proofs.Ytfjhcmpcnnjodaa
set_option linter.unusedSimpArgs false
open Go.ChangeShapes Go.WideShapes Go.ChangeAt Go.RowKit Go.Joins Go.Deep

namespace releaseTells
set_option maxRecDepth 100000 in
set_option maxHeartbeats 8000000 in
theorem walk (c : Cnf) (d l : Int) (O L : List Int) (pv dv vo vl : Value) (w : World) (hc : ConfV w c pv dv) (hO : Ints w vo O) (hL : Ints w vl L) :
    Calls Try.prog 3 #[confV c pv dv, vo, vl, .int .i64 d, .int .i64 l] w (Yields w (.bool true)) := by
  have HC := hid hc
  have HO := hid hO
  have HL := hid hL
  obtain ⟨po, co, rfl, hco, hmo⟩ := hO.shape
  obtain ⟨pl, cl, rfl, hcl, hml⟩ := hL.shape
  unfold maxLen at hmo hml
  clear hc hO hL
  cases hwa : wideB c
  case true =>
    have QA := hid hwa
    clear hwa
    go_enter Try.func3, Try.ntmps3
    go_wp2_with (first
      | (go_at_call 7; refine (known_any _).yields ?_; intro p0)
      | (go_at_call 8; (with_reducible refine (wide_to QA.out _ _ _ (HC.out.ext ext_by)).yields ?_); intro p1))
    go_returns
    exact ⟨rfl, ext_by⟩
  have QA := hid hwa
  have RA : Hid (∀ d ∈ c.doms, ∀ r ∈ d.routes, r.length ≤ 300) := hid (wide_routes hwa).2
  clear hwa
  by_cases hl : (100 : Int) < O.length
  · go_enter Try.func3, Try.ntmps3
    go_wp2_with (first
      | (go_at_call 7; refine (known_any _).yields ?_; intro p0)
      | (go_at_call 8; (with_reducible refine (wide_to QA.out _ _ _ (HC.out.ext ext_by)).yields ?_); intro p1))
    go_returns
    exact ⟨rfl, ext_by⟩
  by_cases hl2 : (20 : Int) < L.length
  · go_enter Try.func3, Try.ntmps3
    go_wp2_with (first
      | (go_at_call 7; refine (known_any _).yields ?_; intro p0)
      | (go_at_call 8; (with_reducible refine (wide_to QA.out _ _ _ (HC.out.ext ext_by)).yields ?_); intro p1))
    go_returns
    exact ⟨rfl, ext_by⟩
  go_enter Try.func3, Try.ntmps3
  go_upto_region 5 with (first
    | (go_at_call 7; refine (known_any _).yields ?_; intro p0)
    | (go_at_call 8; (with_reducible refine (wide_to QA.out _ _ _ (HC.out.ext ext_by)).yields ?_); intro p1))
  refine wp_forget (fun u => Ext w u ∧ u.cell? ⟨w.heap.size, 0, none⟩ = some (.int .i64 c.frame) ∧ u.cell? ⟨w.heap.size, 1, none⟩ = some (.int .i64 c.epoch) ∧ u.cell? ⟨w.heap.size, 2, none⟩ = some pv ∧ u.cell? ⟨w.heap.size, 3, none⟩ = some dv) ⟨ext_by, by simp [go_sem], by simp [go_sem], by simp [go_sem], by simp [go_sem]⟩ ?_
  rintro W ⟨X, k0, k1, k2, k3⟩
  go_upto_region 6 with (go_at_call 9; (with_reducible refine (turn_any (HC.out.ext X) RA.out (HO.out.ext X) (HL.out.ext X)).mono ?_); rintro e w2 ⟨a, b, rfl, hx2, hA, hB⟩)
  have X2 := X.trans hx2
  have HA := hid hA
  have HB := hid hB
  have c0 := hx2.cell k0
  have c1 := hx2.cell k1
  have c2 := hx2.cell k2
  have c3 := hx2.cell k3
  clear hA hB X hx2 k0 k1 k2 k3
  go_upto_region 7 with (go_at_call 10; (with_reducible refine (rturn_any (HC.out.ext X2) RA.out (HO.out.ext X2) (HL.out.ext X2)).mono ?_); rintro e w3 ⟨a2, b2, rfl, hx3, hA2, hB2⟩)
  have X3 := X2.trans hx3
  have HA2 := hid hA2
  have HB2 := hid hB2
  have HA1 := hid (HA.out.ext hx3)
  have HB1 := hid (HB.out.ext hx3)
  have d0 := hx3.cell c0
  have d1 := hx3.cell c1
  have d2 := hx3.cell c2
  have d3 := hx3.cell c3
  clear hA2 hB2 X2 hx3 c0 c1 c2 c3 HA HB HO HL
  have VC := hid (HC.out.ext X3)
  have hb3 : w.heap.size < w3.heap.size := World.block_lt_of_cell? _ _ d0
  have m0 := more_cell d0
  have m1 := more_cell d1
  have m2 := more_cell d2
  have m3 := more_cell d3
  have hq : (amtN c d l == amtN c d l) = true := by simp
  have HQ1 := hid (fun u (h : ConfV u c pv dv) => amount_any h RA.out d l)
  have HQ2 := hid (fun u (h : ConfV u c pv dv) => ramount_any h RA.out d l)
  generalize amtN c d l = r at *
  go_wp2
  ((first | refine wp_region_more (by kernel_rfl) (by kernel_rfl) ?_ | refine wp_region_ext (by kernel_rfl) (by kernel_rfl) ?_); (try dsimp only [append_cons', append_nil']); (repeat (go_big_quiet_step ((first | (go_at_call 11; (with_reducible refine Calls.more_of (HQ1.out _ (VC.out.ext (ext_more _ _))))) | (go_at_call 12; (with_reducible refine Calls.more_of (HQ2.out _ (VC.out.ext (ext_more _ _))))) | (go_at_call 13; (with_reducible refine Calls.more_of (sameI_to (HA1.out.ext (ext_more _ _)) (HA2.out.ext (ext_more _ _))))) | (go_at_call 13; (with_reducible refine Calls.more_of (sameI_to (HB1.out.ext (ext_more _ _)) (HB2.out.ext (ext_more _ _))))))))); refine wpQuiet_nil ?_; rintro _ ⟨pq, rfl⟩)
  go_wp2
  go_returns
  exact ⟨by simp, X3.more _⟩

set_option linter.unusedVariables false in
set_option maxRecDepth 100000 in
theorem lifted (os : Os) (started : os.Started) (H : Type) (enc : TypeId × Value → H) :
    ReturnsInHanded {} Try.checked os 3 .any (Rows.releaseTellsSpec.pre6 enc Try.prog Try.f3 Rows.releaseTellsRow.domain false) (Rows.releaseTellsSpec.post enc Try.prog Try.f3 false true false false) := by
  refine returnsInHanded_of_change (C := Try.checked) Own.own started (by kernel_rfl) Try.func3
    (ChangeSpec.witness6 (enc := enc) (C := Try.checked) false ⟨#[], #[.agg #[.int .i64 0, .int .i64 0, .slice none 0 0, .slice none 0 0], .slice none 0 0, .slice none 0 0, .int .i64 0, .int .i64 0], []⟩ 8 (by kernel_rfl) (by kernel_rfl) (by kernel_rfl) (by kernel_rfl)) ?_
  intro W base args ds gs before hval0 hW hcnd _
  have hval : ∀ (j : Nat) t v, Try.f3.params[j]? = some t → args[j]? = some v → Value.okWide Try.prog W .any base t v := hval0
  have hW' := hW
  obtain ⟨p, q, hA0, hV, rfl, hfz, hnd⟩ := hW
  have hA : DataW.TrodAll enc Try.prog W 0 (fun _ => true) true Try.f3.params.toList args.toList ds p := hA0
  rw [Try.params3] at hA hval
  obtain ⟨v0, vs0, d0, ds0, p0, q0, hargs, rfl, rfl, h0, r0⟩ := trodAll_cons hA
  obtain ⟨v1, vs1, d1, ds1, p1, q1, rfl, rfl, rfl, h1, r1⟩ := trodAll_cons r0
  obtain ⟨v2, vs2, d2, ds2, p2, q2, rfl, rfl, rfl, h2, r2⟩ := trodAll_cons r1
  obtain ⟨v3, vs3, d3, ds3, p3, q3, rfl, rfl, rfl, h3, r3⟩ := trodAll_cons r2
  obtain ⟨v4, vs4, d4, ds4, p4, q4, rfl, rfl, rfl, h4, r4⟩ := trodAll_cons r3
  obtain ⟨rfl, rfl, rfl⟩ := trodAll_nil r4
  obtain rfl : args = #[v0, v1, v2, v3, v4] := by cases args; simp_all
  obtain ⟨rfl, rfl⟩ := trodVars_none hV
  have k0 := h0
  have lt0 : ∀ x ∈ p0, x.block < W.heap.size := by obtain ⟨m, hm⟩ := k0; exact DataW.trod_lt m _ _ _ hm
  have k1 := h1
  have lt1 : ∀ x ∈ p1, x.block < W.heap.size := by obtain ⟨m, hm⟩ := k1; exact DataW.trod_lt m _ _ _ hm
  have k2 := h2
  have lt2 : ∀ x ∈ p2, x.block < W.heap.size := by obtain ⟨m, hm⟩ := k2; exact DataW.trod_lt m _ _ _ hm
  have k3 := h3
  have lt3 : ∀ x ∈ p3, x.block < W.heap.size := by obtain ⟨m, hm⟩ := k3; exact DataW.trod_lt m _ _ _ hm
  have k4 := h4
  have lt4 : ∀ x ∈ p4, x.block < W.heap.size := by obtain ⟨m, hm⟩ := k4; exact DataW.trod_lt m _ _ _ hm
  obtain ⟨c, pv, dv, rfl, hc⟩ := Own.open_conf (hval 0 25 v0 rfl rfl) (by exact h0)
  obtain ⟨a1, len1, cap1, rfl⟩ := okWide_slice Try.underlying26 (hval 1 26 v1 rfl rfl)
  obtain ⟨O, hO⟩ := Own.open_nums Try.underlying26 Try.underlying3 (by kernel_rfl) h1
  obtain ⟨a2, len2, cap2, rfl⟩ := okWide_slice Try.underlying26 (hval 2 26 v2 rfl rfl)
  obtain ⟨L, hL⟩ := Own.open_nums Try.underlying26 Try.underlying3 (by kernel_rfl) h2
  obtain ⟨d, rfl, rfl, rfl, wd⟩ := open_int Try.underlying3 (hval 3 3 v3 rfl rfl) h3
  obtain ⟨l, rfl, rfl, rfl, wl⟩ := open_int Try.underlying3 (hval 4 3 v4 rfl rfl) h4
  clear hA0 hval0
  refine (walk c d l O L pv dv _ _ W hc (nums_ints hO) (nums_ints hL)).mono fun e W' ⟨he, hx⟩ => ?_
  subst he
  exact ⟨_, rfl, _, _, _, [], _, [], hW', trodAll_mk1 (shut_bool Try.underlying4 _), (trodAll_cons_mk (Below.trod Own.laidOut (by kernel_rfl) (of_decide_eq_true (by kernel_rfl)) k0 hx.below lt0) (trodAll_cons_mk (Below.trod Own.laidOut (by kernel_rfl) (of_decide_eq_true (by kernel_rfl)) k1 hx.below lt1) (trodAll_cons_mk (Below.trod Own.laidOut (by kernel_rfl) (of_decide_eq_true (by kernel_rfl)) k2 hx.below lt2) (trodAll_cons_mk (Below.trod Own.laidOut (by kernel_rfl) (of_decide_eq_true (by kernel_rfl)) k3 hx.below lt3) (trodAll_cons_mk (Below.trod Own.laidOut (by kernel_rfl) (of_decide_eq_true (by kernel_rfl)) k4 hx.below lt4) trodAll_mk0))))), rfl, hx.below.frame _, fun h => by cases h⟩

theorem proved : Rows.ReleaseTellsSaid :=
  OpenClaim.holds_of_wide 3 Try.f3 rfl rfl rfl rfl rfl rfl rfl ⟨rfl, rfl, rfl, rfl, rfl⟩ rfl rfl rfl rfl rfl (by kernel_rfl) Try.func3 (by kernel_rfl)
    (of_decide_eq_true (by kernel_rfl)) (by unfold Func.isWrapper; first | (rw [if_pos (by decide +kernel)]; kernel_rfl) | (rw [if_neg (by decide +kernel)]; exact ⟨rfl, rfl⟩))
    (fun os started H enc _ => lifted os started H enc)

end releaseTells
end Go.Proofs.Ytfjhcmpcnnjodaa
