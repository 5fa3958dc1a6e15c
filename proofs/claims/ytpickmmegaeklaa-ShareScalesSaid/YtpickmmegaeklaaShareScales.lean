/- ShareScales: shares that are all so many times greater have the same counts: the law answers true for every frame, row and factor. No conditions. -/
import Derived.Test.YtpickmmegaeklaaShL
import Derived.Test.YtpickmmegaeklaaShT
import Derived.Deep.LoopGhost
namespace Go.Proofs.Ytpickmmegaeklaa
set_option linter.unusedSimpArgs false
open Go.ChangeShapes Go.WideShapes Go.ChangeAt Go.RowKit Go.Joins Go.Deep

namespace shareScales
theorem mayS_scl {f m : Int} (hm : 1 ≤ m) (hm2 : m ≤ 20) {l : List Int} (h : ∀ x ∈ l, 0 ≤ x ∧ x ≤ 49) : mayS f (l.map fun x => m * x) = mayS f l := by
  unfold mayS
  have e1 : (l.map fun x => m * x).all (fun x => decide (0 ≤ x) && decide (x ≤ 1000)) = true := by
    rw [List.all_eq_true]
    intro y hy
    obtain ⟨x, hx, rfl⟩ := List.mem_map.1 hy
    have hb := h x hx
    have h1 : 0 ≤ m * x := Int.mul_nonneg (by omega) hb.1
    have h2 : m * x ≤ 20 * x := Int.mul_le_mul_of_nonneg_right hm2 hb.1
    simp only [Bool.and_eq_true, decide_eq_true_eq]
    omega
  have e2 : l.all (fun x => decide (0 ≤ x) && decide (x ≤ 1000)) = true := by
    rw [List.all_eq_true]
    intro x hx
    have hb := h x hx
    simp only [Bool.and_eq_true, decide_eq_true_eq]
    omega
  have e3 : (l.map fun x => m * x).any (fun x => decide (0 < x)) = l.any (fun x => decide (0 < x)) := by
    rw [List.any_map]
    congr 1
    funext x
    simp only [Function.comp, decide_eq_decide]
    constructor
    · intro h; 
      apply Decidable.byContradiction
      intro hn
      have : m * x ≤ 0 := Int.mul_nonpos_of_nonneg_of_nonpos (by omega) (by omega)
      omega
    · intro h; exact Int.mul_pos (by omega) h
  rw [e1, e2, e3, List.length_map]

set_option maxRecDepth 100000 in
set_option maxHeartbeats 4000000 in
theorem walk (f0 b0 : Int) (hf0 : 0 ≤ f0 ∧ f0 ≤ 255) (hb0 : 0 ≤ b0 ∧ b0 ≤ 255) (v : Value) (L : List Int) (w : World) (hL : Nums .u8 w v L) :
    Calls Try.prog 5 #[.int .u8 f0, v, .int .u8 b0] w (Yields w (.bool true)) := by
  obtain ⟨p, cap, rfl, hcap, hmax⟩ := hL.shape
  unfold maxLen at hmax
  have HL := hid hL
  have HW : Hid (∀ x ∈ L, 0 ≤ x ∧ x ≤ 255) := hid fun x hx => wf_bounds8 (nums_wf hL x hx)
  clear hL
  by_cases h1 : (L.length : Int) < 1
  · go_enter Try.func5, Try.ntmps5
    go_wp2_with (go_at_call 8; refine (known_any _).yields ?_; intro p0)
    go_returns
    exact ⟨by simp, ext_by⟩
  by_cases h2 : (6 : Int) < L.length
  · go_enter Try.func5, Try.ntmps5
    go_wp2_with (go_at_call 8; refine (known_any _).yields ?_; intro p0)
    go_returns
    exact ⟨by simp, ext_by⟩
  go_enter Try.func5, Try.ntmps5
  go_upto_region 6 with (go_at_call 8; refine (known_any _).yields ?_; intro p0)
  refine wp_forget (fun u => Ext w u) ext_by ?_
  intro w1 hx1
  have hm1 : 1 ≤ b0 % 20 + 1 ∧ b0 % 20 + 1 ≤ 20 := by omega
  have hf1 : 1 ≤ f0 % 64 + 1 ∧ f0 % 64 + 1 ≤ 64 := by omega
  generalize b0 % 20 + 1 = m at *
  generalize f0 % 64 + 1 = f at *
  go_wp2
  go_loopw [9, 10, 11] (fun v9 v10 v11 wr => Ext w wr ∧ ∃ k : Nat, v11 = .int .i64 k ∧ k ≤ L.length ∧ Hid (Pair w.heap.size v9 v10 ((L.take k).map fun x => x % 50) ((L.take k).map fun x => m * (x % 50)) wr)) (fun _ _ v11 _ => (L.length - intOf v11).toNat)
  case atStart => exact ⟨hx1, 0, rfl, by omega, hid (by simpa using Pair.nil _ _)⟩
  case round =>
    obtain ⟨hx, k, rfl, hk, hP⟩ := hrel
    by_cases hlt : k < L.length
    · obtain ⟨ba, oa, rfl, a0⟩ := HL.out.at k hlt
      have m0 := hx.cell a0.1
      simp only [Nat.mul_one] at m0
      have hxb := HW.out _ (List.getElem_mem hlt)
      have hwr := hx.size
      have hbw := World.block_lt_of_cell? _ _ a0.1
      simp only at hbw
      have hTK : Hid ((L.take (k + 1)).map (fun x => x % 50) = (L.take k).map (fun x => x % 50) ++ [L[k] % 50] ∧ (L.take (k + 1)).map (fun x => m * (x % 50)) = (L.take k).map (fun x => m * (x % 50)) ++ [m * (L[k] % 50)]) := hid (by
        rw [List.take_succ_eq_append_getElem hlt, List.map_append, List.map_append]; exact ⟨rfl, rfl⟩)
      have hA0 : ((L.take k).map fun x => x % 50).length = k := by simp; omega
      have hB0 : ((L.take k).map fun x => m * (x % 50)).length = k := by simp; omega
      generalize (L.take k).map (fun x => x % 50) = A at *
      generalize (L.take k).map (fun x => m * (x % 50)) = B at *
      have a1 := a0.1
      clear a0
      generalize L[k] = x at *
      have hr : 0 ≤ m * (x % 50) ∧ m * (x % 50) ≤ 1000 := by
        refine ⟨Int.mul_nonneg (by omega) (by omega), ?_⟩
        calc m * (x % 50) ≤ 20 * (x % 50) := Int.mul_le_mul_of_nonneg_right (by omega) (by omega)
          _ ≤ 1000 := by omega
      have i1 : (k : Int) < L.length := by omega
      have HPa := hid hP.out.a
      rw [hA0] at HPa
      go_upto_region 11 with (at_builtin; refine wpList_push_two rfl (.tmp 36) (.tmp 43) 22 3 (.int .i64 0) 8 rfl Try.underlying22 infoI rfl (w := wr) (base := w.heap.size) (.int .i64 (x % 50)) HPa.out rfl (by unfold maxLen; omega) (by omega) hwr (by rfl) (nb := wr.heap.size) (by rfl) rfl ?_; intro p1 c1 w2 ho1 hb1 hg1 hk1)
      have hx2 : Ext w w2 := ⟨Below.trans hx.below hb1⟩
      have hP2 : Hid (Pair w.heap.size (.slice p1 (k + 1) c1) u10 (A ++ [x % 50]) B w2) := hid (by
        have := hP.out.push (p := p1) (c := c1) (x := x % 50) (w1 := w2) (by rw [hA0]; exact ho1) (by rw [hA0]; exact hg1) hk1
        rwa [hA0] at this)
      have m2 := hx2.cell a1
      simp only [Nat.mul_one] at m2
      have hw2 := hx2.size
      have hcm : x % 50 * m = m * (x % 50) := Int.mul_comm _ _
      have hr2 : 0 ≤ x % 50 * m ∧ x % 50 * m ≤ 1000 := by rw [hcm]; exact hr
      have HCM := hid hcm
      have HPb := hid hP2.out.b
      rw [hB0] at HPb
      clear hcm hP m0 hk1 hg1 hb1 ho1 HPa hx
      go_upto_region 9 with (at_builtin; refine wpList_push_two rfl (.tmp 45) (.tmp 54) 22 3 (.int .i64 0) 8 rfl Try.underlying22 infoI rfl (w := w2) (base := w.heap.size) (.int .i64 (x % 50 * m)) HPb.out rfl (by unfold maxLen; omega) (by omega) hw2 (by rfl) (nb := w2.heap.size) (by rfl) rfl ?_; intro p2 c2 w3 ho2 hb2 hg2 hk2)
      have hx3 : Ext w w3 := ⟨Below.trans hx2.below hb2⟩
      have hP3 : Hid (Pair w.heap.size (.slice p1 (k + 1) c1) (.slice p2 (k + 1) c2) (A ++ [x % 50]) (B ++ [m * (x % 50)]) w3) := hid (by
        have := hP2.out.swap.push (p := p2) (c := c2) (x := x % 50 * m) (w1 := w3) (by rw [hB0]; exact ho2) (by rw [hB0]; exact hg2) hk2
        rw [hB0, HCM.out] at this
        exact this.swap)
      clear hP2 ho2 hb2 hg2 hk2 HPb m2
      go_wp2
      all_goals
        go_roundw
        case rel => exact ⟨hx3, k + 1, by go_num, by omega, hid (by rw [hTK.out.1, hTK.out.2]; exact hP3.out)⟩
        case measure => simp [intOf]; omega
    · obtain rfl : k = L.length := by omega
      have hP2 := hP.out
      rw [List.take_length] at hP2
      have hbm : L.map (fun x => m * (x % 50)) = (L.map fun x => x % 50).map fun x => m * x := by rw [List.map_map]; rfl
      rw [hbm] at hP2
      have HWA : Hid (∀ y ∈ L.map (fun x => x % 50), 0 ≤ y ∧ y ≤ 49) := hid fun y hy => by
        obtain ⟨x, hx, rfl⟩ := List.mem_map.1 hy
        have := HW.out x hx
        omega
      generalize L.map (fun x => x % 50) = A at *
      have HIa := hid (owns_map _ _ hP2.a).2
      have HIb := hid (owns_map _ _ hP2.b).2
      have hcc : (if mayS f (A.map fun x => m * x) = true then countsL f (A.map fun x => m * x) else []) = if mayS f A = true then countsL f A else [] := by
        rw [mayS_scl hm1.1 hm1.2 HWA.out, counts_scl (by omega)]
      have HCC := hid hcc
      clear hcc hP hP2 hbm
      go_wp2_with (first
        | (go_at_call 10; (with_reducible refine (counts_all HIa.out _ rfl).mono ?_); rintro e w2 ⟨u2, rfl, hx2, hI2⟩)
        | (go_at_call 10; (with_reducible refine (counts_all (HIb.out.ext hx2) _ HCC.out.symm).mono ?_); rintro e w3 ⟨u3, rfl, hx3, hI3⟩)
        | (go_at_call 9; (with_reducible refine (sameI_to (hI2.ext hx3) hI3).yields ?_); intro p4))
      all_goals
        go_returns
        exact ⟨by simp, ((hx.trans hx2).trans hx3).more _⟩

set_option linter.unusedVariables false in
set_option maxRecDepth 100000 in
theorem lifted (os : Os) (started : os.Started) (H : Type) (enc : TypeId × Value → H) :
    ReturnsInHanded {} Try.checked os 5 .any (Rows.shareScalesSpec.pre6 enc Try.prog Try.f5 Rows.shareScalesRow.domain false) (Rows.shareScalesSpec.post enc Try.prog Try.f5 false true false false) := by
  refine returnsInHanded_of_change (C := Try.checked) Own.own started (by kernel_rfl) Try.func5
    (ChangeSpec.witness6 (enc := enc) (C := Try.checked) false ⟨#[], #[.int .u8 0, .slice none 0 0, .int .u8 0], []⟩ 8 (by kernel_rfl) (by kernel_rfl) (by kernel_rfl) (by kernel_rfl)) ?_
  intro W base args ds gs before hval0 hW hcnd _
  have hval : ∀ (j : Nat) t v, Try.f5.params[j]? = some t → args[j]? = some v → Value.okWide Try.prog W .any base t v := hval0
  have hW' := hW
  obtain ⟨p, q, hA0, hV, rfl, hfz, hnd⟩ := hW
  have hA : DataW.TrodAll enc Try.prog W 0 (fun _ => true) true Try.f5.params.toList args.toList ds p := hA0
  rw [Try.params5] at hA hval
  obtain ⟨v0, vs0, d0, ds0, p0, q0, hargs, rfl, rfl, h0, r0⟩ := trodAll_cons hA
  obtain ⟨v1, vs1, d1, ds1, p1, q1, rfl, rfl, rfl, h1, r1⟩ := trodAll_cons r0
  obtain ⟨v2, vs2, d2, ds2, p2, q2, rfl, rfl, rfl, h2, r2⟩ := trodAll_cons r1
  obtain ⟨rfl, rfl, rfl⟩ := trodAll_nil r2
  obtain rfl : args = #[v0, v1, v2] := by cases args; simp_all
  obtain ⟨rfl, rfl⟩ := trodVars_none hV
  have k0 := h0
  have lt0 : ∀ x ∈ p0, x.block < W.heap.size := by obtain ⟨m, hm⟩ := k0; exact DataW.trod_lt m _ _ _ hm
  have k1 := h1
  have lt1 : ∀ x ∈ p1, x.block < W.heap.size := by obtain ⟨m, hm⟩ := k1; exact DataW.trod_lt m _ _ _ hm
  have k2 := h2
  have lt2 : ∀ x ∈ p2, x.block < W.heap.size := by obtain ⟨m, hm⟩ := k2; exact DataW.trod_lt m _ _ _ hm
  obtain ⟨f0, rfl, rfl, rfl, wf0⟩ := open_int Try.underlying5 (hval 0 5 v0 rfl rfl) h0
  obtain ⟨a1, len1, cap1, rfl⟩ := okWide_slice Try.underlying30 (hval 1 30 v1 rfl rfl)
  obtain ⟨L, hL⟩ := Own.open_nums Try.underlying30 Try.underlying5 (by kernel_rfl) h1
  obtain ⟨b0, rfl, rfl, rfl, wb0⟩ := open_int Try.underlying5 (hval 2 5 v2 rfl rfl) h2
  clear hA0 hval0
  refine (walk f0 b0 (wf_bounds8 wf0) (wf_bounds8 wb0) _ L W hL).mono fun e W' ⟨he, hx⟩ => ?_
  subst he
  exact ⟨_, rfl, _, _, _, [], _, [], hW', trodAll_mk1 (shut_bool Try.underlying4 _), (trodAll_cons_mk (Below.trod Own.laidOut (by kernel_rfl) (of_decide_eq_true (by kernel_rfl)) k0 hx.below lt0) (trodAll_cons_mk (Below.trod Own.laidOut (by kernel_rfl) (of_decide_eq_true (by kernel_rfl)) k1 hx.below lt1) (trodAll_cons_mk (Below.trod Own.laidOut (by kernel_rfl) (of_decide_eq_true (by kernel_rfl)) k2 hx.below lt2) trodAll_mk0))), rfl, hx.below.frame _, fun h => by cases h⟩

theorem proved : Rows.ShareScalesSaid :=
  OpenClaim.holds_of_wide 5 Try.f5 rfl rfl rfl rfl rfl rfl rfl ⟨rfl, rfl, rfl, rfl, rfl⟩ rfl rfl rfl rfl rfl (by kernel_rfl) Try.func5 (by kernel_rfl)
    (of_decide_eq_true (by kernel_rfl)) (by unfold Func.isWrapper; first | (rw [if_pos (by decide +kernel)]; kernel_rfl) | (rw [if_neg (by decide +kernel)]; exact ⟨rfl, rfl⟩))
    (fun os started H enc _ => lifted os started H enc)

end shareScales
end Go.Proofs.Ytpickmmegaeklaa
