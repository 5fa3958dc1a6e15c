/- SpreadGaps: the gaps of a domain, from the least to the greatest, have its even distance between them; all of them together are the frame: the law answers true for every row and domain. No conditions. -/
import Derived.Test.YtiejnochddjlmaaSpK
import Derived.Deep.LoopGhost
namespace Go.Proofs.Ytiejnochddjlmaa
set_option linter.unusedSimpArgs false
open Go.ChangeShapes Go.WideShapes Go.ChangeAt Go.RowKit Go.Joins Go.Deep

namespace spreadGaps
set_option maxRecDepth 100000 in
set_option maxHeartbeats 8000000 in
theorem walk (d0 : Int) (hd0 : 0 ≤ d0 ∧ d0 ≤ 255) (v : Value) (L : List Int) (w : World) (hL : Nums .u8 w v L) :
    Calls Try.prog 7 #[v, .int .u8 d0] w (Yields w (.bool true)) := by
  obtain ⟨p, cap, rfl, hcap, hmax⟩ := hL.shape
  unfold maxLen at hmax
  have HL := hid hL
  have HW : Hid (∀ x ∈ L, 0 ≤ x ∧ x ≤ 255) := hid fun x hx => wf_bounds8 (nums_wf hL x hx)
  clear hL
  by_cases h1 : (L.length : Int) < 1
  · go_enter Try.func7, Try.ntmps7
    go_wp2_with (go_at_call 8; refine (known_any _).yields ?_; intro p0)
    go_returns
    exact ⟨by simp, ext_by⟩
  by_cases h2 : (6 : Int) < L.length
  · go_enter Try.func7, Try.ntmps7
    go_wp2_with (go_at_call 8; refine (known_any _).yields ?_; intro p0)
    go_returns
    exact ⟨by simp, ext_by⟩
  go_enter Try.func7, Try.ntmps7
  go_upto_region 5 with (go_at_call 8; refine (known_any _).yields ?_; intro p0)
  refine wp_forget (fun u => Ext w u) ext_by ?_
  intro w1 hx1
  go_wp2
  go_loopw [5, 6, 7] (fun v3 v4 v5 wr => Ext w wr ∧ ∃ (k : Nat) (s : Int), v5 = .int .i64 k ∧ v4 = .int .i64 s ∧ k ≤ L.length ∧ 0 ≤ s ∧ s ≤ 11 * k ∧ Hid (s = tot ((L.take k).map fun x => x % 12)) ∧ Hid (wr.ownsRow w.heap.size 3 1 v3 k (((L.take k).map fun x => x % 12).map iV))) (fun _ _ v5 _ => (L.length - intOf v5).toNat)
  case atStart => exact ⟨hx1, 0, 0, rfl, rfl, by omega, by omega, by omega, hid (by simp [tot]), hid (World.ownsRow_nil _ _ _ _)⟩
  case round =>
    obtain ⟨hx, k, s, rfl, rfl, hk, s0, s1, hs, hA⟩ := hrel
    by_cases hlt : k < L.length
    · obtain ⟨ba, oa, rfl, a0⟩ := HL.out.at k hlt
      have m0 := hx.cell a0.1
      simp only [Nat.mul_one] at m0
      have hxb := HW.out _ (List.getElem_mem hlt)
      have hwr := hx.size
      have hTK : (L.take (k + 1)).map (fun x => x % 12) = (L.take k).map (fun x => x % 12) ++ [L[k] % 12] := by
        rw [List.take_succ_eq_append_getElem hlt, List.map_append]; rfl
      generalize L[k] = x at *
      have i1 : (k : Int) < L.length := by omega
      go_upto_region 11 with (at_builtin; refine wpList_push_own rfl (.tmp 28) (.tmp 35) 22 3 (.int .i64 0) 1 8 rfl Try.underlying22 infoI rfl (by decide) (w := wr) (base := w.heap.size) hA.out (news := [.int .i64 (x % 12)]) rfl (ints_oneCell .i64 [x % 12]) (by unfold maxLen; omega) (by omega) hwr (by rfl) (nb := wr.heap.size) (by rfl) rfl ?_; intro p1 c1 w2 ho1 hb1)
      have hx2 : Ext w w2 := ⟨Below.trans hx.below hb1⟩
      have hmap : ((L.take k).map fun x => x % 12).map iV ++ [Value.int .i64 (x % 12)] = (((L.take k).map fun x => x % 12) ++ [x % 12]).map iV := by simp [iV]
      rw [hmap] at ho1
      have HO := hid ho1
      have hI := (owns_map _ _ HO.out).2
      obtain ⟨b5, o5, e5, a5⟩ := hI.at k (by simp; omega)
      simp only [Nat.mul_one] at a5
      rw [List.getElem_append_right (by simp; omega)] at a5
      simp only [List.length_map, List.length_take, Nat.min_eq_left hk, Nat.sub_self, List.getElem_cons_zero] at a5
      have HTK := hid hTK
      clear hmap ho1 hb1 hI hTK
      subst e5
      go_wp2
      all_goals
        go_roundw
        case rel => exact ⟨hx2, k + 1, _, by go_num, rfl, by omega, by omega, by omega, hid (by rw [HTK.out, tot_append, ← hs.out]; simp [tot]), hid (by rw [HTK.out]; exact HO.out)⟩
        case measure => simp [intOf]; omega
    · obtain rfl : k = L.length := by omega
      have hs2 := hs.out
      have hA2 := hA.out
      rw [List.take_length] at hs2 hA2
      have hlen : (L.map fun x => x % 12).length = L.length := by simp
      have HWA : Hid (∀ y ∈ L.map (fun x => x % 12), 0 ≤ y ∧ y ≤ 11) := hid fun y hy => by
        obtain ⟨x, hx, rfl⟩ := List.mem_map.1 hy
        have := HW.out x hx
        omega
      generalize L.map (fun x => x % 12) = A at *
      have HI := hid (owns_map _ _ hA2).2
      obtain ⟨pa, ca, rfl, hca, hma⟩ := HI.out.shape
      unfold maxLen at hma
      have hA6 : A.length ≤ 6 := by omega
      have hA1 : 0 < A.length := by omega
      have HS := hid hs2
      have HLN := hid hlen
      clear hs hA hs2 hA2 hlen
      have hmn : (s < 1 ∨ 64 < s) → mayC A = false := fun h => by
        have := HS.out
        unfold mayC
        rcases h with h | h
        · rw [decide_eq_false (show ¬ 1 ≤ tot A by omega)]; simp
        · rw [decide_eq_false (show ¬ tot A ≤ 64 by omega)]; simp
      have hmy : ¬ s < 1 → ¬ 64 < s → MayC A := fun h3 h4 => by
        have := HS.out
        exact ⟨by omega, hA6, fun y hy => (HWA.out y hy).1, fun y hy => by have := (HWA.out y hy).2; omega, by omega, by omega⟩
      by_cases hno : s < 1 ∨ 64 < s
      · rcases hno with hno | hno
        · go_wp2
          go_returns
          exact ⟨by simp, hx⟩
        · have hno2 : ¬ s < 1 := by omega
          go_wp2
          go_returns
          exact ⟨by simp, hx⟩
      have h3 : ¬ s < 1 := fun h => hno (.inl h)
      have h4 : ¬ 64 < s := fun h => hno (.inr h)
      have hM := hmy h3 h4
      have HC : Hid (∀ (v : Value) (u : World), Ints u v A → Calls Try.prog 12 #[v] u fun e w' => ∃ r, e = .returned r ∧ Ext u w' ∧ Ints w' r (slotsL A)) := hid fun v u h => slots_all h _ (by rw [if_pos hM.may])
      have hsl : ((slotsL A).length : Int) = s := by rw [slotsL_length hM, HS.out]
      obtain ⟨k0, hk0⟩ : ∃ k0 : Nat, d0 % (A.length : Int) = k0 := ⟨(d0 % (A.length : Int)).toNat, by have := Int.emod_nonneg d0 (show (A.length : Int) ≠ 0 by omega); omega⟩
      have hkl : k0 < A.length := by have := Int.emod_lt_of_pos d0 (show (0 : Int) < A.length by omega); omega
      have htm : Int.tmod d0 (A.length : Int) = k0 := by rw [Int.tmod_eq_emod_of_nonneg hd0.1]; exact hk0
      have hz : ((A.length : Int) == 0) = false := by rw [beq_eq_false_iff_ne]; omega
      have hz2 : ((A.length : Int) = 0) = False := eq_false (by omega)
      have hcn : cntTo (slotsL A) (k0 : Int) (slotsL A).length = A[k0] := by rw [cnt_all hM hkl, at0_get hkl]
      have hl64 : (slotsL A).length ≤ 64 := by omega
      have hgz : A[k0] = 0 → gapL (slotsL A) k0 = (0, 0) := fun h => gapL_none (by rw [hcn, h])
      have hgp : 0 < A[k0] → 1 ≤ (gapL (slotsL A) k0).1 ∧ (gapL (slotsL A) k0).2 ≤ s ∧ (gapL (slotsL A) k0).1 * A[k0] ≤ s ∧ s ≤ (gapL (slotsL A) k0).2 * A[k0] ∧ (A[k0] = 1 → (gapL (slotsL A) k0).1 = s) := fun h => by
        have := gapL_bounds hl64 hcn h
        rwa [hsl] at this
      have HG : Hid (∀ (v : Value) (u : World), Ints u v (slotsL A) → Calls Try.prog 9 #[v, .int .i64 k0] u (Yields u (.tuple #[.int .i64 (gapL (slotsL A) k0).1, .int .i64 (gapL (slotsL A) k0).2]))) := hid fun v u h => gap_any h (by omega)
      have hyb := HWA.out _ (List.getElem_mem hkl)
      obtain ⟨b1, o1, rfl, a1⟩ := HI.out.at k0 hkl
      have m1 := a1
      simp only [Nat.mul_one] at m1
      clear hmn hmy hM hno hcn hl64 a1 hsl
      generalize gapL (slotsL A) k0 = gp at *
      obtain ⟨a, b⟩ := gp
      simp only at hgp HG
      have hkA : (k0 : Int) < A.length := by omega
      generalize slotsL A = Z at *
      generalize A[k0] = y at *
      go_upto_region 15 with (go_at_call 12; (with_reducible refine (HC.out _ _ HI.out).mono ?_); rintro e w2 ⟨u2, rfl, hx2, hI2⟩)
      have HI2 := hid hI2
      have hxx := hx.trans hx2
      have m2 := hx2.cell m1
      clear hI2 m1 hx
      go_upto_region 17 with (go_at_call 9; (with_reducible refine (HG.out _ _ HI2.out).yields ?_); intro p2)
      have m3 := more_cell m2 p2
      have hx3 := hxx.more p2
      clear m2
      generalize more w2 p2 = w3 at *
      by_cases hy0 : y = 0
      · have hg := hgz hy0
        injection hg with hga hgb
        subst hga hgb
        have q1 : (y == 0) = true := by simpa using hy0
        clear hgz hgp
        go_wp2
        go_returns
        exact ⟨by simp, hx3⟩
      have q1 : (y == 0) = false := by simpa using hy0
      obtain ⟨g1, g2, g3, g4, g5⟩ := hgp (by omega)
      have hab : b * y ≤ 64 * 11 := by
        calc b * y ≤ 64 * y := Int.mul_le_mul_of_nonneg_right (by omega) (by omega)
          _ ≤ 64 * 11 := by omega
      have haa : 0 ≤ a * y := Int.mul_nonneg (by omega) (by omega)
      clear hgz hgp
      by_cases hy1 : y = 1
      · have hea := g5 hy1
        have q2 : decide (1 < y) = false := by simp; omega
        have q3 : (a == s) = true := by simpa using hea
        clear g5 hea hy1
        go_wp2
        all_goals
          go_returns
          exact ⟨by simp, hx3⟩
      · have q2 : 1 < y := by omega
        clear g5 hy1
        go_wp2
        all_goals
          go_returns
          exact ⟨by simp, hx3⟩

set_option linter.unusedVariables false in
set_option maxRecDepth 100000 in
theorem lifted (os : Os) (started : os.Started) (H : Type) (enc : TypeId × Value → H) :
    ReturnsInHanded {} Try.checked os 7 .any (Rows.spreadGapsSpec.pre6 enc Try.prog Try.f7 Rows.spreadGapsRow.domain false) (Rows.spreadGapsSpec.post enc Try.prog Try.f7 false true false false) := by
  refine returnsInHanded_of_change (C := Try.checked) Own.own started (by kernel_rfl) Try.func7
    (ChangeSpec.witness6 (enc := enc) (C := Try.checked) false ⟨#[], #[.slice none 0 0, .int .u8 0], []⟩ 8 (by kernel_rfl) (by kernel_rfl) (by kernel_rfl) (by kernel_rfl)) ?_
  intro W base args ds gs before hval0 hW hcnd _
  have hval : ∀ (j : Nat) t v, Try.f7.params[j]? = some t → args[j]? = some v → Value.okWide Try.prog W .any base t v := hval0
  have hW' := hW
  obtain ⟨p, q, hA0, hV, rfl, hfz, hnd⟩ := hW
  have hA : DataW.TrodAll enc Try.prog W 0 (fun _ => true) true Try.f7.params.toList args.toList ds p := hA0
  rw [Try.params7] at hA hval
  obtain ⟨v0, vs0, d0, ds0, p0, q0, hargs, rfl, rfl, h0, r0⟩ := trodAll_cons hA
  obtain ⟨v1, vs1, d1, ds1, p1, q1, rfl, rfl, rfl, h1, r1⟩ := trodAll_cons r0
  obtain ⟨rfl, rfl, rfl⟩ := trodAll_nil r1
  obtain rfl : args = #[v0, v1] := by cases args; simp_all
  obtain ⟨rfl, rfl⟩ := trodVars_none hV
  have k0 := h0
  have lt0 : ∀ x ∈ p0, x.block < W.heap.size := by obtain ⟨m, hm⟩ := k0; exact DataW.trod_lt m _ _ _ hm
  have k1 := h1
  have lt1 : ∀ x ∈ p1, x.block < W.heap.size := by obtain ⟨m, hm⟩ := k1; exact DataW.trod_lt m _ _ _ hm
  obtain ⟨a0, len0, cap0, rfl⟩ := okWide_slice Try.underlying29 (hval 0 29 v0 rfl rfl)
  obtain ⟨L, hL⟩ := Own.open_nums Try.underlying29 Try.underlying5 (by kernel_rfl) h0
  obtain ⟨d0, rfl, rfl, rfl, wd0⟩ := open_int Try.underlying5 (hval 1 5 v1 rfl rfl) h1
  clear hA0 hval0
  refine (walk d0 (wf_bounds8 wd0) _ L W hL).mono fun e W' ⟨he, hx⟩ => ?_
  subst he
  exact ⟨_, rfl, _, _, _, [], _, [], hW', trodAll_mk1 (shut_bool Try.underlying4 _), (trodAll_cons_mk (Below.trod Own.laidOut (by kernel_rfl) (of_decide_eq_true (by kernel_rfl)) k0 hx.below lt0) (trodAll_cons_mk (Below.trod Own.laidOut (by kernel_rfl) (of_decide_eq_true (by kernel_rfl)) k1 hx.below lt1) trodAll_mk0)), rfl, hx.below.frame _, fun h => by cases h⟩

theorem proved : Rows.SpreadGapsSaid :=
  OpenClaim.holds_of_wide 7 Try.f7 rfl rfl rfl rfl rfl rfl rfl ⟨rfl, rfl, rfl, rfl, rfl⟩ rfl rfl rfl rfl rfl (by kernel_rfl) Try.func7 (by kernel_rfl)
    (of_decide_eq_true (by kernel_rfl)) (by unfold Func.isWrapper; first | (rw [if_pos (by decide +kernel)]; kernel_rfl) | (rw [if_neg (by decide +kernel)]; exact ⟨rfl, rfl⟩))
    (fun os started H enc _ => lifted os started H enc)

end spreadGaps
end Go.Proofs.Ytiejnochddjlmaa
