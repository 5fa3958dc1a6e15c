/- SpreadCounts: each has as many slots as it is to have, and all slots are somebody's: the law answers true for every row. No conditions. -/
import Derived.Test.YtiejnochddjlmaaRp0
import Derived.Test.YtiejnochddjlmaaSpK
import Derived.Deep.LoopGhost
namespace Go.Proofs.Ytiejnochddjlmaa
set_option linter.unusedSimpArgs false
open Go.ChangeShapes Go.WideShapes Go.ChangeAt Go.RowKit Go.Joins Go.Deep

namespace spreadCounts
set_option maxRecDepth 100000 in
set_option maxHeartbeats 8000000 in
theorem walk  (v : Value) (L : List Int) (w : World) (hL : Nums .u8 w v L) :
    Calls Try.prog 4 #[v] w (Yields w (.bool true)) := by
  obtain ⟨p, cap, rfl, hcap, hmax⟩ := hL.shape
  unfold maxLen at hmax
  have HL := hid hL
  have HW : Hid (∀ x ∈ L, 0 ≤ x ∧ x ≤ 255) := hid fun x hx => wf_bounds8 (nums_wf hL x hx)
  clear hL
  by_cases h1 : (L.length : Int) < 1
  · go_enter Try.func4, Try.ntmps4
    go_wp2_with (go_at_call 8; refine (known_any _).yields ?_; intro p0)
    go_returns
    exact ⟨by simp, ext_by⟩
  by_cases h2 : (6 : Int) < L.length
  · go_enter Try.func4, Try.ntmps4
    go_wp2_with (go_at_call 8; refine (known_any _).yields ?_; intro p0)
    go_returns
    exact ⟨by simp, ext_by⟩
  go_enter Try.func4, Try.ntmps4
  go_upto_region 5 with (go_at_call 8; refine (known_any _).yields ?_; intro p0)
  refine wp_forget (fun u => Ext w u) ext_by ?_
  intro w1 hx1
  go_wp2
  go_loopw [3, 4, 5] (fun v3 v4 v5 wr => Ext w wr ∧ ∃ (k : Nat) (s : Int), v5 = .int .i64 k ∧ v4 = .int .i64 s ∧ k ≤ L.length ∧ 0 ≤ s ∧ s ≤ 11 * k ∧ Hid (s = tot ((L.take k).map fun x => x % 12)) ∧ Hid (wr.ownsRow w.heap.size 3 1 v3 k (((L.take k).map fun x => x % 12).map iV))) (fun _ _ v5 _ => (L.length - intOf v5).toNat)
  case atStart => exact ⟨hx1, 0, 0, rfl, rfl, by omega, by omega, by omega, hid (by simp [tot]), hid (World.ownsRow_nil _ _ _ _)⟩
  case round =>
    obtain ⟨hx, k, s, rfl, rfl, hk, s0, s1, hs, hA⟩ := hrel
    by_cases hlt : k < L.length
    · obtain ⟨ba, oa, rfl, a0⟩ := HL.out.at k hlt
      have m0 := hx.cell a0.1
      simp only [Nat.mul_one] at m0
      have hxb := HW.out _ (List.getElem_mem hlt)
      have hwr := hx.size
      have hTK : (L.take (k + 1)).map (fun x => x % 12) = (L.take k).map (fun x => x % 12) ++ [L[k] % 12] := by
        rw [List.take_succ_eq_append_getElem hlt, List.map_append]; rfl
      generalize L[k] = x at *
      have i1 : (k : Int) < L.length := by omega
      go_upto_region 11 with (at_builtin; refine wpList_push_own rfl (.tmp 24) (.tmp 31) 22 3 (.int .i64 0) 1 8 rfl Try.underlying22 infoI rfl (by decide) (w := wr) (base := w.heap.size) hA.out (news := [.int .i64 (x % 12)]) rfl (ints_oneCell .i64 [x % 12]) (by unfold maxLen; omega) (by omega) hwr (by rfl) (nb := wr.heap.size) (by rfl) rfl ?_; intro p1 c1 w2 ho1 hb1)
      have hx2 : Ext w w2 := ⟨Below.trans hx.below hb1⟩
      have hmap : ((L.take k).map fun x => x % 12).map iV ++ [Value.int .i64 (x % 12)] = (((L.take k).map fun x => x % 12) ++ [x % 12]).map iV := by simp [iV]
      rw [hmap] at ho1
      have HO := hid ho1
      have hI := (owns_map _ _ HO.out).2
      obtain ⟨b5, o5, e5, a5⟩ := hI.at k (by simp; omega)
      simp only [Nat.mul_one] at a5
      rw [List.getElem_append_right (by simp; omega)] at a5
      simp only [List.length_map, List.length_take, Nat.min_eq_left hk, Nat.sub_self, List.getElem_cons_zero] at a5
      have HTK := hid hTK
      clear hmap ho1 hb1 hI hTK
      subst e5
      go_wp2
      all_goals
        go_roundw
        case rel => exact ⟨hx2, k + 1, _, by go_num, rfl, by omega, by omega, by omega, hid (by rw [HTK.out, tot_append, ← hs.out]; simp [tot]), hid (by rw [HTK.out]; exact HO.out)⟩
        case measure => simp [intOf]; omega
    · obtain rfl : k = L.length := by omega
      have hs2 := hs.out
      have hA2 := hA.out
      rw [List.take_length] at hs2 hA2
      have hlen : (L.map fun x => x % 12).length = L.length := by simp
      have HWA : Hid (∀ y ∈ L.map (fun x => x % 12), 0 ≤ y ∧ y ≤ 11) := hid fun y hy => by
        obtain ⟨x, hx, rfl⟩ := List.mem_map.1 hy
        have := HW.out x hx
        omega
      generalize L.map (fun x => x % 12) = A at *
      have HI := hid (owns_map _ _ hA2).2
      obtain ⟨pa, ca, rfl, hca, hma⟩ := HI.out.shape
      unfold maxLen at hma
      have hA6 : A.length ≤ 6 := by omega
      have hA1 : 0 < A.length := by omega
      have HS := hid hs2
      have HLN := hid hlen
      clear hs hA hs2 hA2 hlen
      have hmn : (s < 1 ∨ 64 < s) → mayC A = false := fun h => by
        have := HS.out
        unfold mayC
        rcases h with h | h
        · rw [decide_eq_false (show ¬ 1 ≤ tot A by omega)]; simp
        · rw [decide_eq_false (show ¬ tot A ≤ 64 by omega)]; simp
      have hmy : ¬ s < 1 → ¬ 64 < s → MayC A := fun h3 h4 => by
        have := HS.out
        exact ⟨by omega, hA6, fun y hy => (HWA.out y hy).1, fun y hy => by have := (HWA.out y hy).2; omega, by omega, by omega⟩
      by_cases hno : s < 1 ∨ 64 < s
      · have hm := hmn hno
        have HC : Hid ([] = if mayC A = true then slotsL A else []) := hid (by rw [hm]; rfl)
        clear hm hmn hmy
        go_upto_region 13 with (go_at_call 12; (with_reducible refine (slots_all HI.out _ HC.out).mono ?_); rintro e w2 ⟨u2, rfl, hx2, hI2⟩; obtain ⟨q5, c5, rfl⟩ := no_ints hI2)
        rcases hno with hno | hno
        · go_wp2
          go_returns
          exact ⟨by simp, hx.trans hx2⟩
        · have hno2 : ¬ s < 1 := by omega
          go_wp2
          go_returns
          exact ⟨by simp, hx.trans hx2⟩
      have h3 : ¬ s < 1 := fun h => hno (.inl h)
      have h4 : ¬ 64 < s := fun h => hno (.inr h)
      have hM := hmy h3 h4
      have HC : Hid (∀ (v : Value) (u : World), Ints u v A → Calls Try.prog 12 #[v] u fun e w' => ∃ r, e = .returned r ∧ Ext u w' ∧ Ints w' r (slotsL A)) := hid fun v u h => slots_all h _ (by rw [if_pos hM.may])
      have hsl : ((slotsL A).length : Int) = s := by rw [slotsL_length hM, HS.out]
      have HCN : Hid (∀ i (hi : i < A.length), cntTo (slotsL A) (i : Int) (slotsL A).length = A[i]) := hid fun i hi => by rw [cnt_all hM hi, at0_get hi]
      clear hmn hmy hM hno
      generalize slotsL A = Z at *
      go_upto_region 13 with (go_at_call 12; (with_reducible refine (HC.out _ _ HI.out).mono ?_); rintro e w2 ⟨u2, rfl, hx2, hI2⟩)
      obtain ⟨pc, cc, rfl, hcc, hmc⟩ := hI2.shape
      unfold maxLen at hmc
      have HI2 := hid hI2
      have HIa := hid (HI.out.ext hx2)
      clear hI2
      have hxx : Ext w w2 := hx.trans hx2
      have HSL := hid hsl
      clear hsl
      go_wp2
      go_loopw [7] (fun v7 wr => Ext w2 wr ∧ ∃ i : Nat, v7 = .int .i64 i ∧ i ≤ A.length) (fun v7 _ => (A.length - intOf v7).toNat)
      case atStart => exact ⟨Ext.refl _, 0, rfl, by omega⟩
      case round =>
        obtain ⟨hx5, i, rfl, hi⟩ := hrel
        by_cases hlt : i < A.length
        · obtain ⟨b1, o1, rfl, a1⟩ := HIa.out.at i hlt
          have m1 := more_cell (hx5.cell a1)
          simp only [Nat.mul_one] at m1
          have HQ : Hid (∀ u, Ext w2 u → Calls Try.prog 14 #[.slice pc Z.length cc, .int .i64 i] u (Yields u (.int .i64 A[i]))) := hid fun u hu => count_to (HI2.out.ext hu) (HCN.out i hlt)
          clear a1
          generalize A[i] = x at *
          have i1 : (i : Int) < A.length := by omega
          have hxx2 : (x != x) = false := by simp
          go_wp2
          ((first | refine wp_region_more (by kernel_rfl) (by kernel_rfl) ?_ | refine wp_region_ext (by kernel_rfl) (by kernel_rfl) ?_); (try dsimp only [append_cons', append_nil']); (repeat (go_big_quiet_step ((go_at_call 14; with_reducible refine Calls.more_of (HQ.out _ (hx5.more _)))))); refine wpQuiet_nil ?_; rintro _ ⟨pq, rfl⟩)
          go_wp2
          all_goals
            go_roundw
            case rel => exact ⟨hx5.trans (ext_more _ _), i + 1, by go_num, by omega⟩
            case measure => simp [intOf]; omega
        · obtain rfl : i = A.length := by omega
          have hq : ((Z.length : Int) == s) = true := by have := HSL.out; simp; omega
          go_wp2
          go_returns
          exact ⟨by simp, hxx.trans hx5⟩

set_option linter.unusedVariables false in
set_option maxRecDepth 100000 in
theorem lifted (os : Os) (started : os.Started) (H : Type) (enc : TypeId × Value → H) :
    ReturnsInHanded {} Try.checked os 4 .any (Rows.spreadCountsSpec.pre6 enc Try.prog Try.f4 Rows.spreadCountsRow.domain false) (Rows.spreadCountsSpec.post enc Try.prog Try.f4 false true false false) := by
  refine returnsInHanded_of_change (C := Try.checked) Own.own started (by kernel_rfl) Try.func4
    (ChangeSpec.witness6 (enc := enc) (C := Try.checked) false ⟨#[], #[.slice none 0 0], []⟩ 8 (by kernel_rfl) (by kernel_rfl) (by kernel_rfl) (by kernel_rfl)) ?_
  intro W base args ds gs before hval0 hW hcnd _
  have hval : ∀ (j : Nat) t v, Try.f4.params[j]? = some t → args[j]? = some v → Value.okWide Try.prog W .any base t v := hval0
  have hW' := hW
  obtain ⟨p, q, hA0, hV, rfl, hfz, hnd⟩ := hW
  have hA : DataW.TrodAll enc Try.prog W 0 (fun _ => true) true Try.f4.params.toList args.toList ds p := hA0
  rw [Try.params4] at hA hval
  obtain ⟨v0, vs0, d0, ds0, p0, q0, hargs, rfl, rfl, h0, r0⟩ := trodAll_cons hA
  obtain ⟨rfl, rfl, rfl⟩ := trodAll_nil r0
  obtain rfl : args = #[v0] := by cases args; simp_all
  obtain ⟨rfl, rfl⟩ := trodVars_none hV
  have k0 := h0
  have lt0 : ∀ x ∈ p0, x.block < W.heap.size := by obtain ⟨m, hm⟩ := k0; exact DataW.trod_lt m _ _ _ hm
  obtain ⟨a0, len0, cap0, rfl⟩ := okWide_slice Try.underlying29 (hval 0 29 v0 rfl rfl)
  obtain ⟨L, hL⟩ := Own.open_nums Try.underlying29 Try.underlying5 (by kernel_rfl) h0
  clear hA0 hval0
  refine (walk _ L W hL).mono fun e W' ⟨he, hx⟩ => ?_
  subst he
  exact ⟨_, rfl, _, _, _, [], _, [], hW', trodAll_mk1 (shut_bool Try.underlying4 _), (trodAll_cons_mk (Below.trod Own.laidOut (by kernel_rfl) (of_decide_eq_true (by kernel_rfl)) k0 hx.below lt0) trodAll_mk0), rfl, hx.below.frame _, fun h => by cases h⟩

theorem proved : Rows.SpreadCountsSaid :=
  OpenClaim.holds_of_wide 4 Try.f4 rfl rfl rfl rfl rfl rfl rfl ⟨rfl, rfl, rfl, rfl, rfl⟩ rfl rfl rfl rfl rfl (by kernel_rfl) Try.func4 (by kernel_rfl)
    (of_decide_eq_true (by kernel_rfl)) (by unfold Func.isWrapper; first | (rw [if_pos (by decide +kernel)]; kernel_rfl) | (rw [if_neg (by decide +kernel)]; exact ⟨rfl, rfl⟩))
    (fun os started H enc _ => lifted os started H enc)

end spreadCounts
end Go.Proofs.Ytiejnochddjlmaa
