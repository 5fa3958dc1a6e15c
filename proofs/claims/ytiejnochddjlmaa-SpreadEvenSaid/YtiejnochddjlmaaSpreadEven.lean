/- SpreadEven: ahead of each slot each domain has had its share, but for as many as there are domains: the law answers true for every row. No conditions. -/
import Derived.Test.YtiejnochddjlmaaSpK
import Derived.Deep.LoopGhost
import Derived.Deep.CutRange
import Derived.Deep.CutBlock
namespace Go.Proofs.Ytiejnochddjlmaa
set_option linter.unusedSimpArgs false
open Go.ChangeShapes Go.WideShapes Go.ChangeAt Go.RowKit Go.Joins Go.Deep

namespace spreadEven
set_option maxRecDepth 100000 in
set_option maxHeartbeats 8000000 in
theorem walk  (v : Value) (L : List Int) (w : World) (hL : Nums .u8 w v L) :
    Calls Try.prog 5 #[v] w (Yields w (.bool true)) := by
  obtain ⟨p, cap, rfl, hcap, hmax⟩ := hL.shape
  unfold maxLen at hmax
  have HL := hid hL
  have HW : Hid (∀ x ∈ L, 0 ≤ x ∧ x ≤ 255) := hid fun x hx => wf_bounds8 (nums_wf hL x hx)
  clear hL
  by_cases h1 : (L.length : Int) < 1
  · go_enter Try.func5, Try.ntmps5
    go_wp2_with (go_at_call 8; refine (known_any _).yields ?_; intro p0)
    go_returns
    exact ⟨by simp, ext_by⟩
  by_cases h2 : (6 : Int) < L.length
  · go_enter Try.func5, Try.ntmps5
    go_wp2_with (go_at_call 8; refine (known_any _).yields ?_; intro p0)
    go_returns
    exact ⟨by simp, ext_by⟩
  go_enter Try.func5, Try.ntmps5
  go_upto_region 5 with (go_at_call 8; refine (known_any _).yields ?_; intro p0)
  refine wp_forget (fun u => Ext w u) ext_by ?_
  intro w1 hx1
  go_wp2
  go_loopw [3, 4, 5] (fun v3 v4 v5 wr => Ext w wr ∧ ∃ (k : Nat) (s : Int), v5 = .int .i64 k ∧ v4 = .int .i64 s ∧ k ≤ L.length ∧ 0 ≤ s ∧ s ≤ 11 * k ∧ Hid (s = tot ((L.take k).map fun x => x % 12)) ∧ Hid (wr.ownsRow w.heap.size 3 1 v3 k (((L.take k).map fun x => x % 12).map iV))) (fun _ _ v5 _ => (L.length - intOf v5).toNat)
  case atStart => exact ⟨hx1, 0, 0, rfl, rfl, by omega, by omega, by omega, hid (by simp [tot]), hid (World.ownsRow_nil _ _ _ _)⟩
  case round =>
    obtain ⟨hx, k, s, rfl, rfl, hk, s0, s1, hs, hA⟩ := hrel
    by_cases hlt : k < L.length
    · obtain ⟨ba, oa, rfl, a0⟩ := HL.out.at k hlt
      have m0 := hx.cell a0.1
      simp only [Nat.mul_one] at m0
      have hxb := HW.out _ (List.getElem_mem hlt)
      have hwr := hx.size
      have hTK : (L.take (k + 1)).map (fun x => x % 12) = (L.take k).map (fun x => x % 12) ++ [L[k] % 12] := by
        rw [List.take_succ_eq_append_getElem hlt, List.map_append]; rfl
      generalize L[k] = x at *
      have i1 : (k : Int) < L.length := by omega
      go_upto_region 11 with (at_builtin; refine wpList_push_own rfl (.tmp 27) (.tmp 34) 22 3 (.int .i64 0) 1 8 rfl Try.underlying22 infoI rfl (by decide) (w := wr) (base := w.heap.size) hA.out (news := [.int .i64 (x % 12)]) rfl (ints_oneCell .i64 [x % 12]) (by unfold maxLen; omega) (by omega) hwr (by rfl) (nb := wr.heap.size) (by rfl) rfl ?_; intro p1 c1 w2 ho1 hb1)
      have hx2 : Ext w w2 := ⟨Below.trans hx.below hb1⟩
      have hmap : ((L.take k).map fun x => x % 12).map iV ++ [Value.int .i64 (x % 12)] = (((L.take k).map fun x => x % 12) ++ [x % 12]).map iV := by simp [iV]
      rw [hmap] at ho1
      have HO := hid ho1
      have hI := (owns_map _ _ HO.out).2
      obtain ⟨b5, o5, e5, a5⟩ := hI.at k (by simp; omega)
      simp only [Nat.mul_one] at a5
      rw [List.getElem_append_right (by simp; omega)] at a5
      simp only [List.length_map, List.length_take, Nat.min_eq_left hk, Nat.sub_self, List.getElem_cons_zero] at a5
      have HTK := hid hTK
      clear hmap ho1 hb1 hI hTK
      subst e5
      go_wp2
      all_goals
        go_roundw
        case rel => exact ⟨hx2, k + 1, _, by go_num, rfl, by omega, by omega, by omega, hid (by rw [HTK.out, tot_append, ← hs.out]; simp [tot]), hid (by rw [HTK.out]; exact HO.out)⟩
        case measure => simp [intOf]; omega
    · obtain rfl : k = L.length := by omega
      have hs2 := hs.out
      have hA2 := hA.out
      rw [List.take_length] at hs2 hA2
      have hlen : (L.map fun x => x % 12).length = L.length := by simp
      have HWA : Hid (∀ y ∈ L.map (fun x => x % 12), 0 ≤ y ∧ y ≤ 11) := hid fun y hy => by
        obtain ⟨x, hx, rfl⟩ := List.mem_map.1 hy
        have := HW.out x hx
        omega
      generalize L.map (fun x => x % 12) = A at *
      have HI := hid (owns_map _ _ hA2).2
      obtain ⟨pa, ca, rfl, hca, hma⟩ := HI.out.shape
      unfold maxLen at hma
      have hA6 : A.length ≤ 6 := by omega
      have hA1 : 0 < A.length := by omega
      have HS := hid hs2
      have HLN := hid hlen
      clear hs hA hs2 hA2 hlen
      have hmn : (s < 1 ∨ 64 < s) → mayC A = false := fun h => by
        have := HS.out
        unfold mayC
        rcases h with h | h
        · rw [decide_eq_false (show ¬ 1 ≤ tot A by omega)]; simp
        · rw [decide_eq_false (show ¬ tot A ≤ 64 by omega)]; simp
      have hmy : ¬ s < 1 → ¬ 64 < s → MayC A := fun h3 h4 => by
        have := HS.out
        exact ⟨by omega, hA6, fun y hy => (HWA.out y hy).1, fun y hy => by have := (HWA.out y hy).2; omega, by omega, by omega⟩
      by_cases hno : s < 1 ∨ 64 < s
      · have hm := hmn hno
        have HC : Hid ([] = if mayC A = true then slotsL A else []) := hid (by rw [hm]; rfl)
        clear hm hmn hmy
        go_upto_region 13 with (go_at_call 12; (with_reducible refine (slots_all HI.out _ HC.out).mono ?_); rintro e w2 ⟨u2, rfl, hx2, hI2⟩; obtain ⟨q5, c5, rfl⟩ := no_ints hI2)
        rcases hno with hno | hno
        · go_wp2
          go_returns
          exact ⟨by simp, hx.trans hx2⟩
        · have hno2 : ¬ s < 1 := by omega
          go_wp2
          go_returns
          exact ⟨by simp, hx.trans hx2⟩
      have h3 : ¬ s < 1 := fun h => hno (.inl h)
      have h4 : ¬ 64 < s := fun h => hno (.inr h)
      have hM := hmy h3 h4
      have HC : Hid (∀ (v : Value) (u : World), Ints u v A → Calls Try.prog 12 #[v] u fun e w' => ∃ r, e = .returned r ∧ Ext u w' ∧ Ints w' r (slotsL A)) := hid fun v u h => slots_all h _ (by rw [if_pos hM.may])
      have hsl : ((slotsL A).length : Int) = s := by rw [slotsL_length hM, HS.out]
      have HM := hid hM
      clear hmn hmy hM hno
      obtain ⟨Z, hZ⟩ : ∃ Z, Z = slotsL A := ⟨_, rfl⟩
      rw [← hZ] at HC hsl
      have HZ := hid hZ
      clear hZ
      go_upto_region 13 with (go_at_call 12; (with_reducible refine (HC.out _ _ HI.out).mono ?_); rintro e w2 ⟨u2, rfl, hx2, hI2⟩)
      obtain ⟨pc, cc, rfl, hcc, hmc⟩ := hI2.shape
      unfold maxLen at hmc
      have HI2 := hid hI2
      have HIa := hid (HI.out.ext hx2)
      clear hI2
      have hxx : Ext w w2 := hx.trans hx2
      have hne : ((Z.length : Int) != s) = false := by simp; omega
      have HSL := hid hsl
      clear hsl
      have hmk := run_makeI A.length hA6
      obtain ⟨g, hg⟩ : ∃ g, g = w2.heap.size := ⟨_, rfl⟩
      go_upto_region 16 with (fail)
      refine wp_forget (fun u => Ext w2 u ∧ Hid (Iz u g (gAt A 0))) ⟨ext_by, hid (by
        have := Blk.new w2 3 (List.replicate A.length (Value.int .i64 0))
        rw [hg]
        unfold Iz gAt
        rw [List.map_replicate]
        simpa [iV] using this)⟩ ?_
      rintro w3 ⟨hx3, hg3⟩
      rw [← hg]
      have hgw : w2.heap.size ≤ g := by omega
      clear hg hmk hne
      go_wp2
      go_loopw [8] (fun v8 wr => Ext w2 wr ∧ ∃ i : Nat, v8 = .int .i64 i ∧ (i : Int) ≤ s ∧ Hid (Iz wr g (gAt A i))) (fun v8 _ => (s - intOf v8).toNat)
      case atStart => exact ⟨hx3, 0, rfl, by omega, hg3⟩
      case round =>
        obtain ⟨hx5, i, rfl, hi, hG⟩ := hrel
        by_cases hlt : (i : Int) < s
        · have hiF : (i : Int) < tot A := by rw [← HS.out]; exact hlt
          have hiZ : i < Z.length := by have := HSL.out; omega
          obtain ⟨b0, sb1, sb2, -, -, sb5⟩ := slot_best HM.out hiF
          have hGI := gInv HM.out i (by omega)
          have hZb : Z[i] = (b0 : Int) := by
            have hz := HZ.out
            subst hz
            rw [slotsL_get hiZ, sb1]
          obtain ⟨b1, o1, rfl, a1⟩ := HI2.out.at i hiZ
          rw [hZb] at a1
          have m1 := hx5.cell a1
          simp only [Nat.mul_one] at m1
          have hbG : b0 < (gAt A i).length := by rw [hGI.len]; exact sb2
          have c0 := hG.out.at hbG
          have f0 := hG.out.frozen b0
          have l0 := hG.out.lt
          have y0 := hGI.lo b0
          have y1 := hGI.hi b0
          have y2 : at0 A b0 ≤ 11 := by rw [at0_get sb2]; exact (HWA.out _ (List.getElem_mem sb2)).2
          rw [at0_get hbG] at y0 y1
          have HG4 : Hid (Iz (wr.setCell ⟨g, b0, none⟩ (.int .i64 ((gAt A i)[b0] + 1))) g (gAt A (i + 1))) := hid (by
            have := hG.out.set b0 (.int .i64 ((gAt A i)[b0] + 1))
            rw [sb5, put1, at0_get hbG]
            unfold Iz
            rw [List.map_set]
            exact this)
          have hx6 : Ext w2 (wr.setCell ⟨g, b0, none⟩ (.int .i64 ((gAt A i)[b0] + 1))) := Ext.setCell hx5 (by simpa using hgw) _
          have HEV : Hid (∀ d : Nat, at0 (gAt A (i + 1)) d * s - at0 A d * (i + 1) ≤ A.length * s ∧ -(at0 (gAt A (i + 1)) d * s - at0 A d * (i + 1)) ≤ A.length * s) := hid fun d => by
            have := even_bound HM.out hiF d
            rwa [← HS.out] at this
          have hG2 := gInv HM.out (i + 1) (by omega)
          have HG2 : Hid (GInv A (i + 1) (gAt A (i + 1))) := hid hG2
          have HHI : Hid (∀ d, at0 (gAt A (i + 1)) d ≤ 11) := hid fun d => by
            have h1 := hG2.hi d
            by_cases hd : d < A.length
            · rw [at0_get hd] at h1
              have := (HWA.out _ (List.getElem_mem hd)).2
              omega
            · rw [at0_nil (l := A) (by omega)] at h1; omega
          have i2 : (b0 : Int) < A.length := by omega
          have i3 : (i : Int) < Z.length := by omega
          clear a1 hG hGI sb1 sb5 hZb hG2
          generalize (gAt A i)[b0] = y at *
          go_upto_region 22 with (fail)
          have HIl := hid (HIa.out.ext hx6)
          generalize wr.setCell ⟨g, b0, none⟩ (.int .i64 (y + 1)) = w6 at *
          go_wp2
          go_loopw [9] (fun v9 wr => Ext w6 wr ∧ ∃ d : Nat, v9 = .int .i64 d ∧ d ≤ A.length) (fun v9 _ => (A.length - intOf v9).toNat)
          case atStart => exact ⟨Ext.refl _, 0, rfl, by omega⟩
          case round =>
            obtain ⟨hx7, d, rfl, hd⟩ := hrel
            by_cases hdl : d < A.length
            · have hdG : d < (gAt A (i + 1)).length := by rw [HG2.out.len]; exact hdl
              obtain ⟨b2, o2, rfl, a2⟩ := HIl.out.at d hdl
              have r1 := more_cell (hx7.cell a2)
              have r2 := more_cell (hx7.cell (HG4.out.at hdG))
              simp only [Nat.mul_one] at r1
              have e1 := HEV.out d
              have e2 := HHI.out d
              have e3 := HG2.out.lo d
              have e4 := HWA.out _ (List.getElem_mem hdl)
              rw [at0_get hdl, at0_get hdG] at e1
              rw [at0_get hdG] at e2 e3
              clear a2
              generalize (gAt A (i + 1))[d] = t at *
              generalize A[d] = z at *
              have p1 : 0 ≤ t * s ∧ t * s ≤ 704 := by
                refine ⟨Int.mul_nonneg e3 (by omega), ?_⟩
                calc t * s ≤ 11 * s := Int.mul_le_mul_of_nonneg_right e2 (by omega)
                  _ ≤ 704 := by omega
              have p2 : 0 ≤ z * ((i : Int) + 1) ∧ z * ((i : Int) + 1) ≤ 715 := by
                refine ⟨Int.mul_nonneg e4.1 (by omega), ?_⟩
                calc z * ((i : Int) + 1) ≤ 11 * ((i : Int) + 1) := Int.mul_le_mul_of_nonneg_right e4.2 (by omega)
                  _ ≤ 715 := by omega
              have p3 : 0 ≤ (A.length : Int) * s ∧ (A.length : Int) * s ≤ 384 := by
                refine ⟨Int.mul_nonneg (by omega) (by omega), ?_⟩
                calc (A.length : Int) * s ≤ 6 * s := Int.mul_le_mul_of_nonneg_right (by omega) (by omega)
                  _ ≤ 384 := by omega
              have j1 : (d : Int) < A.length := by omega
              obtain ⟨e5, e6⟩ := e1
              have g1 : decide ((A.length : Int) * s < t * s - z * ((i : Int) + 1)) = false := by simp; omega
              have g2 : decide ((A.length : Int) * s < -(t * s - z * ((i : Int) + 1))) = false := by simp; omega
              go_wp2
              ((first | refine wp_region_more (by kernel_rfl) (by kernel_rfl) ?_ | refine wp_region_ext (by kernel_rfl) (by kernel_rfl) ?_); (try dsimp only [append_cons', append_nil']); (repeat (go_big_quiet_step ((fail)))); refine wpQuiet_nil ?_; rintro _ ⟨pq, rfl⟩)
              go_wp2
              all_goals
                go_roundw
                case rel => exact ⟨hx7.trans (ext_more _ _), d + 1, by go_num, by omega⟩
                case measure => simp [intOf]; omega
            · obtain rfl : d = A.length := by omega
              have HG5 : Hid (Iz wr g (gAt A (i + 1))) := hid (HG4.out.ext hx7)
              go_wp2
              all_goals
                go_roundw
                case rel => exact ⟨hx6.trans hx7, i + 1, by go_num, by omega, HG5⟩
                case measure => simp [intOf]; omega
        · have hsi : s = i := by omega
          go_wp2
          go_returns
          exact ⟨by simp, hxx.trans hx5⟩

set_option linter.unusedVariables false in
set_option maxRecDepth 100000 in
theorem lifted (os : Os) (started : os.Started) (H : Type) (enc : TypeId × Value → H) :
    ReturnsInHanded {} Try.checked os 5 .any (Rows.spreadEvenSpec.pre6 enc Try.prog Try.f5 Rows.spreadEvenRow.domain false) (Rows.spreadEvenSpec.post enc Try.prog Try.f5 false true false false) := by
  refine returnsInHanded_of_change (C := Try.checked) Own.own started (by kernel_rfl) Try.func5
    (ChangeSpec.witness6 (enc := enc) (C := Try.checked) false ⟨#[], #[.slice none 0 0], []⟩ 8 (by kernel_rfl) (by kernel_rfl) (by kernel_rfl) (by kernel_rfl)) ?_
  intro W base args ds gs before hval0 hW hcnd _
  have hval : ∀ (j : Nat) t v, Try.f5.params[j]? = some t → args[j]? = some v → Value.okWide Try.prog W .any base t v := hval0
  have hW' := hW
  obtain ⟨p, q, hA0, hV, rfl, hfz, hnd⟩ := hW
  have hA : DataW.TrodAll enc Try.prog W 0 (fun _ => true) true Try.f5.params.toList args.toList ds p := hA0
  rw [Try.params5] at hA hval
  obtain ⟨v0, vs0, d0, ds0, p0, q0, hargs, rfl, rfl, h0, r0⟩ := trodAll_cons hA
  obtain ⟨rfl, rfl, rfl⟩ := trodAll_nil r0
  obtain rfl : args = #[v0] := by cases args; simp_all
  obtain ⟨rfl, rfl⟩ := trodVars_none hV
  have k0 := h0
  have lt0 : ∀ x ∈ p0, x.block < W.heap.size := by obtain ⟨m, hm⟩ := k0; exact DataW.trod_lt m _ _ _ hm
  obtain ⟨a0, len0, cap0, rfl⟩ := okWide_slice Try.underlying29 (hval 0 29 v0 rfl rfl)
  obtain ⟨L, hL⟩ := Own.open_nums Try.underlying29 Try.underlying5 (by kernel_rfl) h0
  clear hA0 hval0
  refine (walk _ L W hL).mono fun e W' ⟨he, hx⟩ => ?_
  subst he
  exact ⟨_, rfl, _, _, _, [], _, [], hW', trodAll_mk1 (shut_bool Try.underlying4 _), (trodAll_cons_mk (Below.trod Own.laidOut (by kernel_rfl) (of_decide_eq_true (by kernel_rfl)) k0 hx.below lt0) trodAll_mk0), rfl, hx.below.frame _, fun h => by cases h⟩

theorem proved : Rows.SpreadEvenSaid :=
  OpenClaim.holds_of_wide 5 Try.f5 rfl rfl rfl rfl rfl rfl rfl ⟨rfl, rfl, rfl, rfl, rfl⟩ rfl rfl rfl rfl rfl (by kernel_rfl) Try.func5 (by kernel_rfl)
    (of_decide_eq_true (by kernel_rfl)) (by unfold Func.isWrapper; first | (rw [if_pos (by decide +kernel)]; kernel_rfl) | (rw [if_neg (by decide +kernel)]; exact ⟨rfl, rfl⟩))
    (fun os started H enc _ => lifted os started H enc)

end spreadEven
end Go.Proofs.Ytiejnochddjlmaa
