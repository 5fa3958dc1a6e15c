/- ShareExact: the counts make the frame, each within one of its share; who has more of a share hasn't less of the frame; who has none gets none: the law answers true for every frame and row. No conditions. -/
import Derived.Test.YtpickmmegaeklaaShL
import Derived.Test.YtpickmmegaeklaaShT
import Derived.Deep.LoopGhost
namespace Go.Proofs.Ytpickmmegaeklaa
set_option linter.unusedSimpArgs false
open Go.ChangeShapes Go.WideShapes Go.ChangeAt Go.RowKit Go.Joins Go.Deep

namespace shareExact
set_option maxRecDepth 100000 in
set_option maxHeartbeats 8000000 in
theorem walk (f0 : Int) (hf0 : 0 ≤ f0 ∧ f0 ≤ 255) (v : Value) (L : List Int) (w : World) (hL : Nums .u16 w v L) :
    Calls Try.prog 4 #[.int .u8 f0, v] w (Yields w (.bool true)) := by
  obtain ⟨p, cap, rfl, hcap, hmax⟩ := hL.shape
  unfold maxLen at hmax
  have HL := hid hL
  have HW : Hid (∀ x ∈ L, 0 ≤ x ∧ x ≤ 65535) := hid fun x hx => wf_bounds16 (nums_wf hL x hx)
  clear hL
  by_cases h1 : (L.length : Int) < 1
  · go_enter Try.func4, Try.ntmps4
    go_wp2_with (go_at_call 8; refine (known_any _).yields ?_; intro p0)
    go_returns
    exact ⟨by simp, ext_by⟩
  by_cases h2 : (6 : Int) < L.length
  · go_enter Try.func4, Try.ntmps4
    go_wp2_with (go_at_call 8; refine (known_any _).yields ?_; intro p0)
    go_returns
    exact ⟨by simp, ext_by⟩
  go_enter Try.func4, Try.ntmps4
  go_upto_region 6 with (go_at_call 8; refine (known_any _).yields ?_; intro p0)
  refine wp_forget (fun u => Ext w u) ext_by ?_
  intro w1 hx1
  have hf1 : 1 ≤ f0 % 64 + 1 ∧ f0 % 64 + 1 ≤ 64 := by omega
  generalize f0 % 64 + 1 = f at *
  go_wp2
  go_loopw [6, 7, 8] (fun v6 v7 v8 wr => Ext w wr ∧ ∃ (k : Nat) (s : Int), v8 = .int .i64 k ∧ v6 = .int .i64 s ∧ k ≤ L.length ∧ 0 ≤ s ∧ s ≤ 1000 * k ∧ Hid (s = tot ((L.take k).map fun x => x % 1001)) ∧ Hid (wr.ownsRow w.heap.size 3 1 v7 k (((L.take k).map fun x => x % 1001).map iV))) (fun _ _ v8 _ => (L.length - intOf v8).toNat)
  case atStart => exact ⟨hx1, 0, 0, rfl, rfl, by omega, by omega, by omega, hid (by simp [tot]), hid (World.ownsRow_nil _ _ _ _)⟩
  case round =>
    obtain ⟨hx, k, s, rfl, rfl, hk, s0, s1, hs, hA⟩ := hrel
    by_cases hlt : k < L.length
    · obtain ⟨ba, oa, rfl, a0⟩ := HL.out.at k hlt
      have m0 := hx.cell a0.1
      simp only [Nat.mul_one] at m0
      have hxb := HW.out _ (List.getElem_mem hlt)
      have hwr := hx.size
      have hTK : (L.take (k + 1)).map (fun x => x % 1001) = (L.take k).map (fun x => x % 1001) ++ [L[k] % 1001] := by
        rw [List.take_succ_eq_append_getElem hlt, List.map_append]; rfl
      generalize L[k] = x at *
      have i1 : (k : Int) < L.length := by omega
      go_upto_region 11 with (at_builtin; refine wpList_push_own rfl (.tmp 34) (.tmp 41) 22 3 (.int .i64 0) 1 8 rfl Try.underlying22 infoI rfl (by decide) (w := wr) (base := w.heap.size) hA.out (news := [.int .i64 (x % 1001)]) rfl (ints_oneCell .i64 [x % 1001]) (by unfold maxLen; omega) (by omega) hwr (by rfl) (nb := wr.heap.size) (by rfl) rfl ?_; intro p1 c1 w2 ho1 hb1)
      have hx2 : Ext w w2 := ⟨Below.trans hx.below hb1⟩
      have hmap : ((L.take k).map fun x => x % 1001).map iV ++ [Value.int .i64 (x % 1001)] = (((L.take k).map fun x => x % 1001) ++ [x % 1001]).map iV := by simp [iV]
      rw [hmap] at ho1
      have HO := hid ho1
      have hI := (owns_map _ _ HO.out).2
      obtain ⟨b5, o5, e5, a5⟩ := hI.at k (by simp; omega)
      simp only [Nat.mul_one] at a5
      rw [List.getElem_append_right (by simp; omega)] at a5
      simp only [List.length_map, List.length_take, Nat.min_eq_left hk, Nat.sub_self, List.getElem_cons_zero] at a5
      have HTK := hid hTK
      clear hmap ho1 hb1 hI hTK
      subst e5
      go_wp2
      all_goals
        go_roundw
        case rel => exact ⟨hx2, k + 1, _, by go_num, rfl, by omega, by omega, by omega, hid (by rw [HTK.out, tot_append, ← hs.out]; simp [tot]), hid (by rw [HTK.out]; exact HO.out)⟩
        case measure => simp [intOf]; omega
    · obtain rfl : k = L.length := by omega
      have hs2 := hs.out
      have hA2 := hA.out
      rw [List.take_length] at hs2 hA2
      have hlen : (L.map fun x => x % 1001).length = L.length := by simp
      have HWA : Hid (∀ y ∈ L.map (fun x => x % 1001), 0 ≤ y ∧ y ≤ 1000) := hid fun y hy => by
        obtain ⟨x, hx, rfl⟩ := List.mem_map.1 hy
        have := HW.out x hx
        omega
      generalize L.map (fun x => x % 1001) = A at *
      have HI := hid (owns_map _ _ hA2).2
      obtain ⟨pa, ca, rfl, hca, hma⟩ := HI.out.shape
      unfold maxLen at hma
      have hA6 : A.length ≤ 6 := by omega
      have HS := hid hs2
      clear hs hA hs2 hA2 hlen
      by_cases hs1 : s = 0
      · have hmay : mayS f A = false := by
          rw [mayS_tot0 (fun y hy => (HWA.out y hy).1) (by rw [← HS.out]; omega)]
        have HC : Hid ([] = if mayS f A = true then countsL f A else []) := hid (by rw [hmay]; rfl)
        clear hmay
        go_wp2_with (go_at_call 10; (with_reducible refine (counts_all HI.out _ HC.out).mono ?_); rintro e w2 ⟨u2, rfl, hx2, hI2⟩; obtain ⟨q5, c5, rfl⟩ := len_none hI2)
        go_returns
        exact ⟨by simp, hx.trans hx2⟩
      have hsb : (s == 0) = false := by simpa using hs1
      have hmay : mayS f A = true := May.may (by omega) (by omega) hA6 (fun y hy => (HWA.out y hy).1) (fun y hy => (HWA.out y hy).2) (by rw [← HS.out]; omega)
      have HM := hid (May.of hmay)
      have hex : exactL f A (countsL f A) = true := counts_exact (May.of hmay) hmay
      have HC : Hid (∀ (v : Value) (u : World), Ints u v A → Calls Try.prog 10 #[.int .i64 f, v] u fun e w' => ∃ r, e = .returned r ∧ Ext u w' ∧ Ints w' r (countsL f A)) := hid fun v u h => counts_all h _ (by rw [if_pos hmay])
      have hbd : ∀ y ∈ countsL f A, 0 ≤ y ∧ y ≤ 65 := fun y hy => by
        unfold countsL cs at hy
        obtain ⟨p, hp, rfl⟩ := List.mem_map.1 hy
        have := (Inv.fin (May.of hmay)).bound (May.of hmay) hp
        omega
      have HBD := hid hbd
      have HWF : Hid (∀ y ∈ countsL f A, wf64 y) := hid fun y hy => by have := hbd y hy; unfold wf64; omega
      have HX := hid hex
      have HTO : Hid (tot (countsL f A) = f) := hid (counts_tot (May.of hmay))
      have hnr := (nearL_iff f (tot A) A (countsL f A) (countsL_length f A)).1 (by
        have := hex
        simp only [exactL, Bool.and_eq_true] at this
        exact this.1.2)
      have HNR : Hid (∀ (i : Nat) (x y : Int), A[i]? = some x → (countsL f A)[i]? = some y → f * x - y * s < s ∧ -(f * x - y * s) < s) := hid fun i x y hx hy => by
        have := hnr i x y hx hy
        simp only [nearB, Bool.and_eq_true, decide_eq_true_eq] at this
        rw [HS.out]; exact this
      have HZ : Hid (∀ (i : Nat) (c : Int), A[i]? = some 0 → (countsL f A)[i]? = some c → c = 0) := hid fun i c hx hc => counts_zero (May.of hmay) hx hc
      have HMO : Hid (∀ (i k : Nat) (x y c d : Int), A[i]? = some x → A[k]? = some y → (countsL f A)[i]? = some c → (countsL f A)[k]? = some d → (x < y ∨ (x = y ∧ k < i)) → c ≤ d) := hid fun i k x y c d h1 h2 h3 h4 h5 => counts_mono (May.of hmay) h1 h2 h3 h4 h5
      have hcl : (countsL f A).length = A.length := countsL_length f A
      clear hmay hex hbd hnr
      generalize countsL f A = C at *
      have HCL := hid hcl
      clear hcl
      go_upto_region 15 with (go_at_call 10; (with_reducible refine (HC.out _ _ HI.out).mono ?_); rintro e w2 ⟨u2, rfl, hx2, hI2⟩)
      obtain ⟨pc, cc, rfl, hcc, hmc⟩ := hI2.shape
      unfold maxLen at hmc
      have HI2 := hid hI2
      have HIa := hid (HI.out.ext hx2)
      clear hI2
      have hxx : Ext w w2 := hx.trans hx2
      have hne : ((C.length : Int) != (A.length : Int)) = false := by have := HCL.out; simp; omega
      go_wp2_with (go_at_call 12; (with_reducible refine (exact_to HIa.out HI2.out HWF.out HX.out).yields ?_); intro p3)
      go_loopw [10, 11] (fun v10 v11 wr => Ext w2 wr ∧ ∃ (i : Nat) (t : Int), v11 = .int .i64 i ∧ v10 = .int .i64 t ∧ i ≤ C.length ∧ 0 ≤ t ∧ t ≤ 65 * i ∧ Hid (t = tot (C.take i))) (fun _ v11 _ => (C.length - intOf v11).toNat)
      case atStart => exact ⟨ext_by, 0, 0, rfl, rfl, by omega, by omega, by omega, hid (by simp [tot])⟩
      case round =>
        obtain ⟨hx5, i, t, rfl, rfl, hi, t0, t1, ht⟩ := hrel
        by_cases hlt : i < C.length
        · have hia : i < A.length := by have := HCL.out; omega
          obtain ⟨b1, o1, rfl, a1⟩ := HIa.out.at i hia
          obtain ⟨b2, o2, rfl, a2⟩ := HI2.out.at i hlt
          have m1 := hx5.cell a1
          have m2 := hx5.cell a2
          simp only [Nat.mul_one] at m1 m2
          have n1 := more_cell m1
          have n2 := more_cell m2
          have hAx := List.getElem?_eq_getElem hia
          have hCy := List.getElem?_eq_getElem hlt
          have hxb := HWA.out _ (List.getElem_mem hia)
          have hyb := HBD.out _ (List.getElem_mem hlt)
          have hnb := HNR.out i _ _ hAx hCy
          have hpb := prod_bounds hf1.1 hf1.2 hxb.1 hxb.2
          have htt : Hid (t + C[i] = tot (C.take (i + 1))) := hid (by rw [tot_take C i hlt, ← ht.out])
          have hzz : A[i] = 0 → C[i] = 0 := fun h => HZ.out i C[i] (by rw [hAx, h]) hCy
          have HAX := hid hAx
          have HCY := hid hCy
          have HA1 := hid a1
          have HA2 := hid a2
          clear a1 a2 ht hAx hCy
          generalize A[i] = x at *
          generalize C[i] = y at *
          have hys : 0 ≤ y * s ∧ y * s ≤ 390000 := by
            refine ⟨Int.mul_nonneg hyb.1 s0, ?_⟩
            calc y * s ≤ 65 * s := Int.mul_le_mul_of_nonneg_right hyb.2 s0
              _ ≤ 390000 := by omega
          have i1 : (i : Int) < C.length := by omega
          have i2 : (i : Int) < A.length := by omega
          have d1 : y * s - f * x < s := by omega
          have d2 : -(y * s - f * x) < s := by omega
          go_wp2
          ((first | refine wp_region_more (by kernel_rfl) (by kernel_rfl) ?_ | refine wp_region_ext (by kernel_rfl) (by kernel_rfl) ?_); (try dsimp only [append_cons', append_nil']); (repeat (go_big_quiet_step ((fail)))); refine wpQuiet_nil ?_; rintro _ ⟨pq, rfl⟩)
          have hxp := hx5.trans (ext_more wr pq)
          have m3 := hxp.cell HA1.out
          have m4 := hxp.cell HA2.out
          simp only [Nat.mul_one] at m3 m4
          have hcase : (x == 0) = false ∨ ((x == 0) = true ∧ (y != 0) = false) := by
            by_cases hx0 : x = 0
            · exact .inr ⟨by simpa using hx0, by simpa using hzz hx0⟩
            · exact .inl (by simpa using hx0)
          clear hzz m1 m2 n1 n2 hx5
          generalize more wr pq = w5 at *
          rcases hcase with q1 | ⟨q1, q2⟩
          all_goals
            go_wp2
            go_loopw [13] (fun v13 wr => Ext w2 wr ∧ ∃ k : Nat, v13 = .int .i64 k ∧ k ≤ i) (fun v13 _ => (i - intOf v13).toNat)
            case atStart => exact ⟨hxp, 0, rfl, by omega⟩
            case round =>
              obtain ⟨hx6, k, rfl, hk⟩ := hrel
              by_cases hki : k < i
              · have hka : k < A.length := by omega
                have hkc : k < C.length := by omega
                obtain ⟨b3, o3, e3, a3⟩ := HIa.out.at k hka
                obtain ⟨b4, o4, e4, a4⟩ := HI2.out.at k hkc
                injection e3 with e3
                injection e3 with e3a e3b
                injection e4 with e4
                injection e4 with e4a e4b
                subst e3a e3b e4a e4b
                have r1 := more_cell (hx6.cell HA1.out)
                have r2 := more_cell (hx6.cell HA2.out)
                have r3 := more_cell (hx6.cell a3)
                have r4 := more_cell (hx6.cell a4)
                simp only [Nat.mul_one] at r1 r2 r3 r4
                have hAk := List.getElem?_eq_getElem hka
                have hCk := List.getElem?_eq_getElem hkc
                have z1 := HMO.out i k _ _ _ _ HAX.out hAk HCY.out hCk
                have z2 := HMO.out k i _ _ _ _ hAk HAX.out hCk HCY.out
                clear a3 a4 hAk hCk
                generalize A[k] = u at *
                generalize C[k] = v at *
                have j1 : (k : Int) < A.length := by omega
                have j2 : (k : Int) < C.length := by omega
                have j3 : (k : Int) < i := by omega
                rcases Int.lt_trichotomy u x with hux | hux | hux
                · have g1 : decide (x < u) = false := by simp; omega
                  have g2 : decide (u < x) = true := by simpa using hux
                  have g3 : decide (y < v) = false := by have := z2 (.inl hux); simp; omega
                  have g4 : (u == x) = false := by simp; omega
                  clear z1 z2 hux
                  go_wp2
                  ((first | refine wp_region_more (by kernel_rfl) (by kernel_rfl) ?_ | refine wp_region_ext (by kernel_rfl) (by kernel_rfl) ?_); (try dsimp only [append_cons', append_nil']); (repeat (go_big_quiet_step ((fail)))); refine wpQuiet_nil ?_; rintro _ ⟨pq, rfl⟩)
                  go_wp2
                  all_goals
                    go_roundw
                    case rel => exact ⟨hx6.trans (ext_more _ _), k + 1, by go_num, by omega⟩
                    case measure => simp [intOf]; omega
                · subst hux
                  have g1 : decide (u < u) = false := by simp
                  have g3 : decide (v < y) = false := by have := z1 (.inr ⟨rfl, hki⟩); simp; omega
                  have g4 : (u == u) = true := by simp
                  clear z1 z2
                  go_wp2
                  ((first | refine wp_region_more (by kernel_rfl) (by kernel_rfl) ?_ | refine wp_region_ext (by kernel_rfl) (by kernel_rfl) ?_); (try dsimp only [append_cons', append_nil']); (repeat (go_big_quiet_step ((fail)))); refine wpQuiet_nil ?_; rintro _ ⟨pq, rfl⟩)
                  go_wp2
                  all_goals
                    go_roundw
                    case rel => exact ⟨hx6.trans (ext_more _ _), k + 1, by go_num, by omega⟩
                    case measure => simp [intOf]; omega
                · have g1 : decide (x < u) = true := by simpa using hux
                  have g2 : decide (u < x) = false := by simp; omega
                  have g3 : decide (v < y) = false := by have := z1 (.inl hux); simp; omega
                  have g4 : (u == x) = false := by simp; omega
                  clear z1 z2 hux
                  go_wp2
                  ((first | refine wp_region_more (by kernel_rfl) (by kernel_rfl) ?_ | refine wp_region_ext (by kernel_rfl) (by kernel_rfl) ?_); (try dsimp only [append_cons', append_nil']); (repeat (go_big_quiet_step ((fail)))); refine wpQuiet_nil ?_; rintro _ ⟨pq, rfl⟩)
                  go_wp2
                  all_goals
                    go_roundw
                    case rel => exact ⟨hx6.trans (ext_more _ _), k + 1, by go_num, by omega⟩
                    case measure => simp [intOf]; omega
              · obtain rfl : k = i := by omega
                go_wp2
                all_goals
                  go_roundw
                  case rel => exact ⟨hx6, k + 1, _, by go_num, rfl, by omega, by omega, by omega, htt.out⟩
                  case measure => simp [intOf]; omega
        · obtain rfl : i = C.length := by omega
          have h3 := ht.out
          rw [List.take_length, HTO.out] at h3
          subst h3
          go_wp2
          go_returns
          exact ⟨by simp, hxx.trans hx5⟩

set_option linter.unusedVariables false in
set_option maxRecDepth 100000 in
theorem lifted (os : Os) (started : os.Started) (H : Type) (enc : TypeId × Value → H) :
    ReturnsInHanded {} Try.checked os 4 .any (Rows.shareExactSpec.pre6 enc Try.prog Try.f4 Rows.shareExactRow.domain false) (Rows.shareExactSpec.post enc Try.prog Try.f4 false true false false) := by
  refine returnsInHanded_of_change (C := Try.checked) Own.own started (by kernel_rfl) Try.func4
    (ChangeSpec.witness6 (enc := enc) (C := Try.checked) false ⟨#[], #[.int .u8 0, .slice none 0 0], []⟩ 8 (by kernel_rfl) (by kernel_rfl) (by kernel_rfl) (by kernel_rfl)) ?_
  intro W base args ds gs before hval0 hW hcnd _
  have hval : ∀ (j : Nat) t v, Try.f4.params[j]? = some t → args[j]? = some v → Value.okWide Try.prog W .any base t v := hval0
  have hW' := hW
  obtain ⟨p, q, hA0, hV, rfl, hfz, hnd⟩ := hW
  have hA : DataW.TrodAll enc Try.prog W 0 (fun _ => true) true Try.f4.params.toList args.toList ds p := hA0
  rw [Try.params4] at hA hval
  obtain ⟨v0, vs0, d0, ds0, p0, q0, hargs, rfl, rfl, h0, r0⟩ := trodAll_cons hA
  obtain ⟨v1, vs1, d1, ds1, p1, q1, rfl, rfl, rfl, h1, r1⟩ := trodAll_cons r0
  obtain ⟨rfl, rfl, rfl⟩ := trodAll_nil r1
  obtain rfl : args = #[v0, v1] := by cases args; simp_all
  obtain ⟨rfl, rfl⟩ := trodVars_none hV
  have k0 := h0
  have lt0 : ∀ x ∈ p0, x.block < W.heap.size := by obtain ⟨m, hm⟩ := k0; exact DataW.trod_lt m _ _ _ hm
  have k1 := h1
  have lt1 : ∀ x ∈ p1, x.block < W.heap.size := by obtain ⟨m, hm⟩ := k1; exact DataW.trod_lt m _ _ _ hm
  obtain ⟨f0, rfl, rfl, rfl, wf0⟩ := open_int Try.underlying5 (hval 0 5 v0 rfl rfl) h0
  obtain ⟨a1, len1, cap1, rfl⟩ := okWide_slice Try.underlying27 (hval 1 27 v1 rfl rfl)
  obtain ⟨L, hL⟩ := Own.open_nums Try.underlying27 Try.underlying28 (by kernel_rfl) h1
  clear hA0 hval0
  refine (walk f0 (wf_bounds8 wf0) _ L W hL).mono fun e W' ⟨he, hx⟩ => ?_
  subst he
  exact ⟨_, rfl, _, _, _, [], _, [], hW', trodAll_mk1 (shut_bool Try.underlying4 _), (trodAll_cons_mk (Below.trod Own.laidOut (by kernel_rfl) (of_decide_eq_true (by kernel_rfl)) k0 hx.below lt0) (trodAll_cons_mk (Below.trod Own.laidOut (by kernel_rfl) (of_decide_eq_true (by kernel_rfl)) k1 hx.below lt1) trodAll_mk0)), rfl, hx.below.frame _, fun h => by cases h⟩

theorem proved : Rows.ShareExactSaid :=
  OpenClaim.holds_of_wide 4 Try.f4 rfl rfl rfl rfl rfl rfl rfl ⟨rfl, rfl, rfl, rfl, rfl⟩ rfl rfl rfl rfl rfl (by kernel_rfl) Try.func4 (by kernel_rfl)
    (of_decide_eq_true (by kernel_rfl)) (by unfold Func.isWrapper; first | (rw [if_pos (by decide +kernel)]; kernel_rfl) | (rw [if_neg (by decide +kernel)]; exact ⟨rfl, rfl⟩))
    (fun os started H enc _ => lifted os started H enc)

end shareExact
end Go.Proofs.Ytpickmmegaeklaa
