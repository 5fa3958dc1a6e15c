/- ShareMore: a greater share never has less of the frame, the others' shares as they were: the law answers true for every frame, row, place and surplus. No conditions. -/
import Derived.Test.YtpickmmegaeklaaShL
import Derived.Test.YtpickmmegaeklaaShT
import Derived.Deep.LoopGhost
namespace Go.Proofs.Ytpickmmegaeklaa
set_option linter.unusedSimpArgs false
open Go.ChangeShapes Go.WideShapes Go.ChangeAt Go.RowKit Go.Joins Go.Deep

namespace shareMore
/-- A store into a row that is owned. -/
theorem owns_put {w : World} {base T m : Nat} {v : Value} {xs : List Value} (h : w.ownsRow base T 1 v m xs) {j : Nat} (hj : j < m) : ∃ g cap, v = .slice (some ⟨g, 0, none⟩) m cap ∧ base ≤ g ∧ g < w.heap.size ∧ m ≤ cap ∧ cap ≤ maxLen ∧ w.frozen? ⟨g, j, none⟩ = false ∧ ∀ u, (w.setCell ⟨g, j, none⟩ u).ownsRow base T 1 v m (xs.set j u) := by
  rcases h.2 with ⟨rfl, h0⟩ | ⟨g, cap, cur, rfl, h1, h2, h3, h4, h5, h6⟩
  · omega
  · refine ⟨g, cap, rfl, h1, lt_blk h2, h3, h4, by simp [World.frozen?, h2], fun u => ⟨by rw [List.length_set]; exact h.1, .inr ⟨g, cap, cur.setIfInBounds j u, rfl, h1, set_same h2 j u, h3, h4, by simpa using h5, ?_⟩⟩⟩
    rw [← h6]
    simp [List.take_set]

set_option maxRecDepth 100000 in
set_option maxHeartbeats 4000000 in
theorem walk (f0 d0 e0 : Int) (hf0 : 0 ≤ f0 ∧ f0 ≤ 255) (hd0 : 0 ≤ d0 ∧ d0 ≤ 255) (he0 : 0 ≤ e0 ∧ e0 ≤ 255) (v : Value) (L : List Int) (w : World) (hL : Nums .u8 w v L) :
    Calls Try.prog 6 #[.int .u8 f0, v, .int .u8 d0, .int .u8 e0] w (Yields w (.bool true)) := by
  obtain ⟨p, cap, rfl, hcap, hmax⟩ := hL.shape
  unfold maxLen at hmax
  have HL := hid hL
  have HW : Hid (∀ x ∈ L, 0 ≤ x ∧ x ≤ 255) := hid fun x hx => wf_bounds8 (nums_wf hL x hx)
  clear hL
  by_cases h1 : (L.length : Int) < 1
  · go_enter Try.func6, Try.ntmps6
    go_wp2_with (go_at_call 8; refine (known_any _).yields ?_; intro p0)
    go_returns
    exact ⟨by simp, ext_by⟩
  by_cases h2 : (6 : Int) < L.length
  · go_enter Try.func6, Try.ntmps6
    go_wp2_with (go_at_call 8; refine (known_any _).yields ?_; intro p0)
    go_returns
    exact ⟨by simp, ext_by⟩
  go_enter Try.func6, Try.ntmps6
  go_upto_region 5 with (go_at_call 8; refine (known_any _).yields ?_; intro p0)
  refine wp_forget (fun u => Ext w u) ext_by ?_
  intro w1 hx1
  have hz : ((L.length : Int) == 0) = false := by rw [beq_eq_false_iff_ne]; omega
  have hz2 : ((L.length : Int) = 0) = False := eq_false (by omega)
  have hz3 : L ≠ [] := by rintro rfl; simp at h1
  obtain ⟨k0, hk0⟩ : ∃ k0 : Nat, d0 % (L.length : Int) = k0 := ⟨(d0 % (L.length : Int)).toNat, by have := Int.emod_nonneg d0 (show (L.length : Int) ≠ 0 by omega); omega⟩
  have hkl : k0 < L.length := by have := Int.emod_lt_of_pos d0 (show (0 : Int) < L.length by omega); omega
  have htm : Int.tmod d0 (L.length : Int) = k0 := by rw [Int.tmod_eq_emod_of_nonneg hd0.1]; exact hk0
  ((first | refine wp_region_more (by kernel_rfl) (by kernel_rfl) ?_ | refine wp_region_ext (by kernel_rfl) (by kernel_rfl) ?_); (try dsimp only [append_cons', append_nil']); (repeat (go_big_quiet_step ((fail)))); refine wpQuiet_nil ?_; rintro _ ⟨pq, rfl⟩)
  have hx2 : Ext w (more w1 pq) := hx1.more _
  generalize more w1 pq = w2 at *
  have hf1 : 1 ≤ f0 % 64 + 1 ∧ f0 % 64 + 1 ≤ 64 := by omega
  generalize f0 % 64 + 1 = f at *
  clear hz hz2 hk0 htm hx1
  go_wp2
  go_loopw [11, 12, 13] (fun v11 v12 v13 wr => Ext w wr ∧ ∃ k : Nat, v13 = .int .i64 k ∧ k ≤ L.length ∧ Hid (Pair w.heap.size v11 v12 ((L.take k).map fun x => x + 1) ((L.take k).map fun x => x + 1) wr)) (fun _ _ v13 _ => (L.length - intOf v13).toNat)
  case atStart => exact ⟨hx2, 0, rfl, by omega, hid (by simpa using Pair.nil _ _)⟩
  case round =>
    obtain ⟨hx, k, rfl, hk, hP⟩ := hrel
    by_cases hlt : k < L.length
    · obtain ⟨ba, oa, rfl, a0⟩ := HL.out.at k hlt
      have m0 := hx.cell a0.1
      simp only [Nat.mul_one] at m0
      have hxb := HW.out _ (List.getElem_mem hlt)
      have hwr := hx.size
      have hbw := World.block_lt_of_cell? _ _ a0.1
      simp only at hbw
      have hTK : Hid ((L.take (k + 1)).map (fun x => x + 1) = (L.take k).map (fun x => x + 1) ++ [L[k] + 1]) := hid (by
        rw [List.take_succ_eq_append_getElem hlt, List.map_append]; rfl)
      have hA0 : ((L.take k).map fun x => x + 1).length = k := by simp; omega
      generalize (L.take k).map (fun x => x + 1) = A at *
      have a1 := a0.1
      clear a0
      generalize L[k] = x at *
      have i1 : (k : Int) < L.length := by omega
      have HPa := hid hP.out.a
      rw [hA0] at HPa
      go_upto_region 11 with (at_builtin; refine wpList_push_two rfl (.tmp 41) (.tmp 48) 22 3 (.int .i64 0) 8 rfl Try.underlying22 infoI rfl (w := wr) (base := w.heap.size) (.int .i64 (x + 1)) HPa.out rfl (by unfold maxLen; omega) (by omega) hwr (by rfl) (nb := wr.heap.size) (by rfl) rfl ?_; intro p1 c1 w3 ho1 hb1 hg1 hk1)
      have hx3 : Ext w w3 := ⟨Below.trans hx.below hb1⟩
      have hP2 : Hid (Pair w.heap.size (.slice p1 (k + 1) c1) u12 (A ++ [x + 1]) A w3) := hid (by
        have := hP.out.push (p := p1) (c := c1) (x := x + 1) (w1 := w3) (by rw [hA0]; exact ho1) (by rw [hA0]; exact hg1) hk1
        rwa [hA0] at this)
      have m2 := hx3.cell a1
      simp only [Nat.mul_one] at m2
      have hw3 := hx3.size
      have HPb := hid hP2.out.b
      rw [hA0] at HPb
      clear hP m0 hk1 hg1 hb1 ho1 HPa hx
      go_upto_region 9 with (at_builtin; refine wpList_push_two rfl (.tmp 50) (.tmp 57) 22 3 (.int .i64 0) 8 rfl Try.underlying22 infoI rfl (w := w3) (base := w.heap.size) (.int .i64 (x + 1)) HPb.out rfl (by unfold maxLen; omega) (by omega) hw3 (by rfl) (nb := w3.heap.size) (by rfl) rfl ?_; intro p2 c2 w4 ho2 hb2 hg2 hk2)
      have hx4 : Ext w w4 := ⟨Below.trans hx3.below hb2⟩
      have hP3 : Hid (Pair w.heap.size (.slice p1 (k + 1) c1) (.slice p2 (k + 1) c2) (A ++ [x + 1]) (A ++ [x + 1]) w4) := hid (by
        have := hP2.out.swap.push (p := p2) (c := c2) (x := x + 1) (w1 := w4) (by rw [hA0]; exact ho2) (by rw [hA0]; exact hg2) hk2
        rw [hA0] at this
        exact this.swap)
      clear hP2 ho2 hb2 hg2 hk2 HPb m2
      go_wp2
      all_goals
        go_roundw
        case rel => exact ⟨hx4, k + 1, by go_num, by omega, hid (by rw [hTK.out]; exact hP3.out)⟩
        case measure => simp [intOf]; omega
    · obtain rfl : k = L.length := by omega
      have hP2 := hP.out
      rw [List.take_length] at hP2
      have HWA : Hid (∀ y ∈ L.map (fun x => x + 1), 1 ≤ y ∧ y ≤ 256) := hid fun y hy => by
        obtain ⟨x, hx, rfl⟩ := List.mem_map.1 hy
        have := HW.out x hx
        omega
      have hAl : (L.map fun x => x + 1).length = L.length := by simp
      generalize L.map (fun x => x + 1) = A at *
      have hkA : k0 < A.length := by omega
      have hA6 : A.length ≤ 6 := by omega
      clear hAl
      obtain ⟨g, cb, rfl, g1, g2, g3, g4, g5, g6⟩ := owns_put hP2.b hkA
      have hIb := (owns_map _ _ hP2.b).2
      obtain ⟨bb, ob, eb, ab⟩ := hIb.at k0 hkA
      injection eb with eb
      injection eb with eb1 eb2
      subst eb1 eb2
      simp only [Nat.mul_one, Nat.zero_add] at ab
      have hyb := HWA.out _ (List.getElem_mem hkA)
      have hIa := (owns_map _ _ hP2.a).2
      have HPa := hid hP2.a
      have hga : Hid (∀ b, Value.ownBlock u11 = some b → b ≠ g) := hid fun b hb e => by subst e; exact hP2.dis b hb rfl
      obtain ⟨pa, ca, rfl, hca, hma⟩ := hIa.shape
      unfold maxLen at hma g4
      have hB : ∀ y ∈ A.set k0 (A[k0] + e0), 1 ≤ y ∧ y ≤ 600 := fun y hy => by
        rcases List.mem_or_eq_of_mem_set hy with h | rfl
        · have := HWA.out y h; omega
        · omega
      have hSA : 0 < tot A := (tot_pos A fun y hy => by have := HWA.out y hy; omega).2 ⟨_, List.getElem_mem hkA, by omega⟩
      have hSB : 0 < tot (A.set k0 (A[k0] + e0)) := (tot_pos _ fun y hy => by have := hB y hy; omega).2 ⟨_, List.getElem_mem (show k0 < (A.set k0 (A[k0] + e0)).length by rw [List.length_set]; exact hkA), by have := hB _ (List.getElem_mem (show k0 < (A.set k0 (A[k0] + e0)).length by rw [List.length_set]; exact hkA)); omega⟩
      have mA : mayS f A = true := May.may hf1.1 hf1.2 (by omega) (fun y hy => by have := HWA.out y hy; omega) (fun y hy => by have := HWA.out y hy; omega) hSA
      have mB : mayS f (A.set k0 (A[k0] + e0)) = true := May.may hf1.1 hf1.2 (by rw [List.length_set]; omega) (fun y hy => by have := hB y hy; omega) (fun y hy => by have := hB y hy; omega) hSB
      have kc : k0 < (countsL f A).length := by rw [countsL_length]; exact hkA
      have kd : k0 < (countsL f (A.set k0 (A[k0] + e0))).length := by rw [countsL_length, List.length_set]; exact hkA
      have hle : (countsL f A)[k0] ≤ (countsL f (A.set k0 (A[k0] + e0)))[k0] := counts_more (May.of mA) (List.getElem?_eq_getElem hkA) he0.1 (May.of mB) (List.getElem?_eq_getElem kc) (List.getElem?_eq_getElem kd)
      have HA : Hid (∀ (v : Value) (u : World), Ints u v A → Calls Try.prog 10 #[.int .i64 f, v] u fun e w' => ∃ r, e = .returned r ∧ Ext u w' ∧ Ints w' r (countsL f A)) := hid fun v u h => counts_all h _ (by rw [if_pos mA])
      have HB : Hid (∀ (v : Value) (u : World), Ints u v (A.set k0 (A[k0] + e0)) → Calls Try.prog 10 #[.int .i64 f, v] u fun e w' => ∃ r, e = .returned r ∧ Ext u w' ∧ Ints w' r (countsL f (A.set k0 (A[k0] + e0)))) := hid fun v u h => counts_all h _ (by rw [if_pos mB])
      have hlA : (countsL f A).length = A.length := countsL_length f A
      have hlB : (countsL f (A.set k0 (A[k0] + e0))).length = A.length := by rw [countsL_length, List.length_set]
      have HIA : Hid (Ints (wr.setCell ⟨g, k0, none⟩ (.int .i64 (A[k0] + e0))) (.slice pa A.length ca) A) := hid (by
        have := owns_keep (w' := wr.setCell ⟨g, k0, none⟩ (.int .i64 (A[k0] + e0))) HPa.out fun b hb => Below.heap_setCell _ _ _ _ (by simpa using hga.out b hb)
        exact (owns_map _ _ this).2)
      have HIB : Hid (Ints (wr.setCell ⟨g, k0, none⟩ (.int .i64 (A[k0] + e0))) (.slice (some ⟨g, 0, none⟩) A.length cb) (A.set k0 (A[k0] + e0))) := hid (by
        have h1 := g6 (.int .i64 (A[k0] + e0))
        have h2 : (A.map iV).set k0 (.int .i64 (A[k0] + e0)) = (A.set k0 (A[k0] + e0)).map iV := by rw [List.map_set]; rfl
        rw [h2] at h1
        exact (owns_map _ _ h1).2)
      clear hP hP2 hIa hIb HPa hga hSA hSB mA mB hB g6
      generalize countsL f (A.set k0 (A[k0] + e0)) = Y at *
      generalize countsL f A = X at *
      generalize A.set k0 (A[k0] + e0) = B at *
      generalize A[k0] = y at *
      have i2 : (k0 : Int) < A.length := by omega
      have HLA := hid hlA
      have HLB := hid hlB
      clear hlA hlB
      go_upto_region 13 with (fail)
      have hx6 : Ext w (wr.setCell ⟨g, k0, none⟩ (.int .i64 (y + e0))) := ext_by
      generalize wr.setCell ⟨g, k0, none⟩ (.int .i64 (y + e0)) = w6 at *
      go_upto_region 14 with (first
        | (go_at_call 10; (with_reducible refine (HA.out _ _ HIA.out).mono ?_); rintro e w7 ⟨u7, rfl, hx7, hI7⟩)
        | (go_at_call 10; (with_reducible refine (HB.out _ _ (HIB.out.ext hx7)).mono ?_); rintro e w8 ⟨u8, rfl, hx8, hI8⟩))
      have hI9 := hI7.ext hx8
      obtain ⟨p7, c7, rfl, hc7, hm7⟩ := hI7.shape
      obtain ⟨p8, c8, rfl, hc8, hm8⟩ := hI8.shape
      unfold maxLen at hm7 hm8
      obtain ⟨b7, o7, rfl, a7⟩ := hI9.at k0 kc
      obtain ⟨b8, o8, rfl, a8⟩ := hI8.at k0 kd
      have n7 := more_cell a7
      have n8 := more_cell a8
      simp only [Nat.mul_one] at n7 n8
      have q7 : ((X.length : Int) != (A.length : Int)) = false := by have := HLA.out; simp; omega
      have q8 : ((Y.length : Int) != (A.length : Int)) = false := by have := HLB.out; simp; omega
      have i7 : (k0 : Int) < X.length := by omega
      have i8 : (k0 : Int) < Y.length := by omega
      have hxx : Ext w w8 := (hx6.trans hx7).trans hx8
      clear a7 a8 hI7 hI8 hI9
      generalize X[k0] = c at *
      generalize Y[k0] = d at *
      go_wp2
      ((first | refine wp_region_more (by kernel_rfl) (by kernel_rfl) ?_ | refine wp_region_ext (by kernel_rfl) (by kernel_rfl) ?_); (try dsimp only [append_cons', append_nil']); (repeat (go_big_quiet_step ((fail)))); refine wpQuiet_nil ?_; rintro _ ⟨pq, rfl⟩)
      go_wp2
      go_returns
      exact ⟨by simp; try omega, hxx.more _⟩

set_option linter.unusedVariables false in
set_option maxRecDepth 100000 in
theorem lifted (os : Os) (started : os.Started) (H : Type) (enc : TypeId × Value → H) :
    ReturnsInHanded {} Try.checked os 6 .any (Rows.shareMoreSpec.pre6 enc Try.prog Try.f6 Rows.shareMoreRow.domain false) (Rows.shareMoreSpec.post enc Try.prog Try.f6 false true false false) := by
  refine returnsInHanded_of_change (C := Try.checked) Own.own started (by kernel_rfl) Try.func6
    (ChangeSpec.witness6 (enc := enc) (C := Try.checked) false ⟨#[], #[.int .u8 0, .slice none 0 0, .int .u8 0, .int .u8 0], []⟩ 8 (by kernel_rfl) (by kernel_rfl) (by kernel_rfl) (by kernel_rfl)) ?_
  intro W base args ds gs before hval0 hW hcnd _
  have hval : ∀ (j : Nat) t v, Try.f6.params[j]? = some t → args[j]? = some v → Value.okWide Try.prog W .any base t v := hval0
  have hW' := hW
  obtain ⟨p, q, hA0, hV, rfl, hfz, hnd⟩ := hW
  have hA : DataW.TrodAll enc Try.prog W 0 (fun _ => true) true Try.f6.params.toList args.toList ds p := hA0
  rw [Try.params6] at hA hval
  obtain ⟨v0, vs0, d0, ds0, p0, q0, hargs, rfl, rfl, h0, r0⟩ := trodAll_cons hA
  obtain ⟨v1, vs1, d1, ds1, p1, q1, rfl, rfl, rfl, h1, r1⟩ := trodAll_cons r0
  obtain ⟨v2, vs2, d2, ds2, p2, q2, rfl, rfl, rfl, h2, r2⟩ := trodAll_cons r1
  obtain ⟨v3, vs3, d3, ds3, p3, q3, rfl, rfl, rfl, h3, r3⟩ := trodAll_cons r2
  obtain ⟨rfl, rfl, rfl⟩ := trodAll_nil r3
  obtain rfl : args = #[v0, v1, v2, v3] := by cases args; simp_all
  obtain ⟨rfl, rfl⟩ := trodVars_none hV
  have k0 := h0
  have lt0 : ∀ x ∈ p0, x.block < W.heap.size := by obtain ⟨m, hm⟩ := k0; exact DataW.trod_lt m _ _ _ hm
  have k1 := h1
  have lt1 : ∀ x ∈ p1, x.block < W.heap.size := by obtain ⟨m, hm⟩ := k1; exact DataW.trod_lt m _ _ _ hm
  have k2 := h2
  have lt2 : ∀ x ∈ p2, x.block < W.heap.size := by obtain ⟨m, hm⟩ := k2; exact DataW.trod_lt m _ _ _ hm
  have k3 := h3
  have lt3 : ∀ x ∈ p3, x.block < W.heap.size := by obtain ⟨m, hm⟩ := k3; exact DataW.trod_lt m _ _ _ hm
  obtain ⟨f0, rfl, rfl, rfl, wf0⟩ := open_int Try.underlying5 (hval 0 5 v0 rfl rfl) h0
  obtain ⟨a1, len1, cap1, rfl⟩ := okWide_slice Try.underlying30 (hval 1 30 v1 rfl rfl)
  obtain ⟨L, hL⟩ := Own.open_nums Try.underlying30 Try.underlying5 (by kernel_rfl) h1
  obtain ⟨d0, rfl, rfl, rfl, wd0⟩ := open_int Try.underlying5 (hval 2 5 v2 rfl rfl) h2
  obtain ⟨e0, rfl, rfl, rfl, we0⟩ := open_int Try.underlying5 (hval 3 5 v3 rfl rfl) h3
  clear hA0 hval0
  refine (walk f0 d0 e0 (wf_bounds8 wf0) (wf_bounds8 wd0) (wf_bounds8 we0) _ L W hL).mono fun e W' ⟨he, hx⟩ => ?_
  subst he
  exact ⟨_, rfl, _, _, _, [], _, [], hW', trodAll_mk1 (shut_bool Try.underlying4 _), (trodAll_cons_mk (Below.trod Own.laidOut (by kernel_rfl) (of_decide_eq_true (by kernel_rfl)) k0 hx.below lt0) (trodAll_cons_mk (Below.trod Own.laidOut (by kernel_rfl) (of_decide_eq_true (by kernel_rfl)) k1 hx.below lt1) (trodAll_cons_mk (Below.trod Own.laidOut (by kernel_rfl) (of_decide_eq_true (by kernel_rfl)) k2 hx.below lt2) (trodAll_cons_mk (Below.trod Own.laidOut (by kernel_rfl) (of_decide_eq_true (by kernel_rfl)) k3 hx.below lt3) trodAll_mk0)))), rfl, hx.below.frame _, fun h => by cases h⟩

theorem proved : Rows.ShareMoreSaid :=
  OpenClaim.holds_of_wide 6 Try.f6 rfl rfl rfl rfl rfl rfl rfl ⟨rfl, rfl, rfl, rfl, rfl⟩ rfl rfl rfl rfl rfl (by kernel_rfl) Try.func6 (by kernel_rfl)
    (of_decide_eq_true (by kernel_rfl)) (by unfold Func.isWrapper; first | (rw [if_pos (by decide +kernel)]; kernel_rfl) | (rw [if_neg (by decide +kernel)]; exact ⟨rfl, rfl⟩))
    (fun os started H enc _ => lifted os started H enc)

end shareMore
end Go.Proofs.Ytpickmmegaeklaa
