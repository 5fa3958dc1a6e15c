/- The document's Exact (tontineref11.Exact). -/
import Derived.Test.YtikecpgdacphjaaRs0
import Derived.Test.YtikecpgdacphjaaShX
namespace Go.Proofs.Ytikecpgdacphjaa
open Go.RowKit

theorem near_bounds2 {f S x y : Int} (h0 : 0 ≤ f * x) (h1 : f * x ≤ f * S) (hS : 1 ≤ S) (h : nearB f S x y = true) : 0 ≤ y ∧ y ≤ f := by
  simp only [nearB, Bool.and_eq_true, decide_eq_true_eq] at h
  constructor
  · apply Decidable.byContradiction
    intro hn
    have : y * S ≤ -1 * S := Int.mul_le_mul_of_nonneg_right (by omega) (by omega)
    omega
  · apply Decidable.byContradiction
    intro hn
    have : (f + 1) * S ≤ y * S := Int.mul_le_mul_of_nonneg_right (by omega) (by omega)
    rw [Int.add_mul] at this
    omega
theorem le_tot : ∀ (l : List Int), (∀ x ∈ l, 0 ≤ x) → ∀ x ∈ l, x ≤ tot l
  | [], _, x, h => by simp at h
  | y :: l, hl, x, hx => by
    have h1 := hl y (by simp)
    have h2 := tot_nonneg l fun z hz => hl z (by simp [hz])
    rcases List.mem_cons.1 hx with rfl | hx
    · simp [tot]; omega
    · have := le_tot l (fun z hz => hl z (by simp [hz])) x hx; simp [tot]; omega

theorem rexact_no {f : Int} {l c : List Int} {v vc : Value} {w : World} (h : Ints w v l) (hc : Ints w vc c) (hm : mayS f l = false) : Calls Try.prog 19 #[.int .i64 f, v, vc] w (Yields w (.bool (exactL f l c))) := by
  obtain ⟨pa, ca, rfl, hca, hma⟩ := h.shape
  obtain ⟨pc, cc, rfl, hcc, hmc⟩ := hc.shape
  unfold maxLen at hma hmc
  have H := hid h
  have HM := hid hm
  have HE : Hid (exactL f l c = false) := hid (by simp [exactL, hm])
  clear h hm hc
  go_enter Try.func19, Try.ntmps19
  go_wp2_with (go_at_call 32; refine (mayR_to H.out HM.out).yields ?_; intro p)
  go_returns
  exact ⟨by simp [HE.out], ext_by⟩
theorem rexact_len {f : Int} {l c : List Int} {v vc : Value} {w : World} (h : Ints w v l) (hc : Ints w vc c) (hm : mayS f l = true) (hl : c.length ≠ l.length) : Calls Try.prog 19 #[.int .i64 f, v, vc] w (Yields w (.bool (exactL f l c))) := by
  obtain ⟨pa, ca, rfl, hca, hma⟩ := h.shape
  obtain ⟨pc, cc, rfl, hcc, hmc⟩ := hc.shape
  unfold maxLen at hma hmc
  have H := hid h
  have HM := hid hm
  have HE : Hid (exactL f l c = false) := hid (by simp [exactL, hl])
  have h1 : ((c.length : Int) != (l.length : Int)) = true := by simp; omega
  clear h hm hc
  go_enter Try.func19, Try.ntmps19
  go_wp2_with (go_at_call 32; refine (mayR_to H.out HM.out).yields ?_; intro p)
  go_returns
  exact ⟨by simp [HE.out], ext_by⟩

set_option maxRecDepth 100000 in
set_option maxHeartbeats 4000000 in
theorem rexact_yes {f : Int} {l c : List Int} {v vc : Value} {w : World} (h : Ints w v l) (hc : Ints w vc c) (hm : mayS f l = true) (hl : c.length = l.length) : Calls Try.prog 19 #[.int .i64 f, v, vc] w (Yields w (.bool (exactL f l c))) := by
  have hM := May.of hm
  obtain ⟨pa, ca, rfl, hca, hma⟩ := h.shape
  obtain ⟨pc, cc, rfl, hcc, hmc⟩ := hc.shape
  unfold maxLen at hma hmc
  have H := hid h
  have HC := hid hc
  have Hm := hid hm
  have HM := hid hM
  have hf1 := hM.f1
  have hf2 := hM.f64
  have hn := hM.len
  have hS1 := hM.S1
  have hS6 := hM.S6
  have HBD : Hid (∀ x ∈ l, -100000 ≤ x ∧ x ≤ 100000) := hid fun x hx => by have := hM.lo x hx; have := hM.hi x hx; omega
  have HE : Hid (exactL f l c = (nearL f (tot l) l c && decide (tot c = f))) := hid (by simp [exactL, hl, hm])
  have h1 : ((c.length : Int) != (l.length : Int)) = false := by simp; omega
  have HTO : Hid (∀ u, Ext w u → Calls Try.prog 33 #[.slice pa l.length ca] u (Yields u (.int .i64 (tot l)))) := hid fun u hu => total_any (h.ext hu) HBD.out (by omega)
  clear h hm hM hc
  go_enter Try.func19, Try.ntmps19
  go_wp2_with (go_at_call 32; refine (mayR_to H.out Hm.out).yields ?_; intro p)
  go_loopw [7, 8] (fun v7 v8 wr => Ext w wr ∧ ∃ (k : Nat) (a : Int), v8 = .int .i64 k ∧ v7 = .int .i64 a ∧ k ≤ l.length ∧ Hid (a = tot (c.take k)) ∧ 0 ≤ a ∧ a ≤ 64 * k ∧ Hid (nearL f (tot l) (l.take k) (c.take k) = true)) (fun _ v8 _ => (l.length - intOf v8).toNat)
  case atStart => exact ⟨ext_by, 0, 0, rfl, rfl, by omega, hid (by simp [tot]), by omega, by omega, hid (by simp [nearL])⟩
  case round =>
    obtain ⟨hx, k, a, rfl, rfl, hk, ha, a0, a1, hN⟩ := hrel
    by_cases hlt : k < l.length
    · have hkc : k < c.length := by omega
      obtain ⟨ba, oa, rfl, b0⟩ := H.out.at k hlt
      obtain ⟨bc, oc, rfl, d0⟩ := HC.out.at k hkc
      have d1 := hx.cell d0
      have b1 := hx.cell b0
      simp only [Nat.mul_one] at d1 b1
      have x1 := HM.out.lo _ (List.getElem_mem hlt)
      have x2 := HM.out.hi _ (List.getElem_mem hlt)
      have q := prod_bounds hf1 hf2 x1 x2
      have q2 : f * l[k] ≤ f * tot l := Int.mul_le_mul_of_nonneg_left (le_tot l HM.out.lo _ (List.getElem_mem hlt)) (by omega)
      have hnt := nearL_take f (tot l) l c k hlt hkc
      rw [hN.out, Bool.true_and] at hnt
      have hat : tot (c.take (k + 1)) = a + c[k] := by rw [tot_take c k hkc, ← ha.out]
      have hall : Hid (nearB f (tot l) l[k] c[k] = false → nearL f (tot l) l c = false) := hid (fun hb => by
        rw [← Bool.not_eq_true]
        intro hh
        have := (nearL_iff f (tot l) l c hl).1 hh k l[k] c[k] (List.getElem?_eq_getElem hlt) (List.getElem?_eq_getElem hkc)
        rw [this] at hb; cases hb)
      have HNT := hid hnt
      have HAT := hid hat
      have hnb : nearB f (tot l) l[k] c[k] = (decide (f * l[k] - c[k] * tot l < tot l) && decide (-(f * l[k] - c[k] * tot l) < tot l)) := rfl
      have hbd : Hid (nearB f (tot l) l[k] c[k] = true → 0 ≤ c[k] ∧ c[k] ≤ f) := hid (near_bounds2 q.1 q2 hS1)
      have HNB := hid hnb
      clear d0 b0 hnt hat hN ha hnb q2
      generalize nearB f (tot l) l[k] c[k] = nb at *
      generalize c[k] = y at *
      generalize l[k] = x at *
      have i1 : (k : Int) < l.length := by omega
      have i2 : (k : Int) < c.length := by omega
      by_cases hy : 0 ≤ y ∧ y ≤ f
      · obtain ⟨hy1, hy2⟩ := hy
        have hys : 0 ≤ y * tot l ∧ y * tot l ≤ 384000 := by
          refine ⟨Int.mul_nonneg hy1 (by omega), ?_⟩
          calc y * tot l ≤ 64 * tot l := Int.mul_le_mul_of_nonneg_right (by omega) (by omega)
            _ ≤ 384000 := by omega
        have m0 := more_cell d1
        have m1 := more_cell b1
        by_cases hin : nb = true
        · have hin2 := HNB.out
          rw [hin] at hin2
          have hin3 := hin2.symm
          simp only [Bool.and_eq_true, decide_eq_true_eq] at hin3
          have HNT2 : Hid (nearL f (tot l) (l.take (k + 1)) (c.take (k + 1)) = true) := hid (by rw [HNT.out, hin])
          clear hin2 HNT HNB hall hbd hin
          go_wp2
          ((first | refine wp_region_more (by kernel_rfl) (by kernel_rfl) ?_ | refine wp_region_ext (by kernel_rfl) (by kernel_rfl) ?_); (try dsimp only [append_cons', append_nil']); (repeat (go_big_quiet_step ((go_at_call 33; with_reducible refine Calls.more_of (HTO.out _ (hx.more _)))))); refine wpQuiet_nil ?_; rintro _ ⟨pq, rfl⟩)
          go_wp2_with (go_at_call 33; refine (HTO.out _ (by repeat (first | assumption | refine Ext.more ?_ _))).yields ?_; intro p5)
          all_goals
            go_roundw
            case rel => exact ⟨ext_by, k + 1, _, by go_num, rfl, by omega, hid HAT.out.symm, by omega, by omega, HNT2⟩
            case measure => simp [intOf]; omega
        · have hin' : nb = false := by simpa using hin
          have hr := hall.out hin'
          have HR : Hid (exactL f l c = false) := hid (by rw [HE.out, hr]; rfl)
          have hin2 := HNB.out
          rw [hin'] at hin2
          have hin3 := hin2.symm
          rw [← Bool.not_eq_true, Bool.and_eq_true, decide_eq_true_eq, decide_eq_true_eq] at hin3
          have hin4 : y * tot l - f * x ≥ tot l ∨ -(y * tot l - f * x) ≥ tot l := by omega
          clear hin2 HNT HNB hall hbd hin hin' hr hin3
          rcases hin4 with hin4 | hin4
          · go_wp2
            ((first | refine wp_region_more (by kernel_rfl) (by kernel_rfl) ?_ | refine wp_region_ext (by kernel_rfl) (by kernel_rfl) ?_); (try dsimp only [append_cons', append_nil']); (repeat (go_big_quiet_step ((go_at_call 33; with_reducible refine Calls.more_of (HTO.out _ (hx.more _)))))); refine wpQuiet_nil ?_; rintro _ ⟨pq, rfl⟩)
            go_wp2_with (go_at_call 33; refine (HTO.out _ (by repeat (first | assumption | refine Ext.more ?_ _))).yields ?_; intro p5)
            all_goals
              go_returns
              exact ⟨by simp [HR.out], ext_by⟩
          · have hin5 : y * tot l - f * x < tot l := by omega
            go_wp2
            ((first | refine wp_region_more (by kernel_rfl) (by kernel_rfl) ?_ | refine wp_region_ext (by kernel_rfl) (by kernel_rfl) ?_); (try dsimp only [append_cons', append_nil']); (repeat (go_big_quiet_step ((go_at_call 33; with_reducible refine Calls.more_of (HTO.out _ (hx.more _)))))); refine wpQuiet_nil ?_; rintro _ ⟨pq, rfl⟩)
            go_wp2_with (go_at_call 33; refine (HTO.out _ (by repeat (first | assumption | refine Ext.more ?_ _))).yields ?_; intro p5)
            all_goals
              go_returns
              exact ⟨by simp [HR.out], ext_by⟩
      · have hin' : nb = false := by
          rw [← Bool.not_eq_true]
          intro hin
          exact hy (hbd.out hin)
        have hr := hall.out hin'
        have HR : Hid (exactL f l c = false) := hid (by rw [HE.out, hr]; rfl)
        clear HNT HNB hall hbd hin' hr
        by_cases hy0 : y < 0
        · go_wp2
          all_goals
            go_returns
            exact ⟨by simp [HR.out], ext_by⟩
        · have hy1 : f < y := by omega
          go_wp2
          all_goals
            go_returns
            exact ⟨by simp [HR.out], ext_by⟩
    · obtain rfl : k = l.length := by omega
      have h2 := ha.out
      have h3 := hN.out
      rw [List.take_length, ← hl, List.take_length] at h3
      rw [← hl, List.take_length] at h2
      have HR : Hid (exactL f l c = decide (a = f)) := hid (by rw [HE.out, h3, h2]; rfl)
      clear h2 h3 ha hN
      by_cases haf : a = f
      · have HR2 : Hid (exactL f l c = true) := hid (by rw [HR.out, decide_eq_true haf])
        subst haf
        go_wp2
        go_returns
        exact ⟨by simp [HR2.out], hx⟩
      · have HR2 : Hid (exactL f l c = false) := hid (by rw [HR.out, decide_eq_false haf])
        have hb : (a == f) = false := by simpa using haf
        go_wp2
        go_returns
        exact ⟨by simp [HR2.out], hx⟩
theorem rexact_any {f : Int} {l c : List Int} {v vc : Value} {w : World} (h : Ints w v l) (hc : Ints w vc c) : Calls Try.prog 19 #[.int .i64 f, v, vc] w (Yields w (.bool (exactL f l c))) := by
  cases hm : mayS f l
  · exact rexact_no h hc hm
  · by_cases hl : c.length = l.length
    · exact rexact_yes h hc hm hl
    · exact rexact_len h hc hm hl
theorem rexact_to {f : Int} {l c : List Int} {v vc : Value} {w : World} {r : Bool} (h : Ints w v l) (hc : Ints w vc c) (e : exactL f l c = r) : Calls Try.prog 19 #[.int .i64 f, v, vc] w (Yields w (.bool r)) := e ▸ rexact_any h hc
end Go.Proofs.Ytikecpgdacphjaa
