/- Exact: as many counts as shares, the frame in sum, each less than one away from what is due. -/
import Derived.Test.YtpickmmegaeklaaSh2
import Derived.Test.YtpickmmegaeklaaShX
namespace Go.Proofs.Ytpickmmegaeklaa
open Go.RowKit

theorem ge_Fz {a b : Int} (ha : a.natAbs < 2 ^ 53) (hb : b.natAbs < 2 ^ 53) : (FloatKind.f64.format.order (Fz a) (Fz b) == some .gt || FloatKind.f64.format.order (Fz a) (Fz b) == some .eq) = decide (b ≤ a) := by
  rw [show FloatKind.f64.format = Ieee.double from rfl, order_Fz ha hb]
  simp only [compare, compareOfLessAndEq]
  by_cases h : a < b
  · simp [h]; try omega
  · by_cases h' : a = b
    · subst h'; simp
    · simp [h, h']; try omega
theorem eq_Fz {a b : Int} (ha : a.natAbs < 2 ^ 53) (hb : b.natAbs < 2 ^ 53) : (FloatKind.f64.format.order (Fz a) (Fz b) == some .eq) = decide (a = b) := by
  rw [show FloatKind.f64.format = Ieee.double from rfl, order_Fz ha hb]
  simp only [compare, compareOfLessAndEq]
  by_cases h : a < b
  · simp [h]; try omega
  · by_cases h' : a = b
    · subst h'; simp
    · simp [h, h']

set_option maxRecDepth 100000 in
/-- A part with so many quanta more, where this is no great number. -/
theorem part_some {y S a : Int} (hy : y.natAbs < 2 ^ 38) (h1 : 1 ≤ S) (h2 : S ≤ 6000) (h3 : 0 ≤ a) (h4 : a ≤ 64000) :
    cMulBits (floatOfInt .f64 y) 0 4607182418800017408 (Fz (-S)) = some (Fz y, Fz (-(y * S))) ∧ cSumBits .add .f64 0 (Fz a) (Fz y) (Fz (-(y * S))) = some (Fz y, Fz (a - y * S)) ∧ (a - y * S).natAbs < 2 ^ 53 := by
  have hp : (y * S).natAbs < 2 ^ 51 := by
    rw [Int.natAbs_mul]
    calc y.natAbs * S.natAbs ≤ y.natAbs * 2 ^ 13 := Nat.mul_le_mul_left _ (by omega)
      _ < 2 ^ 38 * 2 ^ 13 := Nat.mul_lt_mul_of_pos_right hy (by omega)
      _ = 2 ^ 51 := by decide
  have t := times_Fz (q := y) (S := S) (by omega) (by omega) (by omega)
  have u := sum_Fz (a := 0) (b := a) (c := y) (d := -(y * S)) (by decide) (by omega) (by omega) (by omega)
  rw [zero_Fz, one_Fz] at t
  rw [zero_Fz, Int.zero_add] at u
  rw [floatOfInt_eq (by omega)]
  exact ⟨t, u, by omega⟩
set_option maxRecDepth 100000 in
/-- The same where it is great: it is far from what is due. -/
theorem part_far {y S a : Int} (hy : 2 ^ 38 ≤ y.natAbs) (hy2 : y.natAbs < 2 ^ 64) (h1 : 1 ≤ S) (h2 : S ≤ 6000) (h3 : 0 ≤ a) (h4 : a ≤ 64000) :
    ∃ u v r s, cMulBits (floatOfInt .f64 y) 0 4607182418800017408 (Fz (-S)) = some (u, v) ∧ cSumBits .add .f64 0 (Fz a) u v = some (r, s) ∧ s < 2 ^ 64 ∧ (FloatKind.f64.format.order (s % 2 ^ 63) (Fz S) == some .gt || FloatKind.f64.format.order (s % 2 ^ 63) (Fz S) == some .eq) = true := by
  have hF := Far.int hy hy2
  obtain ⟨z1, m1, f1⟩ := hF.mul (b := 1) (by omega) (by decide) (by omega) (by omega)
  obtain ⟨z3, m3, f3⟩ := hF.mul (b := -S) (by omega) (by omega) (by omega) (by omega)
  have m2 : Ieee.double.mul (Fz 0) (Fz (-S)) = some (Wd true 0) := by
    have := mul_Wd (n1 := false) (n2 := true) (m1 := 0) (m2 := (-S).natAbs) (by decide) (by omega) (by rw [Nat.zero_mul]; decide)
    rw [Nat.zero_mul, Bool.false_xor] at this
    rw [Fz_Wd (-S), show decide (-S < 0) = true by simp; omega]; exact this
  have m5 : Ieee.double.mul (Fz 0) (Fz 1) = some (Fz 0) := by
    have := mul_Wd (n1 := false) (n2 := false) (m1 := 0) (m2 := 1) (by decide) (by decide) (by decide)
    exact this
  obtain ⟨-, ⟨z2, m6, f6⟩, -⟩ := f1.sum near_neg0 (by omega) (by omega)
  obtain ⟨⟨z4, m7, f7⟩, -, -⟩ := f3.sum (near_Fz (z := 0) (by decide)) (by omega) (by omega)
  obtain ⟨-, -, ⟨z5, m8, f8⟩⟩ := f6.sum (near_Fz (z := 0) (by decide)) (by omega) (by omega)
  obtain ⟨-, -, ⟨z6, m9, f9⟩⟩ := f7.sum (near_Fz (z := a) (by omega)) (by omega) (by omega)
  rw [← one_Fz, ← zero_Fz]
  refine ⟨z2, z4, z5, z6, ?_, ?_, f9.1, ?_⟩
  · have e1 : floatBits .mul .f64 (floatOfInt .f64 y) (Fz 1) = some z1 := m1
    have e2 : floatBits .mul .f64 (Fz 0) (Fz (-S)) = some (Wd true 0) := m2
    have e3 : floatBits .sub .f64 z1 (Wd true 0) = some z2 := m6
    have e4 : floatBits .mul .f64 (floatOfInt .f64 y) (Fz (-S)) = some z3 := m3
    have e5 : floatBits .mul .f64 (Fz 0) (Fz 1) = some (Fz 0) := m5
    have e6 : floatBits .add .f64 z3 (Fz 0) = some z4 := m7
    unfold cMulBits
    simp only [e1, e2, e3, e4, e5, e6, Option.bind_some]
  · have e1 : floatBits .add .f64 (Fz 0) z2 = some z5 := m8
    have e2 : floatBits .add .f64 (Fz a) z4 = some z6 := m9
    unfold cSumBits
    simp only [e1, e2, Option.bind_some]
  · have := f9.abs.gt (near_Fz (z := S) (by omega)) (by omega)
    rw [show FloatKind.f64.format.order (z6 % 2 ^ 63) (Fz S) = some .gt from this]
    rfl

theorem exact_no {f : Int} {l c : List Int} {v vc : Value} {w : World} (h : Ints w v l) (hc : Ints w vc c) (hm : mayS f l = false) : Calls Try.prog 12 #[.int .i64 f, v, vc] w (Yields w (.bool (exactL f l c))) := by
  obtain ⟨pa, ca, rfl, hca, hma⟩ := h.shape
  obtain ⟨pc, cc, rfl, hcc, hmc⟩ := hc.shape
  unfold maxLen at hma hmc
  have H := hid h
  have HM := hid hm
  have HE : Hid (exactL f l c = false) := hid (by simp [exactL, hm])
  clear h hm hc
  go_enter Try.func12, Try.ntmps12
  go_wp2_with (go_at_call 14; refine (may_to H.out HM.out).yields ?_; intro p)
  go_returns
  exact ⟨by simp [HE.out], ext_by⟩
theorem exact_len {f : Int} {l c : List Int} {v vc : Value} {w : World} (h : Ints w v l) (hc : Ints w vc c) (hm : mayS f l = true) (hl : c.length ≠ l.length) : Calls Try.prog 12 #[.int .i64 f, v, vc] w (Yields w (.bool (exactL f l c))) := by
  obtain ⟨pa, ca, rfl, hca, hma⟩ := h.shape
  obtain ⟨pc, cc, rfl, hcc, hmc⟩ := hc.shape
  unfold maxLen at hma hmc
  have H := hid h
  have HM := hid hm
  have HE : Hid (exactL f l c = false) := hid (by simp [exactL, hl])
  have h1 : ((c.length : Int) != (l.length : Int)) = true := by simp; omega
  clear h hm hc
  go_enter Try.func12, Try.ntmps12
  go_wp2_with (go_at_call 14; refine (may_to H.out HM.out).yields ?_; intro p)
  go_returns
  exact ⟨by simp [HE.out], ext_by⟩

set_option maxRecDepth 100000 in
set_option maxHeartbeats 4000000 in
theorem exact_yes {f : Int} {l c : List Int} {v vc : Value} {w : World} (h : Ints w v l) (hc : Ints w vc c) (hm : mayS f l = true) (hl : c.length = l.length) (hwf : ∀ y ∈ c, wf64 y) : Calls Try.prog 12 #[.int .i64 f, v, vc] w (Yields w (.bool (exactL f l c))) := by
  have hM := May.of hm
  obtain ⟨pa, ca, rfl, hca, hma⟩ := h.shape
  obtain ⟨pc, cc, rfl, hcc, hmc⟩ := hc.shape
  unfold maxLen at hma hmc
  have H := hid h
  have HC := hid hc
  have Hm := hid hm
  have HM := hid hM
  have HW := hid hwf
  have hf1 := hM.f1
  have hf2 := hM.f64
  have hn := hM.len
  have hS1 := hM.S1
  have hS6 := hM.S6
  have hneg := neg_neg_Fz hS1 hS6
  have HE : Hid (exactL f l c = (nearL f (tot l) l c && decide (tot c = f))) := hid (by simp [exactL, hl, hm])
  have h1 : ((c.length : Int) != (l.length : Int)) = false := by simp; omega
  clear h hm hM hc hwf
  go_enter Try.func12, Try.ntmps12
  go_upto_region 3 with (go_at_call 14; refine (may_to H.out Hm.out).yields ?_; intro p)
  have hxm := ext_more w p
  have HI1 := hid (H.out.ext hxm)
  generalize more w p = w0 at *
  go_upto_region 4 with (go_at_call 15; refine (due_any HM.out HI1.out).mono ?_; rintro e w1 ⟨rfl, hx1, hc1⟩)
  have hx2 : Ext w w1 := hxm.trans hx1
  clear hx1 hxm HI1
  generalize w0.heap.size = g at *
  have HC1 := hid hc1
  clear hc1 w0
  go_wp2
  go_loopw [9, 32] (fun v9 v32 wr => Ext w wr ∧ ∃ (k : Nat) (a b : Int), v32 = .int .i64 k ∧ v9 = .complex .f64 (Fz a) (Fz b) ∧ k ≤ l.length ∧ Hid (a = tot (c.take k)) ∧ 0 ≤ a ∧ a ≤ 64 * k ∧ -6000 * k ≤ b ∧ b ≤ 6000 * k ∧ Hid (nearL f (tot l) (l.take k) (c.take k) = true) ∧ Hid (Cx wr g (ini f l))) (fun _ v32 _ => (l.length - intOf v32).toNat)
  case atStart => exact ⟨hx2, 0, 0, 0, rfl, by rw [zero_Fz], by omega, hid (by simp [tot]), by omega, by omega, by omega, by omega, hid (by simp [nearL]), HC1⟩
  case round =>
    obtain ⟨hx, k, a, b, rfl, rfl, hk, ha, a0, a1, b0, b1, hN, hC⟩ := hrel
    by_cases hlt : k < l.length
    · have hkc : k < c.length := by omega
      have hki : k < (ini f l).length := by simpa [ini] using hlt
      have hig : (ini f l)[k] = (0, f * l[k]) := by simp [ini]
      have c0 := hC.out.at hki
      rw [hig] at c0
      simp only at c0
      rw [zero_Fz] at c0
      obtain ⟨bc, oc, rfl, d0⟩ := HC.out.at k hkc
      have d1 := hx.cell d0
      simp only [Nat.mul_one] at d1
      have x1 := HM.out.lo _ (List.getElem_mem hlt)
      have x2 := HM.out.hi _ (List.getElem_mem hlt)
      have q := prod_bounds hf1 hf2 x1 x2
      have q2 := share_le HM.out (List.getElem_mem hlt)
      have hwy := HW.out _ (List.getElem_mem hkc)
      have hnt := nearL_take f (tot l) l c k hlt hkc
      rw [hN.out, Bool.true_and] at hnt
      have hat : tot (c.take (k + 1)) = a + c[k] := by rw [tot_take c k hkc, ← ha.out]
      have hall : Hid (nearB f (tot l) l[k] c[k] = false → nearL f (tot l) l c = false) := hid (fun hb => by
        rw [← Bool.not_eq_true]
        intro hh
        have := (nearL_iff f (tot l) l c hl).1 hh k l[k] c[k] (List.getElem?_eq_getElem hlt) (List.getElem?_eq_getElem hkc)
        rw [this] at hb; cases hb)
      have HNT := hid hnt
      have HAT := hid hat
      have hnb : nearB f (tot l) l[k] c[k] = (decide (f * l[k] - c[k] * tot l < tot l) && decide (-(f * l[k] - c[k] * tot l) < tot l)) := rfl
      have hbd : Hid (nearB f (tot l) l[k] c[k] = true → 0 ≤ c[k] ∧ c[k] ≤ 64) := hid (near_bounds q.1 q2 hS1)
      have HNB := hid hnb
      clear d0 hki hig hnt hat hN ha hnb q2 x1 x2
      generalize nearB f (tot l) l[k] c[k] = nb at *
      generalize c[k] = y at *
      generalize f * l[k] = z at *
      have i1 : (k : Int) < l.length := by omega
      have i2 : (k : Int) < c.length := by omega
      by_cases hy : y.natAbs < 2 ^ 38
      · obtain ⟨e1, e2, e3⟩ := part_some hy hS1 hS6 q.1 q.2
        have HA : Hid (∀ u, Calls Try.prog 17 #[.complex .f64 0 (Fz z), .float .f64 (floatOfInt .f64 y), .complex .f64 4607182418800017408 (Fz (-tot l))] u (Yields u (.complex .f64 (Fz y) (Fz (z - y * tot l))))) := hid (fun u => after_any e1 e2 u)
        have hge := ge_Fz (a := ((z - y * tot l).natAbs : Int)) (b := tot l) (by omega) (by omega)
        have hab := Fz_abs e3
        have hlt64 := Fz_lt e3
        have HB : Hid (∀ u, Calls Try.prog 21 #[.float .f64 (Fz (z - y * tot l))] u (Yields u (.float .f64 (Fz ((z - y * tot l).natAbs : Int))))) := hid (fun u => by have := abs_any _ hlt64 u; rwa [hab] at this)
        clear e1 e2 hab hlt64
        by_cases hin : nb = true
        · have hyb := hbd.out hin
          have hin2 := HNB.out
          rw [hin] at hin2
          have hin3 := hin2.symm
          simp only [Bool.and_eq_true, decide_eq_true_eq] at hin3
          rw [decide_eq_false (by omega)] at hge
          have hsum := fun t w => run_complex_sum (P := Try.prog) w .add (.inl rfl) t .f64 _ _ _ _ _ _ (sum_Fz (a := a) (b := b) (c := y) (d := z - y * tot l) (by omega) (by omega) (by omega) (by omega))
          have HNT2 : Hid (nearL f (tot l) (l.take (k + 1)) (c.take (k + 1)) = true) := hid (by rw [HNT.out, hin])
          clear hin2 HNT HNB hall hbd hin
          generalize z - y * tot l = t at *
          go_wp2_with (first
            | (go_at_call 17; refine (HA.out _).yields ?_; intro p0)
            | (go_at_call 21; refine (HB.out _).yields ?_; intro p0))
          all_goals
            go_roundw
            case rel => exact ⟨ext_by, k + 1, _, _, by go_num, rfl, by omega, hid HAT.out.symm, by omega, by omega, by omega, by omega, HNT2, hid (hC.out.ext ext_by)⟩
            case measure => simp [intOf]; omega
        · have hin' : nb = false := by simpa using hin
          have hr := hall.out hin'
          have HR : Hid (exactL f l c = false) := hid (by rw [HE.out, hr]; rfl)
          have hin2 := HNB.out
          rw [hin'] at hin2
          have hin3 := hin2.symm
          rw [← Bool.not_eq_true, Bool.and_eq_true, decide_eq_true_eq, decide_eq_true_eq] at hin3
          rw [decide_eq_true (by omega)] at hge
          clear hin2 HNT HNB hall hbd hin hin' hr
          generalize z - y * tot l = t at *
          go_wp2_with (first
            | (go_at_call 17; refine (HA.out _).yields ?_; intro p0)
            | (go_at_call 21; refine (HB.out _).yields ?_; intro p0))
          all_goals
            go_returns
            exact ⟨by simp [HR.out], ext_by⟩
      · have hy2 : y.natAbs < 2 ^ 64 := by unfold wf64 at hwy; omega
        obtain ⟨u, v, r, s, e1, e2, e3, hge⟩ := part_far (by omega) hy2 hS1 hS6 q.1 q.2
        have HA : Hid (∀ w, Calls Try.prog 17 #[.complex .f64 0 (Fz z), .float .f64 (floatOfInt .f64 y), .complex .f64 4607182418800017408 (Fz (-tot l))] w (Yields w (.complex .f64 r s))) := hid (fun w => after_any e1 e2 w)
        have HB : Hid (∀ u, Calls Try.prog 21 #[.float .f64 s] u (Yields u (.float .f64 (s % 2 ^ 63)))) := hid (fun u => abs_any _ e3 u)
        have hin' : nb = false := by
          rw [← Bool.not_eq_true]
          intro hin
          have := hbd.out hin
          omega
        have hr := hall.out hin'
        have HR : Hid (exactL f l c = false) := hid (by rw [HE.out, hr]; rfl)
        clear HNT HNB hall hbd hin' hr e1 e2 e3
        generalize s % 2 ^ 63 = s2 at *
        go_wp2_with (first
          | (go_at_call 17; refine (HA.out _).yields ?_; intro p0)
          | (go_at_call 21; refine (HB.out _).yields ?_; intro p0))
        all_goals
          go_returns
          exact ⟨by simp [HR.out], ext_by⟩
    · obtain rfl : k = l.length := by omega
      have h2 := ha.out
      have h3 := hN.out
      rw [List.take_length, ← hl, List.take_length] at h3
      rw [← hl, List.take_length] at h2
      have HR : Hid (exactL f l c = decide (a = f)) := hid (by rw [HE.out, h3, h2]; rfl)
      have heq := eq_Fz (a := a) (b := f) (by omega) (by omega)
      have hff := floatOfInt_eq (z := f) (by omega)
      clear h2 h3 ha hN
      by_cases haf : a = f
      · rw [decide_eq_true haf] at heq
        have HR2 : Hid (exactL f l c = true) := hid (by rw [HR.out, decide_eq_true haf])
        clear haf
        go_wp2
        go_returns
        exact ⟨by simp [HR2.out], hx⟩
      · rw [decide_eq_false haf] at heq
        have HR2 : Hid (exactL f l c = false) := hid (by rw [HR.out, decide_eq_false haf])
        clear haf
        go_wp2
        go_returns
        exact ⟨by simp [HR2.out], hx⟩
theorem exact_any {f : Int} {l c : List Int} {v vc : Value} {w : World} (h : Ints w v l) (hc : Ints w vc c) (hwf : ∀ y ∈ c, wf64 y) : Calls Try.prog 12 #[.int .i64 f, v, vc] w (Yields w (.bool (exactL f l c))) := by
  cases hm : mayS f l
  · exact exact_no h hc hm
  · by_cases hl : c.length = l.length
    · exact exact_yes h hc hm hl hwf
    · exact exact_len h hc hm hl
theorem exact_to {f : Int} {l c : List Int} {v vc : Value} {w : World} {r : Bool} (h : Ints w v l) (hc : Ints w vc c) (hwf : ∀ y ∈ c, wf64 y) (e : exactL f l c = r) : Calls Try.prog 12 #[.int .i64 f, v, vc] w (Yields w (.bool r)) := e ▸ exact_any h hc hwf
end Go.Proofs.Ytpickmmegaeklaa
