/- Scripts that may be are read from their bytes, and from nothing else; how long these are. No program is named here. -/
import Derived.Test.YtmpgeabfogcblaaGreatMath4
namespace Go.Proofs.YtmpgeabfogcblaaGreat
open Go.RowKit

/-- What memory itself promises of a configuration, and what one cares to look at. -/
structure CnfHeld (c : Cnf) : Prop where
  cats : ∀ d ∈ c.doms, U64 d.cats
  route : ∀ d ∈ c.doms, ∀ r ∈ d.routes, r.length ≤ 300

theorem isConf_parts {c : Cnf} (h : isConf c = 0) : formB c = true ∧ sharesB c = true ∧ c.doms.all quotaB = true ∧ domsB c 0 c.doms = true := by
  unfold isConf at h
  by_cases h1 : formB c = true
  · rw [if_neg (by simp [h1])] at h
    by_cases h2 : sharesB c = true
    · rw [if_neg (by simp [h2])] at h
      by_cases h3 : c.doms.all quotaB = true
      · rw [if_neg (by simp [h3])] at h
        by_cases h4 : domsB c 0 c.doms = true
        · exact ⟨h1, h2, h3, h4⟩
        · rw [if_pos (by simpa using h4)] at h; cases h
      · rw [if_pos (by simpa using h3)] at h; cases h
    · rw [if_pos (by simpa using h2)] at h; cases h
  · rw [if_pos (by simpa using h1)] at h; cases h
theorem domsB_mem {c : Cnf} : ∀ {l : List Dom} {i : Nat}, domsB c i l = true → ∀ d ∈ l, ∃ k, domB c k d = true
  | [], _, _, d, hd => by cases hd
  | x :: l, i, h, d, hd => by
    simp only [domsB, Bool.and_eq_true] at h
    rcases List.mem_cons.mp hd with rfl | hd
    · exact ⟨i, h.1⟩
    · exact domsB_mem h.2 d hd
theorem isConf_in {c : Cnf} (h : isConf c = 0) (hh : CnfHeld c) : CnfIn c := by
  obtain ⟨h1, h2, h3, h4⟩ := isConf_parts h
  simp only [formB, Bool.and_eq_true, withB_iff, List.all_eq_true] at h1
  obtain ⟨⟨⟨hf, he⟩, hn⟩, hl⟩ := h1
  simp only [sharesB, Bool.and_eq_true, withB_iff, List.all_eq_true] at h2
  refine ⟨⟨by omega, hf.2⟩, ⟨by omega, he.2⟩, by omega, fun p hp => ?_, by omega, fun d hd => ?_⟩
  · have := h2.2 p hp
    simp only [planB, Bool.and_eq_true, List.all_eq_true, withB_iff, beq_iff_eq] at this
    exact ⟨this.1.2, fun x hx => this.1.1 x hx⟩
  · have hq := List.all_eq_true.mp h3 d hd
    simp only [quotaB, Bool.and_eq_true, withB_iff] at hq
    obtain ⟨⟨⟨⟨q1, q2⟩, q3⟩, q4⟩, q5⟩ := hq
    have hlev := hl d hd
    simp only [isB, Bool.and_eq_true, decide_eq_true_eq] at hlev
    obtain ⟨k, hk⟩ := domsB_mem h4 d hd
    simp only [domB, Bool.and_eq_true, decide_eq_true_eq, List.all_eq_true] at hk
    obtain ⟨⟨k1, k2⟩, k3⟩ := hk
    have hroute : ∀ r ∈ d.routes, r.length ≤ 300 ∧ ∀ x ∈ r, -1 ≤ x ∧ x ≤ 1048576 := fun r hr => by
      have := k2 r hr
      simp only [routeB, Bool.and_eq_true, List.all_eq_true, withB_iff] at this
      refine ⟨hh.route d hd r hr, fun x hx => ?_⟩
      have := this.1.2 x hx
      omega
    have hgive : (d.release.length ≤ 4 ∧ ∀ x ∈ d.release, -1 ≤ x ∧ x ≤ 1048576) ∧ -1 ≤ d.to ∧ d.to ≤ 6 := by
      unfold giveB at k3
      split at k3
      · rename_i ht
        have hr : d.release = [] := by simpa using k3
        rw [hr]
        refine ⟨⟨by simp, fun x hx => by cases hx⟩, by omega, by omega⟩
      · simp only [Bool.and_eq_true, withB_iff, List.all_eq_true] at k3
        obtain ⟨⟨⟨⟨⟨g1, _⟩, g2⟩, g3⟩, _⟩, _⟩ := k3
        refine ⟨⟨by omega, fun x hx => ?_⟩, by omega, by omega⟩
        have := g3 x hx
        omega
    exact ⟨hlev, hh.cats d hd, k1, hroute, hgive.1, hgive.2, ⟨by omega, q1.2⟩, q2, ⟨by omega, q3.2⟩, q4, ⟨by omega, q5.2⟩⟩

/-! ### Only from these -/

theorem scrOk_iff {l : List UInt8} : scrOk l = true ↔ l.length ≤ 40000 ∧ (scrR ⟨l, 0⟩).2 = ⟨[], 0⟩ ∧ isScr (scrR ⟨l, 0⟩).1 = 0 ∧ allBytes (scrR ⟨l, 0⟩).1 = l := by
  unfold scrOk
  rcases hr : (scrR ⟨l, 0⟩).2 with ⟨s, e⟩
  simp only [Bool.and_eq_true, decide_eq_true_eq, beq_iff_eq, List.isEmpty_iff, Rd.mk.injEq]
  constructor
  · rintro ⟨⟨⟨⟨a, b⟩, c⟩, d⟩, e⟩; exact ⟨a, ⟨c, b⟩, d, e⟩
  · rintro ⟨a, ⟨c, b⟩, d, e⟩; exact ⟨⟨⟨⟨a, b⟩, c⟩, d⟩, e⟩
theorem scr_back {s : Scr} (h : isScr s = 0) (hc : CnfIn s.conf) (t : List UInt8) : scrR ⟨allBytes s ++ t, 0⟩ = (s, ⟨t, 0⟩) := takes_scr h hc t
theorem scr_back' {s : Scr} (h : isScr s = 0) (hc : CnfIn s.conf) : scrR ⟨allBytes s, 0⟩ = (s, ⟨[], 0⟩) := by
  have := takes_scr h hc []
  rwa [List.append_nil] at this
theorem scrOk_bytes {s : Scr} (h : isScr s = 0) (hc : CnfIn s.conf) (hl : (allBytes s).length ≤ 40000) : scrOk (allBytes s) = true := by
  rw [scrOk_iff, scr_back' h hc]
  exact ⟨hl, rfl, h, rfl⟩
theorem scrBytes_ok {s : Scr} (h : isScr s = 0) : scrBytes s = allBytes s := by rw [scrBytes, if_pos h]
theorem scrBytes_bad {s : Scr} (h : isScr s ≠ 0) : scrBytes s = [] := by rw [scrBytes, if_neg h]
/-- More than the bytes is nothing. -/
theorem scrOk_more {s : Scr} (h : isScr s = 0) (hc : CnfIn s.conf) (m : List UInt8) (hm : m ≠ []) : scrOk (allBytes s ++ m) = false := by
  cases hk : scrOk (allBytes s ++ m)
  · rfl
  · have := (scrOk_iff.mp hk).2.1
    rw [scr_back h hc m] at this
    exact absurd (congrArg Rd.s this) hm
/-- Two whose bytes begin alike are the same. -/
theorem scr_prefix {s t : Scr} (hs : isScr s = 0) (cs : CnfIn s.conf) (ht : isScr t = 0) (ct : CnfIn t.conf) {m : List UInt8} (h : allBytes s = allBytes t ++ m) : s = t ∧ m = [] := by
  have e1 := scr_back' hs cs
  rw [h, scr_back ht ct m] at e1
  simp only [Prod.mk.injEq, Rd.mk.injEq, and_true] at e1
  exact ⟨e1.1.symm, e1.2⟩
/-! ### What is read can be held -/

theorem unLe_u64 {l : List UInt8} (h : 8 ≤ l.length) : U64 (unLe (l.take 8) : Int) := by
  have := unLe_lt (l.take 8)
  rw [List.length_take, Nat.min_eq_left h] at this
  constructor
  · omega
  · simp at this; omega
theorem bits_u64 (r : Rd) : U64 r.bits := by
  unfold Rd.bits
  split
  · rename_i h; exact unLe_u64 h.2
  · exact ⟨by omega, by omega⟩
theorem scan_most {most : Int} : ∀ (i n : Nat) (l : List UInt8), 0 ≤ most → (scan most i n l).2.1 ≤ most
  | i, n, [], h => by simpa [scan] using h
  | i, n, c :: t, h => by
    simp only [scan]
    split
    · exact h
    · split
      · split
        · exact h
        · simp only; omega
      · exact scan_most (i + 1) _ t h
theorem num_most (r : Rd) {most : Int} (h : 0 ≤ most) : r.num most ≤ most := by
  unfold Rd.num
  split
  · exact scan_most 0 0 r.s h
  · exact h
theorem readN_mem {α : Type} {f : Rd → α × Rd} {P : α → Prop} (h : ∀ r, P (f r).1) : ∀ (n : Nat) (r : Rd), ∀ x ∈ (readN f n r).1, P x
  | 0, r, x, hx => by cases hx
  | n + 1, r, x, hx => by
    rw [readN] at hx
    split at hx
    · rcases List.mem_cons.mp hx with rfl | hx
      · exact h r
      · exact readN_mem h n _ x hx
    · cases hx
theorem confR_held (r : Rd) : CnfHeld (confR r).1 := by
  refine ⟨?_, ?_⟩
  · exact readN_mem (P := fun d : Dom => U64 d.cats) (fun r => bits_u64 _) _ _
  · refine readN_mem (P := fun d : Dom => ∀ r ∈ d.routes, r.length ≤ 300) (fun r => ?_) _ _
    refine readN_mem (P := fun l : List Int => l.length ≤ 300) (fun r => ?_) _ _
    have h1 := readN_len (numR 1048576) (r.num 300).toNat (r.afterNum 300)
    have h2 := num_most r (most := 300) (by omega)
    show (readN _ _ _).1.length ≤ 300
    omega
theorem scrR_held (r : Rd) : CnfHeld (scrR r).1.conf := confR_held r

/-- What is read is of the bytes alone. -/
theorem scrOk_known {l : List UInt8} (h : scrOk l = true) : isScr (scrR ⟨l, 0⟩).1 = 0 ∧ CnfIn (scrR ⟨l, 0⟩).1.conf ∧ allBytes (scrR ⟨l, 0⟩).1 = l ∧ scrBytes (scrR ⟨l, 0⟩).1 = l := by
  obtain ⟨_, _, h3, h4⟩ := scrOk_iff.mp h
  exact ⟨h3, isConf_in (isScr_parts h3).1 (scrR_held _), h4, by rw [scrBytes_ok h3, h4]⟩
/-- Less than the bytes is nothing. -/
theorem scrOk_less {s : Scr} (h : isScr s = 0) (hc : CnfIn s.conf) {k : Nat} (hk : k < (allBytes s).length) : scrOk ((allBytes s).take k) = false := by
  cases hb : scrOk ((allBytes s).take k)
  · rfl
  · obtain ⟨h1, h2, h3, _⟩ := scrOk_known hb
    have e : allBytes s = allBytes (scrR ⟨(allBytes s).take k, 0⟩).1 ++ (allBytes s).drop k := by rw [h3, List.take_append_drop]
    have := (scr_prefix h hc h1 h2 e).2
    have hl := congrArg List.length this
    simp only [List.length_drop, List.length_nil] at hl
    omega

/-! ### A number is written in one way -/

theorem scan_canon {most : Int} (hm : most ≤ 1048576) : ∀ (l : List UInt8) (i n : Nat), i ≤ 3 → (scan most i n l).1 = 0 →
    ∃ r : Nat, l = encN r ++ l.drop ((scan most i n l).2.2 - i) ∧ (0 < i → 0 < r) ∧ (scan most i n l).2.1 = ((n + r * 128 ^ i : Nat) : Int) - 1 ∧ (n + r * 128 ^ i : Nat) ≤ 1048577 ∧ i < (scan most i n l).2.2
  | [], i, n, _, h => by simp [scan] at h
  | c :: t, i, n, hi, h => by
    have hc := c.toNat_lt
    simp only [scan] at h ⊢
    split at h
    · cases h
    · rename_i h1
      rw [if_neg h1]
      split at h
      · rename_i h2
        rw [if_pos h2]
        split at h
        · cases h
        · rename_i h3
          rw [if_neg h3]
          have hmod : c.toNat % 128 = c.toNat := Nat.mod_eq_of_lt h2
          rw [hmod] at h3 ⊢
          refine ⟨c.toNat, ?_, ?_, rfl, by omega, by simp⟩
          · rw [encN_lt h2, UInt8.ofNat_toNat]
            simp only [show i + 1 - i = 1 from by omega, List.drop_succ_cons, List.drop_zero, List.cons_append, List.nil_append]
          · intro h0
            have : ¬ c.toNat = 0 := fun hz => h1 (Or.inl ⟨h0, hz⟩)
            omega
      · rename_i h2
        rw [if_neg h2]
        have hi3 : i ≠ 3 := fun h3 => h1 (Or.inr ⟨h3, by omega⟩)
        obtain ⟨r, e1, e2, e3, e4, e5⟩ := scan_canon hm t (i + 1) _ (by omega) h
        have hr := e2 (by omega)
        have hp : n + c.toNat % 128 * 128 ^ i + r * 128 ^ (i + 1) = n + (c.toNat % 128 + 128 * r) * 128 ^ i := by
          rw [Nat.pow_succ, Nat.add_mul, Nat.add_assoc, Nat.mul_comm 128 r, Nat.mul_assoc r 128, Nat.mul_comm 128 (128 ^ i)]
        rw [hp] at e3 e4
        refine ⟨c.toNat % 128 + 128 * r, ?_, fun _ => by omega, e3, e4, by omega⟩
        have e6 : encN (c.toNat % 128 + 128 * r) = c :: encN r := by
          rw [encN_ge (by omega), show (c.toNat % 128 + 128 * r) / 128 = r from by omega, show 128 + (c.toNat % 128 + 128 * r) % 128 = c.toNat from by omega, UInt8.ofNat_toNat]
        obtain ⟨k, hk⟩ : ∃ k, (scan most (i + 1) (n + c.toNat % 128 * 128 ^ i) t).2.2 = i + 1 + 1 + k := ⟨_, (Nat.add_sub_cancel' (by omega)).symm⟩
        rw [hk] at e1 ⊢
        rw [show i + 1 + 1 + k - (i + 1) = k + 1 from by omega] at e1
        rw [e6, show i + 1 + 1 + k - i = (k + 1) + 1 from by omega, List.drop_succ_cons, List.cons_append]
        rw [← e1]
theorem num_canon {r : Rd} {most : Int} (hm : most ≤ 1048576) (h : (r.afterNum most).e = 0) : -1 ≤ r.num most ∧ r.num most ≤ 1048576 ∧ r.s = numB (r.num most) ++ (r.afterNum most).s := by
  unfold Rd.afterNum at h
  by_cases he : r.e = 0
  · rw [if_pos he] at h
    by_cases h0 : (scan most 0 0 r.s).1 = 0
    · obtain ⟨k, e1, _, e3, e4, _⟩ := scan_canon hm r.s 0 0 (by omega) h0
      simp only [Nat.zero_add, Nat.pow_zero, Nat.mul_one, Nat.sub_zero] at e1 e3 e4
      have hk : heldN ((k : Int) - 1) = k := by
        have := heldN_in (n := (k : Int) - 1) (by omega) (by omega)
        omega
      simp only [Rd.num, Rd.afterNum, if_pos he, if_pos h0, e3, numB, hk]
      exact ⟨by omega, by omega, e1⟩
    · rw [if_neg h0] at h
      exact absurd h h0
  · rw [if_neg he] at h
    exact absurd h he
end Go.Proofs.YtmpgeabfogcblaaGreat
