/- Quanta evenly over a frame, as data, further: how many slots are one's own, the gaps between them; equal counts go by turns. No program is named here. -/
import Derived.Test.YtfjhcmpcnnjodaaSpM
namespace Go.Proofs.Ytfjhcmpcnnjodaa
open Go.RowKit

/-- How many of the first k are d. -/
def cntTo (s : List Int) (d : Int) : Nat → Int
  | 0 => 0
  | k + 1 => cntTo s d k + if at0 s k = d then 1 else 0
/-- Which of the first k are d. -/
def posTo (s : List Int) (d : Int) : Nat → List Int
  | 0 => []
  | k + 1 => if at0 s k = d then posTo s d k ++ [(k : Int)] else posTo s d k
theorem posTo_length (s : List Int) (d : Int) : ∀ k, ((posTo s d k).length : Int) = cntTo s d k
  | 0 => rfl
  | k + 1 => by
    have := posTo_length s d k
    simp only [posTo, cntTo]
    split <;> simp <;> omega
theorem posTo_le (s : List Int) (d : Int) : ∀ k, (posTo s d k).length ≤ k
  | 0 => by simp [posTo]
  | k + 1 => by
    have := posTo_le s d k
    simp only [posTo]
    split
    · simp; omega
    · omega
theorem min_if (a g : Int) : min a g = if g < a then g else a := by split <;> omega
theorem max_if (b g : Int) : max b g = if b < g then g else b := by split <;> omega
/-- The way from the i-th to the next one, round n. -/
def gapAt (P : List Int) (n : Int) (i : Nat) : Int :=
  if at0 P ((i + 1) % P.length) - at0 P i ≤ 0 then at0 P ((i + 1) % P.length) - at0 P i + n else at0 P ((i + 1) % P.length) - at0 P i
def gapTo (P : List Int) (n : Int) : Nat → Int × Int
  | 0 => (n + 1, 0)
  | k + 1 => (min (gapTo P n k).1 (gapAt P n k), max (gapTo P n k).2 (gapAt P n k))
def gapL (s : List Int) (d : Int) : Int × Int :=
  if (posTo s d s.length).length = 0 ∨ 64 < s.length then (0, 0) else gapTo (posTo s d s.length) s.length (posTo s d s.length).length

theorem at0_snoc_lt {P : List Int} {x : Int} {i : Nat} (h : i < P.length) : at0 (P ++ [x]) i = at0 P i := by
  simp only [List.getD_eq_getElem?_getD, List.getElem?_append_left h]
theorem at0_snoc {P : List Int} {x : Int} : at0 (P ++ [x]) P.length = x := by simp [List.getD_eq_getElem?_getD]
/-- They lie from 0 to k, one behind the other. -/
theorem posTo_inc (s : List Int) (d : Int) : ∀ k, (∀ i, i < (posTo s d k).length → 0 ≤ at0 (posTo s d k) i ∧ at0 (posTo s d k) i < k) ∧ ∀ i j, i < j → j < (posTo s d k).length → at0 (posTo s d k) i < at0 (posTo s d k) j
  | 0 => ⟨fun i h => by simp [posTo] at h, fun i j _ h => by simp [posTo] at h⟩
  | k + 1 => by
    obtain ⟨h1, h2⟩ := posTo_inc s d k
    simp only [posTo]
    split
    · constructor
      · intro i hi
        rw [List.length_append] at hi
        simp only [List.length_cons, List.length_nil] at hi
        by_cases e : i < (posTo s d k).length
        · rw [at0_snoc_lt e]; have := h1 i e; omega
        · obtain rfl : i = (posTo s d k).length := by omega
          rw [at0_snoc]; omega
      · intro i j hij hj
        rw [List.length_append] at hj
        simp only [List.length_cons, List.length_nil] at hj
        rw [at0_snoc_lt (by omega)]
        by_cases e : j < (posTo s d k).length
        · rw [at0_snoc_lt e]; exact h2 i j hij e
        · obtain rfl : j = (posTo s d k).length := by omega
          rw [at0_snoc]
          have := (h1 i (by omega)).2
          omega
    · exact ⟨fun i hi => by have := h1 i hi; omega, h2⟩

/-- Rows that lie one behind the other, below n. -/
structure Inc (P : List Int) (n : Int) : Prop where
  lo : ∀ i, i < P.length → 0 ≤ at0 P i
  hi : ∀ i, i < P.length → at0 P i < n
  lt : ∀ i j, i < j → j < P.length → at0 P i < at0 P j
theorem gapAt_mid {P : List Int} {n : Int} (h : Inc P n) {i : Nat} (hi : i + 1 < P.length) : gapAt P n i = at0 P (i + 1) - at0 P i ∧ 1 ≤ gapAt P n i ∧ gapAt P n i ≤ n := by
  have h1 := h.lt i (i + 1) (by omega) hi
  have h2 := h.lo i (by omega)
  have h3 := h.hi (i + 1) hi
  unfold gapAt
  rw [Nat.mod_eq_of_lt hi, if_neg (by omega)]
  omega
theorem gapAt_last {P : List Int} {n : Int} (h : Inc P n) {i : Nat} (hi : i + 1 = P.length) : gapAt P n i = at0 P 0 - at0 P i + n ∧ 1 ≤ gapAt P n i ∧ gapAt P n i ≤ n := by
  have h0 : at0 P 0 ≤ at0 P i := by
    by_cases e : i = 0
    · subst e; exact Int.le_refl _
    · exact Int.le_of_lt (h.lt 0 i (by omega) (by omega))
  have h1 := h.lo 0 (by omega)
  have h2 := h.hi i (by omega)
  unfold gapAt
  rw [hi, Nat.mod_self, if_pos (by omega)]
  omega
theorem gapAt_bounds {P : List Int} {n : Int} (h : Inc P n) {i : Nat} (hi : i < P.length) : 1 ≤ gapAt P n i ∧ gapAt P n i ≤ n := by
  by_cases e : i + 1 < P.length
  · exact (gapAt_mid h e).2
  · exact (gapAt_last h (by omega)).2
/-- All gaps together. -/
def sumTo (P : List Int) (n : Int) : Nat → Int
  | 0 => 0
  | k + 1 => sumTo P n k + gapAt P n k
theorem sumTo_mid {P : List Int} {n : Int} (h : Inc P n) : ∀ k, k < P.length → sumTo P n k = at0 P k - at0 P 0
  | 0, _ => by simp [sumTo]
  | k + 1, hk => by
    have := sumTo_mid h k (by omega)
    have := (gapAt_mid h hk).1
    simp only [sumTo]; omega
theorem sumTo_all {P : List Int} {n : Int} (h : Inc P n) (h0 : 0 < P.length) : sumTo P n P.length = n := by
  obtain ⟨k, hk⟩ : ∃ k, P.length = k + 1 := ⟨P.length - 1, by omega⟩
  have h1 := sumTo_mid h k (by omega)
  have h2 := (gapAt_last h (i := k) (by omega)).1
  rw [hk]; simp only [sumTo]; omega
theorem gapTo_bounds {P : List Int} {n : Int} (h : Inc P n) (hn : 0 ≤ n) : ∀ k, k ≤ P.length → 1 ≤ (gapTo P n k).1 ∧ (gapTo P n k).2 ≤ n ∧ (gapTo P n k).1 * k ≤ sumTo P n k ∧ sumTo P n k ≤ (gapTo P n k).2 * k ∧ 0 ≤ (gapTo P n k).2
  | 0, _ => by simp only [gapTo, sumTo]; omega
  | k + 1, hk => by
    obtain ⟨h1, h2, h3, h4, h5⟩ := gapTo_bounds h hn k (by omega)
    have hb := gapAt_bounds h (i := k) (by omega)
    simp only [gapTo, sumTo]
    have m1 : min (gapTo P n k).1 (gapAt P n k) ≤ (gapTo P n k).1 := Int.min_le_left _ _
    have m2 : min (gapTo P n k).1 (gapAt P n k) ≤ gapAt P n k := Int.min_le_right _ _
    have m3 : (gapTo P n k).2 ≤ max (gapTo P n k).2 (gapAt P n k) := Int.le_max_left _ _
    have m4 : gapAt P n k ≤ max (gapTo P n k).2 (gapAt P n k) := Int.le_max_right _ _
    have x1 : min (gapTo P n k).1 (gapAt P n k) * k ≤ (gapTo P n k).1 * k := Int.mul_le_mul_of_nonneg_right m1 (by omega)
    have x2 : (gapTo P n k).2 * k ≤ max (gapTo P n k).2 (gapAt P n k) * k := Int.mul_le_mul_of_nonneg_right m3 (by omega)
    rw [show ((k + 1 : Nat) : Int) = k + 1 by omega, Int.mul_add, Int.mul_add, Int.mul_one, Int.mul_one]
    refine ⟨?_, ?_, by omega, by omega, by omega⟩
    · rw [Int.le_min]; exact ⟨h1, hb.1⟩
    · rw [Int.max_le]; exact ⟨h2, hb.2⟩
theorem posTo_Inc (s : List Int) (d : Int) : Inc (posTo s d s.length) s.length := ⟨fun i hi => ((posTo_inc s d s.length).1 i hi).1, fun i hi => ((posTo_inc s d s.length).1 i hi).2, (posTo_inc s d s.length).2⟩
/-- The gaps of a domain, by bounds. -/
theorem gapL_bounds {s : List Int} {d : Int} (h64 : s.length ≤ 64) {m : Int} (hm : cntTo s d s.length = m) (h0 : 0 < m) :
    1 ≤ (gapL s d).1 ∧ (gapL s d).2 ≤ s.length ∧ (gapL s d).1 * m ≤ s.length ∧ s.length ≤ (gapL s d).2 * m ∧ (m = 1 → (gapL s d).1 = s.length) := by
  have hl := posTo_length s d s.length
  have hI := posTo_Inc s d
  have hp : 0 < (posTo s d s.length).length := by omega
  have hb := gapTo_bounds hI (by omega) _ (Nat.le_refl _)
  have hs := sumTo_all hI hp
  unfold gapL
  rw [if_neg (by omega)]
  rw [hs, hl, hm] at hb
  refine ⟨hb.1, hb.2.1, hb.2.2.1, hb.2.2.2.1, fun h1 => ?_⟩
  have hl1 : (posTo s d s.length).length = 1 := by omega
  have hg := (gapAt_last hI (i := 0) (by omega)).1
  rw [hl1]
  simp only [gapTo, hg]
  omega
theorem gapL_none {s : List Int} {d : Int} (hm : cntTo s d s.length = 0) : gapL s d = (0, 0) := by
  have hl := posTo_length s d s.length
  unfold gapL
  rw [if_pos (.inl (by omega))]

variable {c : List Int}
theorem at0_slots (t : Nat) (ht : t < (slotsL c).length) : at0 (slotsL c) t = slotAt c t := by rw [at0_get ht, slotsL_get ht]
/-- How many of the first t are d: what d has had. -/
theorem cnt_slots (h : MayC c) {d : Nat} (hd : d < c.length) : ∀ t : Nat, (t : Int) ≤ tot c → cntTo (slotsL c) d t = at0 (gAt c t) d
  | 0, _ => by
    have hI := GInv.start h
    have h0 := hI.lo d
    simp only [cntTo, gAt, List.getD_eq_getElem?_getD, List.getElem?_replicate]
    rw [if_pos hd]; rfl
  | t + 1, ht => by
    obtain ⟨b, e1, e2, -, hb, e3⟩ := slot_best h (t := t) (by omega)
    have hI := gInv h t (by omega)
    have hbl : b < (gAt c t).length := by rw [hI.len]; exact e2
    have hl := slotsL_length h
    rw [cntTo, cnt_slots h hd t (by omega), at0_slots t (by omega), e1, e3, put1_at hbl]
    by_cases e : d = b
    · subst e; rw [if_pos rfl, if_pos rfl]
    · rw [if_neg (by omega), if_neg e]; omega
theorem cnt_all (h : MayC c) {d : Nat} (hd : d < c.length) : cntTo (slotsL c) d (slotsL c).length = at0 c d := by
  have hl := slotsL_length h
  have h1 := h.t1
  have e : (slotsL c).length = (tot c).toNat := by omega
  rw [cnt_slots h hd _ (by omega), e, gAt_end h]

/-- The first t slots. -/
def slotsTo (c : List Int) (t : Nat) : List Int := (List.range t).map (slotAt c)
theorem slotsTo_length (c : List Int) (t : Nat) : (slotsTo c t).length = t := by simp [slotsTo]
theorem slotsTo_succ (c : List Int) (t : Nat) : slotsTo c (t + 1) = slotsTo c t ++ [slotAt c t] := by unfold slotsTo; rw [List.range_succ, List.map_append]; rfl
/-- One more slot laid into a row of noughts. -/
theorem slotsTo_set {c : List Int} {F t : Nat} (h : t < F) : (slotsTo c t ++ List.replicate (F - t) 0).set t (slotAt c t) = slotsTo c (t + 1) ++ List.replicate (F - (t + 1)) 0 := by
  obtain ⟨m, hm⟩ : ∃ m, F - t = m + 1 := ⟨F - t - 1, by omega⟩
  rw [List.set_append_right t _ (by rw [slotsTo_length]; omega), slotsTo_length, Nat.sub_self, hm, List.replicate_succ, List.set_cons_zero, slotsTo_succ, List.append_assoc, show F - (t + 1) = m by omega]
  rfl

/-! Equal counts. -/
theorem rep_at0 {k : Nat} {j : Int} {i : Nat} (h : i < k) : at0 (List.replicate k j) i = j := by
  simp only [List.getD_eq_getElem?_getD, List.getElem?_replicate]
  rw [if_pos h]; rfl
theorem tot_rep (j : Int) : ∀ k : Nat, tot (List.replicate k j) = k * j
  | 0 => by simp [tot]
  | k + 1 => by rw [List.replicate_succ, tot, tot_rep j k, show ((k + 1 : Nat) : Int) = k + 1 by omega, Int.add_mul]; omega
theorem rep_may {k : Nat} {j : Int} (h1 : 1 ≤ k) (h2 : k ≤ 6) (h3 : 1 ≤ j) (h4 : j ≤ 10) : MayC (List.replicate k j) := by
  have ht := tot_rep j k
  have b1 : (k : Int) * 1 ≤ k * j := Int.mul_le_mul_of_nonneg_left h3 (by omega)
  have b2 : (k : Int) * j ≤ 6 * j := Int.mul_le_mul_of_nonneg_right (by omega) (by omega)
  exact ⟨by simp; omega, by simp; omega, fun x hx => by rw [List.eq_of_mem_replicate hx]; omega, fun x hx => by rw [List.eq_of_mem_replicate hx]; omega, by omega, by omega⟩
theorem div_next {t k : Nat} (hk : 0 < k) : (t % k + 1 < k ∧ (t + 1) / k = t / k ∧ (t + 1) % k = t % k + 1) ∨ (t % k + 1 = k ∧ (t + 1) / k = t / k + 1 ∧ (t + 1) % k = 0) := by
  have h1 := Nat.div_add_mod t k
  have h2 := Nat.mod_lt t hk
  by_cases e : t % k + 1 < k
  · refine .inl ⟨e, ?_, ?_⟩
    · rw [show t + 1 = (t % k + 1) + k * (t / k) by omega, Nat.add_mul_div_left _ _ hk, Nat.div_eq_of_lt e]; omega
    · rw [show t + 1 = (t % k + 1) + k * (t / k) by omega, Nat.add_mul_mod_self_left, Nat.mod_eq_of_lt e]
  · refine .inr ⟨by omega, ?_, ?_⟩
    · rw [show t + 1 = k * (t / k + 1) by rw [Nat.mul_add]; omega, Nat.mul_div_cancel_left _ hk]
    · rw [show t + 1 = k * (t / k + 1) by rw [Nat.mul_add]; omega, Nat.mul_mod_right]
theorem rep_turn {k : Nat} {j : Int} (hM : MayC (List.replicate k j)) (h1 : 1 ≤ k) (h3 : 1 ≤ j) : ∀ t : Nat, (t : Int) < k * j → (∀ d, d < k → at0 (gAt (List.replicate k j) t) d = (t / k : Nat) + if d < t % k then 1 else 0) → slotAt (List.replicate k j) t = (t % k : Nat) ∧ ∀ d, d < k → at0 (gAt (List.replicate k j) (t + 1)) d = ((t + 1) / k : Nat) + if d < (t + 1) % k then 1 else 0 := by
  intro t ht hg
  have hb := Nat.mod_lt t (show 0 < k by omega)
  have hI := gInv hM t (by rw [tot_rep]; omega)
  have hr : ((t / k : Nat) : Int) < j := by
    have hda := Nat.div_add_mod t k
    apply Decidable.byContradiction
    intro hn
    have : (k : Int) * j ≤ k * (t / k : Nat) := Int.mul_le_mul_of_nonneg_left (by omega) (by omega)
    have e : ((k * (t / k) : Nat) : Int) = (k : Int) * (t / k : Nat) := Int.natCast_mul _ _
    omega
  have hlen : (List.replicate k j).length = k := by simp
  have hbest : IsBest (gAt (List.replicate k j) t) (List.replicate k j) (List.replicate k j).length (t % k) := by
    refine ⟨by rw [hlen]; exact hb, ?_, ?_, ?_⟩
    · rw [hg _ hb, if_neg (by omega), rep_at0 hb]; omega
    · intro i hi _
      rw [hlen] at hi
      rw [hg _ hb, hg i hi, if_neg (by omega), rep_at0 hb, rep_at0 hi]
      exact Int.mul_le_mul_of_nonneg_right (by split <;> omega) (by omega)
    · intro i hi _
      rw [hg _ hb, hg i (by omega), if_neg (by omega), if_pos hi, rep_at0 hb, rep_at0 (by omega)]
      exact Int.mul_lt_mul_of_pos_right (by omega) (by omega)
  have he := best_of hI.lo hbest
  have hs : gAt (List.replicate k j) (t + 1) = put1 (gAt (List.replicate k j) t) (t % k) := by simp only [gAt, he]
  refine ⟨by simp only [slotAt, he], fun d hd => ?_⟩
  have gb : at0 (gAt (List.replicate k j) t) (t % k) = (t / k : Nat) := by rw [hg _ hb, if_neg (Nat.lt_irrefl _)]; omega
  rw [hs, put1_at (by rw [hI.len, hlen]; exact hb), gb, hg d hd]
  generalize at0 (gAt (List.replicate k j) t) = G at *
  rcases div_next (t := t) (k := k) (by omega) with ⟨e1, e2, e3⟩ | ⟨e1, e2, e3⟩
  · rw [e2, e3]
    by_cases e : d = t % k
    · rw [if_pos e, if_pos (by omega)]
    · rw [if_neg e]
      by_cases e4 : d < t % k
      · rw [if_pos e4, if_pos (by omega)]
      · rw [if_neg e4, if_neg (by omega)]
  · rw [e2, e3]
    by_cases e : d = t % k
    · rw [if_pos e, if_neg (by omega)]; omega
    · rw [if_neg e, if_pos (by omega), if_neg (by omega)]; omega
theorem rep_slot {k : Nat} {j : Int} (hM : MayC (List.replicate k j)) (h1 : 1 ≤ k) (h3 : 1 ≤ j) : ∀ t : Nat, (t : Int) ≤ k * j → ∀ d, d < k → at0 (gAt (List.replicate k j) t) d = (t / k : Nat) + if d < t % k then 1 else 0
  | 0, _, d, hd => by
    rw [Nat.zero_div, Nat.zero_mod, if_neg (Nat.not_lt_zero d)]
    simp only [gAt, List.getD_eq_getElem?_getD, List.getElem?_replicate, List.length_replicate]
    rw [if_pos hd]; rfl
  | t + 1, ht, d, hd => (rep_turn hM h1 h3 t (by omega) (rep_slot hM h1 h3 t (by omega))).2 d hd
theorem rep_slots {k : Nat} {j : Int} (hM : MayC (List.replicate k j)) (h1 : 1 ≤ k) (h3 : 1 ≤ j) {t : Nat} (ht : t < (slotsL (List.replicate k j)).length) : (slotsL (List.replicate k j))[t] = (t % k : Nat) := by
  have hl := slotsL_length hM
  rw [tot_rep] at hl
  rw [slotsL_get ht]
  exact (rep_turn hM h1 h3 t (by omega) (rep_slot hM h1 h3 t (by omega))).1
def mulL (k q : Nat) : List Int := (List.range q).map fun i => ((i * k : Nat) : Int)
theorem mulL_length (k q : Nat) : (mulL k q).length = q := by simp [mulL]
theorem mulL_at (k : Nat) {q i : Nat} (h : i < q) : at0 (mulL k q) i = ((i * k : Nat) : Int) := by rw [at0_get (by rw [mulL_length]; exact h)]; simp [mulL]
theorem pos_turn {s : List Int} {k : Nat} (hk : 1 ≤ k) (hs : ∀ t, t < s.length → at0 s t = ((t % k : Nat) : Int)) : ∀ m, m ≤ s.length → posTo s 0 m = mulL k ((m + (k - 1)) / k)
  | 0, _ => by rw [posTo, Nat.zero_add, Nat.div_eq_of_lt (by omega)]; rfl
  | m + 1, hm => by
    have ih := pos_turn hk hs m (by omega)
    have hda := Nat.div_add_mod m k
    have hlt := Nat.mod_lt m (show 0 < k by omega)
    rw [posTo, hs m (by omega), ih]
    by_cases e : m % k = 0
    · rw [if_pos (by omega)]
      have e1 : (m + (k - 1)) / k = m / k := by
        rw [show m + (k - 1) = (k - 1) + k * (m / k) by omega, Nat.add_mul_div_left _ _ (by omega), Nat.div_eq_of_lt (by omega)]; omega
      have e2 : (m + 1 + (k - 1)) / k = m / k + 1 := by
        rw [show m + 1 + (k - 1) = k * (m / k + 1) by rw [Nat.mul_add]; omega, Nat.mul_div_cancel_left _ (by omega)]
      rw [e1, e2]
      unfold mulL
      rw [List.range_succ, List.map_append]
      simp only [List.map_cons, List.map_nil]
      rw [show m / k * k = m by rw [Nat.mul_comm]; omega]
    · rw [if_neg (by omega)]
      have e1 : (m + (k - 1)) / k = m / k + 1 := by
        rw [show m + (k - 1) = (m % k - 1) + k * (m / k + 1) by rw [Nat.mul_add]; omega, Nat.add_mul_div_left _ _ (by omega), Nat.div_eq_of_lt (by omega)]; omega
      have e2 : (m + 1 + (k - 1)) / k = m / k + 1 := by
        rw [show m + 1 + (k - 1) = (m % k) + k * (m / k + 1) by rw [Nat.mul_add]; omega, Nat.add_mul_div_left _ _ (by omega), Nat.div_eq_of_lt (by omega)]; omega
      rw [e1, e2]
theorem gap_turn {k j : Nat} (hk : 1 ≤ k) (hj : 1 ≤ j) {i : Nat} (hi : i < j) : gapAt (mulL k j) ((k * j : Nat) : Int) i = k := by
  unfold gapAt
  rw [mulL_length, mulL_at k hi]
  have hkj : i * k + k = (i + 1) * k := by rw [Nat.add_mul]; omega
  by_cases e : i + 1 < j
  · rw [Nat.mod_eq_of_lt e, mulL_at k e]
    rw [if_neg (by omega)]; omega
  · obtain rfl : j = i + 1 := by omega
    rw [Nat.mod_self, mulL_at k (by omega)]
    have : k * (i + 1) = (i + 1) * k := Nat.mul_comm _ _
    rw [if_pos (by omega)]; omega
theorem gapTo_turn {k j : Nat} (hk : 1 ≤ k) (hj : 1 ≤ j) : ∀ m, m < j → gapTo (mulL k j) ((k * j : Nat) : Int) (m + 1) = ((k : Int), (k : Int))
  | 0, hm => by
    have hkj : k * 1 ≤ k * j := Nat.mul_le_mul_left _ hj
    simp only [gapTo, gap_turn hk hj hm]
    congr 1 <;> omega
  | m + 1, hm => by
    have ih := gapTo_turn hk hj m (by omega)
    have e : gapTo (mulL k j) ((k * j : Nat) : Int) (m + 1 + 1) = (min (gapTo (mulL k j) ((k * j : Nat) : Int) (m + 1)).1 (gapAt (mulL k j) ((k * j : Nat) : Int) (m + 1)), max (gapTo (mulL k j) ((k * j : Nat) : Int) (m + 1)).2 (gapAt (mulL k j) ((k * j : Nat) : Int) (m + 1))) := rfl
    rw [e, ih, gap_turn hk hj hm]
    simp
/-- Equal counts: each way from one's slot to the next is as long as there are domains. -/
theorem rep_gap {k j : Nat} (h1 : 1 ≤ k) (h2 : k ≤ 6) (h3 : 1 ≤ j) (h4 : j ≤ 10) : gapL (slotsL (List.replicate k (j : Int))) 0 = ((k : Int), (k : Int)) := by
  have hM := rep_may h1 h2 (show 1 ≤ (j : Int) by omega) (by omega)
  have hl := slotsL_length hM
  rw [tot_rep] at hl
  have hln : (slotsL (List.replicate k (j : Int))).length = k * j := by
    have : ((k * j : Nat) : Int) = (k : Int) * j := Int.natCast_mul _ _
    omega
  have hs : ∀ t, t < (slotsL (List.replicate k (j : Int))).length → at0 (slotsL (List.replicate k (j : Int))) t = ((t % k : Nat) : Int) := fun t ht => by
    rw [at0_get ht]; exact rep_slots hM h1 (by omega) ht
  have hp := pos_turn h1 hs _ (Nat.le_refl _)
  have hkj6 : k * j ≤ 6 * j := Nat.mul_le_mul_right _ h2
  rw [hln] at hp
  have e1 : (k * j + (k - 1)) / k = j := by
    rw [show k * j + (k - 1) = (k - 1) + k * j by omega, Nat.add_mul_div_left _ _ (by omega), Nat.div_eq_of_lt (by omega)]; omega
  rw [e1] at hp
  unfold gapL
  rw [hln, hp, mulL_length, if_neg (by omega)]
  obtain ⟨j', rfl⟩ : ∃ j', j = j' + 1 := ⟨j - 1, by omega⟩
  exact gapTo_turn h1 h3 j' (by omega)
end Go.Proofs.Ytfjhcmpcnnjodaa
