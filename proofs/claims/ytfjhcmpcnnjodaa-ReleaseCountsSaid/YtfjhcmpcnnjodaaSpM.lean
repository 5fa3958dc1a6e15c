/- Quanta evenly over a frame, as data: who is next, how many each has had, where the slots of one lie. No program is named here. -/
import Derived.WalkKit
import Derived.Test.YtfjhcmpcnnjodaaLib
import Derived.Test.YtfjhcmpcnnjodaaShM
namespace Go.Proofs.Ytfjhcmpcnnjodaa
open Go.RowKit

/-! Parts x1/c1, x2/c2 compared crosswise. -/
theorem cross_le {x1 c1 x2 c2 x3 c3 : Int} (h1 : 0 < c1) (h2 : 0 < c2) (h3 : 0 < c3) (a : x1 * c2 ≤ x2 * c1) (b : x2 * c3 ≤ x3 * c2) : x1 * c3 ≤ x3 * c1 := by
  have a' : x1 * c2 * c3 ≤ x2 * c1 * c3 := Int.mul_le_mul_of_nonneg_right a (by omega)
  have b' : x2 * c3 * c1 ≤ x3 * c2 * c1 := Int.mul_le_mul_of_nonneg_right b (by omega)
  have e1 : x1 * c2 * c3 = c2 * (x1 * c3) := by rw [Int.mul_comm x1 c2, Int.mul_assoc]
  have e2 : x2 * c1 * c3 = x2 * c3 * c1 := by rw [Int.mul_assoc, Int.mul_comm c1 c3, ← Int.mul_assoc]
  have e3 : x3 * c2 * c1 = c2 * (x3 * c1) := by rw [Int.mul_comm x3 c2, Int.mul_assoc]
  exact Int.le_of_mul_le_mul_left (by omega) h2
theorem cross_lt {x1 c1 x2 c2 x3 c3 : Int} (h1 : 0 < c1) (h2 : 0 < c2) (h3 : 0 < c3) (a : x1 * c2 < x2 * c1) (b : x2 * c3 ≤ x3 * c2) : x1 * c3 < x3 * c1 := by
  have a' : x1 * c2 * c3 < x2 * c1 * c3 := Int.mul_lt_mul_of_pos_right a h3
  have b' : x2 * c3 * c1 ≤ x3 * c2 * c1 := Int.mul_le_mul_of_nonneg_right b (by omega)
  have e1 : x1 * c2 * c3 = c2 * (x1 * c3) := by rw [Int.mul_comm x1 c2, Int.mul_assoc]
  have e2 : x2 * c1 * c3 = x2 * c3 * c1 := by rw [Int.mul_assoc, Int.mul_comm c1 c3, ← Int.mul_assoc]
  have e3 : x3 * c2 * c1 = c2 * (x3 * c1) := by rw [Int.mul_comm x3 c2, Int.mul_assoc]
  exact Int.lt_of_mul_lt_mul_left (by omega : c2 * (x1 * c3) < c2 * (x3 * c1)) (by omega)
theorem cross_lt' {x1 c1 x2 c2 x3 c3 : Int} (h1 : 0 < c1) (h2 : 0 < c2) (h3 : 0 < c3) (a : x1 * c2 ≤ x2 * c1) (b : x2 * c3 < x3 * c2) : x1 * c3 < x3 * c1 := by
  have a' : x1 * c2 * c3 ≤ x2 * c1 * c3 := Int.mul_le_mul_of_nonneg_right a (by omega)
  have b' : x2 * c3 * c1 < x3 * c2 * c1 := Int.mul_lt_mul_of_pos_right b h1
  have e1 : x1 * c2 * c3 = c2 * (x1 * c3) := by rw [Int.mul_comm x1 c2, Int.mul_assoc]
  have e2 : x2 * c1 * c3 = x2 * c3 * c1 := by rw [Int.mul_assoc, Int.mul_comm c1 c3, ← Int.mul_assoc]
  have e3 : x3 * c2 * c1 = c2 * (x3 * c1) := by rw [Int.mul_comm x3 c2, Int.mul_assoc]
  exact Int.lt_of_mul_lt_mul_left (by omega : c2 * (x1 * c3) < c2 * (x3 * c1)) (by omega)

/-- The i-th of a row, 0 behind it. -/
abbrev at0 (l : List Int) (i : Nat) : Int := l.getD i 0
/-- Who of the first k is next: whose next quantum wants to be first; none where all have theirs. -/
def bestTo (g c : List Int) : Nat → Option Nat
  | 0 => none
  | k + 1 => if at0 c k ≤ at0 g k then bestTo g c k else
    match bestTo g c k with
    | none => some k
    | some b => if (2 * at0 g k + 1) * at0 c b < (2 * at0 g b + 1) * at0 c k then some k else some b
def best (g c : List Int) : Option Nat := bestTo g c c.length
/-- What that means. -/
structure IsBest (g c : List Int) (k b : Nat) : Prop where
  lt : b < k
  has : at0 g b < at0 c b
  le : ∀ j, j < k → at0 g j < at0 c j → (2 * at0 g b + 1) * at0 c j ≤ (2 * at0 g j + 1) * at0 c b
  first : ∀ j, j < b → at0 g j < at0 c j → (2 * at0 g b + 1) * at0 c j < (2 * at0 g j + 1) * at0 c b
theorem bestTo_none (g c : List Int) : ∀ k, bestTo g c k = none → ∀ j, j < k → at0 c j ≤ at0 g j
  | 0, _, j, h => by omega
  | k + 1, h, j, hj => by
    simp only [bestTo] at h
    split at h
    · rename_i h1
      by_cases e : j = k
      · subst e; exact h1
      · exact bestTo_none g c k h j (by omega)
    · split at h
      · cases h
      · split at h <;> cases h
theorem bestTo_some (g c : List Int) (hg : ∀ j, 0 ≤ at0 g j) : ∀ k b, bestTo g c k = some b → IsBest g c k b
  | 0, b, h => by cases h
  | k + 1, b, h => by
    simp only [bestTo] at h
    split at h
    · rename_i h1
      have ih := bestTo_some g c hg k b h
      refine ⟨by have := ih.lt; omega, ih.has, fun j hj hh => ?_, ih.first⟩
      by_cases e : j = k
      · subst e; omega
      · exact ih.le j (by omega) hh
    · rename_i h1
      split at h
      · rename_i h2
        obtain rfl := Option.some.inj h
        have hn := bestTo_none g c k h2
        refine ⟨by omega, by omega, fun j hj hh => ?_, fun j hj hh => ?_⟩
        · by_cases e : j = k
          · subst e; exact Int.le_refl _
          · have := hn j (by omega); omega
        · have := hn j hj; omega
      · rename_i b' h2
        have ih := bestTo_some g c hg k b' h2
        have cb : 0 < at0 c b' := by have := hg b'; have := ih.has; omega
        have ck : 0 < at0 c k := by have := hg k; omega
        split at h
        · rename_i h3
          obtain rfl := Option.some.inj h
          refine ⟨by omega, by omega, fun j hj hh => ?_, fun j hj hh => ?_⟩
          · by_cases e : j = k
            · subst e; exact Int.le_refl _
            · have cj : 0 < at0 c j := by have := hg j; omega
              exact Int.le_of_lt (cross_lt ck cb cj h3 (ih.le j (by omega) hh))
          · have cj : 0 < at0 c j := by have := hg j; omega
            exact cross_lt ck cb cj h3 (ih.le j hj hh)
        · rename_i h3
          obtain rfl := Option.some.inj h
          refine ⟨by have := ih.lt; omega, ih.has, fun j hj hh => ?_, ih.first⟩
          by_cases e : j = k
          · subst e; omega
          · exact ih.le j (by omega) hh
/-- There is one such. -/
theorem IsBest.uniq {g c : List Int} {k a b : Nat} (ha : IsBest g c k a) (hb : IsBest g c k b) : a = b := by
  rcases Nat.lt_trichotomy a b with h | h | h
  · have h1 := hb.first a h ha.has
    have h2 := ha.le b hb.lt hb.has
    omega
  · exact h
  · have h1 := ha.first b h hb.has
    have h2 := hb.le a ha.lt ha.has
    omega
theorem best_of {g c : List Int} (hg : ∀ j, 0 ≤ at0 g j) {b : Nat} (h : IsBest g c c.length b) : best g c = some b := by
  cases e : best g c with
  | none => have := bestTo_none g c _ e b h.lt; have := h.has; omega
  | some a => rw [(bestTo_some g c hg _ a e).uniq h]

/-! How many each has had ahead of slot t; whose slot t is. -/
def put1 (g : List Int) (b : Nat) : List Int := g.set b (at0 g b + 1)
def gAt (c : List Int) : Nat → List Int
  | 0 => List.replicate c.length 0
  | t + 1 => match best (gAt c t) c with
    | none => gAt c t
    | some b => put1 (gAt c t) b
def slotAt (c : List Int) (t : Nat) : Int := match best (gAt c t) c with
  | none => 0
  | some b => b
def slotsL (c : List Int) : List Int := (List.range (tot c).toNat).map (slotAt c)
/-- May counts be? -/
structure MayC (c : List Int) : Prop where
  pos : 0 < c.length
  len : c.length ≤ 6
  lo : ∀ x ∈ c, 0 ≤ x
  hi : ∀ x ∈ c, x ≤ 64
  t1 : 1 ≤ tot c
  t64 : tot c ≤ 64
def mayC (c : List Int) : Bool := decide (1 ≤ c.length) && decide (c.length ≤ 6) && c.all (fun x => decide (0 ≤ x) && decide (x ≤ 64)) && decide (1 ≤ tot c) && decide (tot c ≤ 64)
theorem MayC.of {c : List Int} (h : mayC c = true) : MayC c := by
  simp only [mayC, Bool.and_eq_true, decide_eq_true_eq, List.all_eq_true] at h
  obtain ⟨⟨⟨⟨h1, h2⟩, h3⟩, h4⟩, h5⟩ := h
  exact ⟨by omega, h2, fun x hx => (h3 x hx).1, fun x hx => (h3 x hx).2, h4, h5⟩
theorem MayC.may {c : List Int} (h : MayC c) : mayC c = true := by
  simp only [mayC, Bool.and_eq_true, decide_eq_true_eq, List.all_eq_true]
  exact ⟨⟨⟨⟨by have := h.pos; omega, h.len⟩, fun x hx => ⟨h.lo x hx, h.hi x hx⟩⟩, h.t1⟩, h.t64⟩

theorem at0_get {l : List Int} {i : Nat} (h : i < l.length) : at0 l i = l[i] := by simp [List.getD_eq_getElem?_getD, h]
theorem at0_nil {l : List Int} {i : Nat} (h : l.length ≤ i) : at0 l i = 0 := by simp [List.getD_eq_getElem?_getD, h]
theorem at0_set {l : List Int} {i : Nat} (h : i < l.length) (j : Nat) (v : Int) : at0 (l.set i v) j = if j = i then v else at0 l j := by
  simp only [List.getD_eq_getElem?_getD, List.getElem?_set]
  by_cases e : i = j
  · subst e; simp [h]
  · rw [if_neg e, if_neg (fun x => e x.symm)]
theorem lo_at0 {c : List Int} (h : ∀ x ∈ c, 0 ≤ x) (j : Nat) : 0 ≤ at0 c j := by
  by_cases hj : j < c.length
  · rw [at0_get hj]; exact h _ (List.getElem_mem hj)
  · rw [at0_nil (by omega)]; omega
/-- Rows one below the other, of the same sum: they are the same. -/
theorem tot_le_le : ∀ (a b : List Int), a.length = b.length → (∀ j, at0 a j ≤ at0 b j) → tot a ≤ tot b ∧ (tot a = tot b → a = b)
  | [], [], _, _ => by simp [tot]
  | [], _ :: _, h, _ => by simp at h
  | _ :: _, [], h, _ => by simp at h
  | x :: a, y :: b, h, hl => by
    have h0 := hl 0
    simp at h0
    have ih := tot_le_le a b (by simpa using h) fun j => by simpa using hl (j + 1)
    constructor
    · have := ih.1; simp [tot]; omega
    · intro e
      simp only [tot] at e
      have h1 := ih.1
      obtain rfl := ih.2 (by omega)
      have : x = y := by omega
      rw [this]

variable {c : List Int}
/-- How it stands ahead of slot t. -/
structure GInv (c : List Int) (t : Nat) (g : List Int) : Prop where
  len : g.length = c.length
  lo : ∀ j, 0 ≤ at0 g j
  hi : ∀ j, at0 g j ≤ at0 c j
  sum : tot g = t
theorem tot_replicate (n : Nat) : tot (List.replicate n 0) = 0 := by
  induction n with
  | zero => rfl
  | succ n ih => rw [List.replicate_succ, tot, ih]; rfl
theorem GInv.start (h : MayC c) : GInv c 0 (gAt c 0) := by
  have e : ∀ j, at0 (List.replicate c.length (0 : Int)) j = 0 := fun j => by
    simp only [List.getD_eq_getElem?_getD, List.getElem?_replicate]
    split <;> rfl
  exact ⟨by simp [gAt], fun j => by simp only [gAt, e]; omega, fun j => by simp only [gAt, e]; exact lo_at0 h.lo j, by simp only [gAt, tot_replicate]; rfl⟩
theorem GInv.some {t : Nat} {g : List Int} (hI : GInv c t g) (ht : (t : Int) < tot c) : ∃ b, best g c = some b ∧ IsBest g c c.length b := by
  cases e : best g c with
  | none =>
    exfalso
    have hn := bestTo_none g c _ e
    have := (tot_le_le c g hI.len.symm fun j => by
      by_cases hj : j < c.length
      · exact hn j hj
      · rw [at0_nil (by omega), at0_nil (by rw [hI.len]; omega)]; omega).1
    have := hI.sum
    omega
  | some b => exact ⟨b, rfl, bestTo_some g c hI.lo _ b e⟩
theorem put1_at {g : List Int} {b : Nat} (hb : b < g.length) (j : Nat) : at0 (put1 g b) j = if j = b then at0 g b + 1 else at0 g j := by
  unfold put1; exact at0_set hb j _
theorem GInv.put {t : Nat} {g : List Int} (hI : GInv c t g) {b : Nat} (hb : IsBest g c c.length b) : GInv c (t + 1) (put1 g b) := by
  have hbl : b < g.length := by rw [hI.len]; exact hb.lt
  refine ⟨by simp [put1, hI.len], fun j => ?_, fun j => ?_, ?_⟩
  · rw [put1_at hbl]; split
    · have := hI.lo b; omega
    · exact hI.lo j
  · rw [put1_at hbl]; split
    · rename_i e; subst e; have := hb.has; omega
    · exact hI.hi j
  · unfold put1
    rw [tot_set _ _ hbl, hI.sum, at0_get hbl]; omega
theorem gInv (h : MayC c) : ∀ t : Nat, (t : Int) ≤ tot c → GInv c t (gAt c t)
  | 0, _ => GInv.start h
  | t + 1, ht => by
    have ih := gInv h t (by omega)
    obtain ⟨b, e, hb⟩ := ih.some (by omega)
    simp only [gAt, e]
    exact ih.put hb
theorem slot_best (h : MayC c) {t : Nat} (ht : (t : Int) < tot c) : ∃ b, slotAt c t = (b : Nat) ∧ b < c.length ∧ best (gAt c t) c = some b ∧ IsBest (gAt c t) c c.length b ∧ gAt c (t + 1) = put1 (gAt c t) b := by
  obtain ⟨b, e, hb⟩ := (gInv h t (by omega)).some ht
  exact ⟨b, by simp only [slotAt, e], hb.lt, e, hb, by simp only [gAt, e]⟩
/-- In the end each has had its count. -/
theorem gAt_end (h : MayC c) : gAt c (tot c).toNat = c := by
  have hI := gInv h (tot c).toNat (by have := h.t1; omega)
  exact (tot_le_le _ _ hI.len hI.hi).2 (by rw [hI.sum]; have := h.t1; omega)
theorem slotsL_length (h : MayC c) : ((slotsL c).length : Int) = tot c := by have := h.t1; simp [slotsL]; omega
theorem slotsL_get {t : Nat} (ht : t < (slotsL c).length) : (slotsL c)[t] = slotAt c t := by simp [slotsL]

/-! Evenly: ahead of each slot each has had about its share. -/
structure Even (c : List Int) (g : List Int) (p q : Int) : Prop where
  q0 : 0 < q
  p0 : 0 ≤ p
  pq : p < q
  up : ∀ j, 0 < at0 g j → (2 * at0 g j - 1) * q ≤ 2 * at0 c j * p
  dn : ∀ j, at0 g j < at0 c j → 2 * at0 c j * p ≤ (2 * at0 g j + 1) * q
theorem Even.put {t : Nat} {g : List Int} (hI : GInv c t g) {b : Nat} (hb : IsBest g c c.length b) (hE : t = 0 ∨ ∃ p q, Even c g p q) : Even c (put1 g b) (2 * at0 g b + 1) (2 * at0 c b) := by
  have hbl : b < g.length := by rw [hI.len]; exact hb.lt
  have g0 := hI.lo b
  have hh := hb.has
  refine ⟨by omega, by omega, by omega, fun j hj => ?_, fun j hj => ?_⟩
  · rw [put1_at hbl] at hj ⊢
    by_cases e : j = b
    · rw [if_pos e]; subst e
      rw [show 2 * (at0 g j + 1) - 1 = 2 * at0 g j + 1 by omega, Int.mul_comm]
      exact Int.le_refl _
    · rw [if_neg e] at hj ⊢
      rcases hE with rfl | ⟨p, q, hE⟩
      · exfalso
        have h0 := hI.sum
        have hz : g = List.replicate c.length 0 := by
          have := (tot_le_le (List.replicate c.length 0) g (by simp [hI.len]) fun i => by
            have e2 : at0 (List.replicate c.length (0 : Int)) i = 0 := by
              simp only [List.getD_eq_getElem?_getD, List.getElem?_replicate]
              split <;> rfl
            rw [e2]; exact hI.lo i).2 (by rw [tot_replicate, h0]; rfl)
          exact this.symm
        have e2 : at0 (List.replicate c.length (0 : Int)) j = 0 := by
          simp only [List.getD_eq_getElem?_getD, List.getElem?_replicate]
          split <;> rfl
        rw [hz, e2] at hj
        omega
      · have u := hE.up j hj
        have d := hE.dn b hb.has
        have cj : 0 < at0 c j := by have := hI.hi j; omega
        -- (2g-1)/(2c_j) ≤ p/q ≤ (2g_b+1)/(2c_b)
        have u' : (2 * at0 g j - 1) * q ≤ p * (2 * at0 c j) := by rw [Int.mul_comm p]; exact u
        have d' : p * (2 * at0 c b) ≤ (2 * at0 g b + 1) * q := by rw [Int.mul_comm p]; exact d
        have := cross_le (by omega : 0 < 2 * at0 c j) hE.q0 (by omega : 0 < 2 * at0 c b) u' d'
        rw [Int.mul_comm (2 * at0 g b + 1)] at this
        exact this
  · rw [put1_at hbl] at hj ⊢
    by_cases e : j = b
    · rw [if_pos e]; subst e
      rw [Int.mul_comm]
      exact Int.mul_le_mul_of_nonneg_right (by omega) (by omega)
    · rw [if_neg e] at hj ⊢
      have hjc : j < c.length := by
        apply Decidable.byContradiction
        intro hn
        rw [at0_nil (l := c) (by omega)] at hj
        have := hI.lo j
        omega
      have := hb.le j hjc hj
      rw [show 2 * at0 c j * (2 * at0 g b + 1) = 2 * ((2 * at0 g b + 1) * at0 c j) by rw [Int.mul_assoc, Int.mul_comm (at0 c j)], show (2 * at0 g j + 1) * (2 * at0 c b) = 2 * ((2 * at0 g j + 1) * at0 c b) by rw [← Int.mul_assoc, Int.mul_comm (2 * at0 g j + 1) 2, Int.mul_assoc]]
      omega
theorem even_at (h : MayC c) : ∀ t : Nat, (t : Int) < tot c → ∃ p q, Even c (gAt c (t + 1)) p q
  | 0, ht => by
    obtain ⟨b, -, -, -, hb, e⟩ := slot_best h (t := 0) ht
    rw [e]
    exact ⟨_, _, Even.put (gInv h 0 (by omega)) hb (.inl rfl)⟩
  | t + 1, ht => by
    obtain ⟨b, -, -, -, hb, e⟩ := slot_best h (t := t + 1) ht
    rw [e]
    exact ⟨_, _, Even.put (gInv h (t + 1) (by omega)) hb (.inr (even_at h t (by omega)))⟩

/-- Each is within half a quantum of where all are; so all together within half as many as there are. -/
theorem even_sum {p q : Int} : ∀ (g c : List Int), g.length = c.length → (∀ j, 2 * q * at0 g j - 2 * p * at0 c j ≤ q ∧ -q ≤ 2 * q * at0 g j - 2 * p * at0 c j) → 2 * q * tot g - 2 * p * tot c ≤ q * g.length ∧ -(q * g.length) ≤ 2 * q * tot g - 2 * p * tot c
  | [], [], _, _ => by simp [tot]
  | [], _ :: _, h, _ => by simp at h
  | _ :: _, [], h, _ => by simp at h
  | x :: g, y :: c, h, hl => by
    have h0 := hl 0
    simp at h0
    have ih := even_sum (p := p) (q := q) g c (by simpa using h) fun j => by simpa using hl (j + 1)
    simp only [tot, List.length_cons, Int.mul_add, Int.natCast_add]
    omega
theorem even_bound (h : MayC c) {t : Nat} (ht : (t : Int) < tot c) (d : Nat) :
    at0 (gAt c (t + 1)) d * tot c - at0 c d * (t + 1) ≤ c.length * tot c ∧ -(at0 (gAt c (t + 1)) d * tot c - at0 c d * (t + 1)) ≤ c.length * tot c := by
  obtain ⟨p, q, hE⟩ := even_at h t ht
  have hI := gInv h (t + 1) (by omega)
  have q0 := hE.q0
  have p0 := hE.p0
  generalize gAt c (t + 1) = g at *
  have hone : ∀ j, 2 * q * at0 g j - 2 * p * at0 c j ≤ q ∧ -q ≤ 2 * q * at0 g j - 2 * p * at0 c j := fun j => by
    have l0 := hI.lo j
    have l1 := hI.hi j
    have e1 : (2 * at0 g j - 1) * q = 2 * q * at0 g j - q := by rw [Int.sub_mul, Int.one_mul, Int.mul_assoc, Int.mul_assoc, Int.mul_comm q]
    have e2 : (2 * at0 g j + 1) * q = 2 * q * at0 g j + q := by rw [Int.add_mul, Int.one_mul, Int.mul_assoc, Int.mul_assoc, Int.mul_comm q]
    have e3 : 2 * at0 c j * p = 2 * p * at0 c j := by rw [Int.mul_assoc, Int.mul_assoc, Int.mul_comm p]
    constructor
    · by_cases hp : 0 < at0 g j
      · have := hE.up j hp
        omega
      · have hz : at0 g j = 0 := by omega
        rw [hz]
        have : 0 ≤ 2 * p * at0 c j := Int.mul_nonneg (by omega) (by omega)
        omega
    · by_cases hp : at0 g j < at0 c j
      · have := hE.dn j hp
        omega
      · have hz : at0 g j = at0 c j := by omega
        rw [hz]
        have h1 : 2 * p * at0 c j ≤ 2 * q * at0 c j := Int.mul_le_mul_of_nonneg_right (by have := hE.pq; omega) (by omega)
        omega
  have hs := even_sum g c hI.len hone
  rw [hI.sum, hI.len] at hs
  have hd := hone d
  have c0 := lo_at0 h.lo d
  have cF : at0 c d ≤ tot c := by
    by_cases hj : d < c.length
    · rw [at0_get hj]
      have : ∀ (l : List Int), (∀ x ∈ l, 0 ≤ x) → ∀ x ∈ l, x ≤ tot l := by
        intro l
        induction l with
        | nil => intro _ x hx; simp at hx
        | cons y l ih =>
          intro hl x hx
          have h1 := hl y (by simp)
          have h2 := tot_nonneg l fun z hz => hl z (by simp [hz])
          rcases List.mem_cons.1 hx with rfl | hx
          · simp [tot]; omega
          · have := ih (fun z hz => hl z (by simp [hz])) x hx; simp [tot]; omega
      exact this c h.lo _ (List.getElem_mem hj)
    · rw [at0_nil (by omega)]; have := h.t1; omega
  have F1 := h.t1
  have n1 := h.pos
  -- 2q·x = F(2q g - 2p c_d) - c_d(2q t - 2p F)
  obtain ⟨x, hx⟩ : ∃ x, x = at0 g d * tot c - at0 c d * (t + 1) := ⟨_, rfl⟩
  obtain ⟨A, hA⟩ : ∃ A, A = 2 * q * at0 g d - 2 * p * at0 c d := ⟨_, rfl⟩
  obtain ⟨B, hB⟩ : ∃ B, B = 2 * q * ((t + 1 : Nat) : Int) - 2 * p * tot c := ⟨_, rfl⟩
  rw [← hA] at hd
  rw [← hB] at hs
  have key : 2 * q * x = tot c * A - at0 c d * B := by
    rw [hx, hA, hB, Int.mul_sub, Int.mul_sub, Int.mul_sub]
    have k1 : 2 * q * (at0 g d * tot c) = tot c * (2 * q * at0 g d) := by rw [← Int.mul_assoc, Int.mul_comm (tot c)]
    have k2 : 2 * q * (at0 c d * (t + 1)) = at0 c d * (2 * q * ((t + 1 : Nat) : Int)) := by rw [← Int.mul_assoc, ← Int.mul_assoc, Int.mul_comm (2 * q) (at0 c d), Int.natCast_add]; rfl
    have k3 : tot c * (2 * p * at0 c d) = at0 c d * (2 * p * tot c) := by rw [Int.mul_comm (tot c), Int.mul_assoc, Int.mul_comm (at0 c d) (tot c), ← Int.mul_assoc, Int.mul_comm (2 * p * tot c)]
    omega
  have FA1 : tot c * A ≤ tot c * q := Int.mul_le_mul_of_nonneg_left hd.1 (by omega)
  have FA2 : tot c * -q ≤ tot c * A := Int.mul_le_mul_of_nonneg_left hd.2 (by omega)
  have qn : 0 ≤ q * (c.length : Int) := Int.mul_nonneg (by omega) (by omega)
  have CB1 : at0 c d * B ≤ at0 c d * (q * c.length) := Int.mul_le_mul_of_nonneg_left hs.1 c0
  have CB2 : at0 c d * -(q * c.length) ≤ at0 c d * B := Int.mul_le_mul_of_nonneg_left hs.2 c0
  have CF : at0 c d * (q * c.length) ≤ tot c * (q * c.length) := Int.mul_le_mul_of_nonneg_right cF qn
  have qF : tot c * q ≤ tot c * (q * c.length) := Int.mul_le_mul_of_nonneg_left (by
    calc q = q * 1 := (Int.mul_one q).symm
      _ ≤ q * c.length := Int.mul_le_mul_of_nonneg_left (by omega) (by omega)) (by omega)
  have e5 : tot c * (q * c.length) = q * (c.length * tot c) := by rw [Int.mul_comm (tot c), Int.mul_assoc]
  rw [Int.mul_neg] at FA2 CB2
  have r1 : q * (2 * x) ≤ q * (2 * (c.length * tot c)) := by
    have e6 : q * (2 * x) = 2 * q * x := by rw [← Int.mul_assoc, Int.mul_comm q 2]
    have e7 : q * (2 * (c.length * tot c)) = 2 * (q * (c.length * tot c)) := by rw [← Int.mul_assoc, Int.mul_comm q 2, Int.mul_assoc]
    omega
  have r2 : q * (2 * -x) ≤ q * (2 * (c.length * tot c)) := by
    have e6 : q * (2 * -x) = -(2 * q * x) := by rw [← Int.mul_assoc, Int.mul_comm q 2, Int.mul_neg]
    have e7 : q * (2 * (c.length * tot c)) = 2 * (q * (c.length * tot c)) := by rw [← Int.mul_assoc, Int.mul_comm q 2, Int.mul_assoc]
    omega
  have s1 := Int.le_of_mul_le_mul_left r1 q0
  have s2 := Int.le_of_mul_le_mul_left r2 q0
  rw [← hx]
  constructor <;> omega
end Go.Proofs.Ytfjhcmpcnnjodaa
