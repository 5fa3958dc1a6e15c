/- Eight entries, one of which is changed again and again: which is the least. No program is named here. -/
import Derived.Test.YthjnnjjjjponnaaPqH
import Derived.Handy
namespace Go.Proofs.Ythjnnjjjjponnaa

def base8 (i : Nat) : List (Int × Int) := (List.range i).map fun j : Nat => (1000 * (j : Int), (j : Int))
theorem base8_put : ∀ i : Nat, i < 8 → ins (1000 * (i : Int), (i : Int)) (base8 i) = base8 (i + 1) ∧ idAt (base8 i) i = (base8 i).length ∧ (base8 i).length = i := by decide

/-- Eight entries, in order: (c, K), and (1000 j, j) for each other j. -/
structure Own8 (c K : Int) (rows : List (Int × Int)) : Prop where
  len : rows.length = 8
  sorted : Sorted rows
  mem : ∀ e, e ∈ rows ↔ e = (c, K) ∨ (0 ≤ e.2 ∧ e.2 < 8 ∧ e.2 ≠ K ∧ e.1 = 1000 * e.2)
theorem own8_base {K : Int} (h0 : 0 ≤ K) (h1 : K < 8) : Own8 (1000 * K) K (base8 8) := by
  refine ⟨rfl, by decide, fun e => ?_⟩
  obtain ⟨a, b⟩ := e
  have hb : base8 8 = [(0, 0), (1000, 1), (2000, 2), (3000, 3), (4000, 4), (5000, 5), (6000, 6), (7000, 7)] := by decide
  rw [hb]
  simp only [List.mem_cons, Prod.mk.injEq, List.not_mem_nil, or_false]
  omega
theorem lessB_irrefl (a : Int × Int) : lessB a a = false := by rw [lessB_false]; omega
theorem sorted_idx {rows : List (Int × Int)} (h : Sorted rows) {i j : Nat} (hi : i < rows.length) (hj : j < rows.length) (e : rows[i] = rows[j]) : i = j := by
  rcases Nat.lt_trichotomy i j with h1 | h1 | h1
  · have := List.pairwise_iff_getElem.1 h i j hi hj h1
    rw [e, lessB_irrefl] at this; cases this
  · exact h1
  · have := List.pairwise_iff_getElem.1 h j i hj hi h1
    rw [e, lessB_irrefl] at this; cases this
theorem Own8.has {c K : Int} {rows : List (Int × Int)} (h : Own8 c K rows) : Has rows K := ⟨(c, K), (h.mem _).2 (.inl rfl), rfl⟩
theorem Own8.at {c K : Int} {rows : List (Int × Int)} (h : Own8 c K rows) : rows[idAt rows K]? = some (c, K) := by
  have hlt := has_iff.2 h.has
  have h2 := idAt_get hlt
  rw [List.getElem?_eq_getElem hlt]
  rcases (h.mem _).1 (List.getElem_mem hlt) with e | ⟨_, _, e, _⟩
  · rw [e]
  · exact absurd h2 e
theorem Own8.rekey {c K P : Int} {rows : List (Int × Int)} (h : Own8 c K rows) : Own8 P K (ins (P, K) (rows.eraseIdx (idAt rows K))) := by
  have hlt := has_iff.2 h.has
  have hat := h.at
  rw [List.getElem?_eq_getElem hlt] at hat
  have hat : rows[idAt rows K] = (c, K) := Option.some.inj hat
  have hmem : ∀ e, e ∈ rows.eraseIdx (idAt rows K) ↔ (0 ≤ e.2 ∧ e.2 < 8 ∧ e.2 ≠ K ∧ e.1 = 1000 * e.2) := by
    intro e
    rw [List.mem_eraseIdx_iff_getElem]
    constructor
    · rintro ⟨i, hi, hne, rfl⟩
      rcases (h.mem _).1 (List.getElem_mem hi) with e | e
      · exact absurd (sorted_idx h.sorted hi hlt (by rw [e, hat])) hne
      · exact e
    · intro he
      obtain ⟨i, hi, e1⟩ := List.mem_iff_getElem.1 ((h.mem e).2 (.inr he))
      refine ⟨i, hi, fun hne => ?_, e1⟩
      subst hne
      rw [hat] at e1
      exact he.2.2.1 (by rw [← e1])
  refine ⟨?_, ins_sorted (h.sorted.sublist (List.eraseIdx_sublist _ _)) fun x hx e => ?_, fun e => ?_⟩
  · rw [ins_length, List.length_eraseIdx, if_pos hlt, h.len]
  · subst e
    exact ((hmem _).1 hx).2.2.1 rfl
  · rw [mem_ins, hmem]

/-- The least of (P, K) and those from behind j on. -/
def Among (P K j : Int) (e : Int × Int) : Prop := e = (P, K) ∨ (j < e.2 ∧ e.2 < 8 ∧ e.2 ≠ K ∧ e.1 = 1000 * e.2)
structure Lst (P K j : Int) (l : Int × Int) : Prop where
  am : Among P K j l
  least : ∀ e, Among P K j e → lessB e l = false
theorem lst_start (P K : Int) : Lst P K 7 (P, K) := ⟨.inl rfl, fun e h => by
  rcases h with rfl | h
  · exact lessB_irrefl _
  · omega⟩
theorem Lst.skip {P K j : Int} {l : Int × Int} (h : Lst P K j l) (hs : j = K ∨ lessB (1000 * j, j) l = false) : Lst P K (j - 1) l := by
  refine ⟨?_, fun e he => ?_⟩
  · rcases h.am with h | h
    · exact .inl h
    · exact .inr (by omega)
  · rcases he with rfl | he
    · exact h.least _ (.inl rfl)
    · by_cases hj : e.2 = j
      · rcases hs with hs | hs
        · omega
        · obtain ⟨a, b⟩ := e
          simp only at he hj
          subst hj
          rw [he.2.2.2]
          exact hs
      · exact h.least _ (.inr (by omega))
theorem Lst.take {P K j : Int} {l : Int × Int} (h : Lst P K j l) (hj : j < 8) (hne : j ≠ K) (hs : lessB (1000 * j, j) l = true) : Lst P K (j - 1) (1000 * j, j) := by
  refine ⟨.inr ⟨by show j - 1 < j; omega, hj, hne, rfl⟩, fun e he => ?_⟩
  have hl : ∀ e, Among P K j e → lessB e (1000 * j, j) = false := fun e he => by
    have h1 := h.least e he
    rw [lessB_false] at h1 ⊢
    rw [lessB_iff] at hs
    simp only at hs ⊢
    omega
  rcases he with rfl | he
  · exact hl _ (.inl rfl)
  · by_cases hj2 : e.2 = j
    · obtain ⟨a, b⟩ := e
      simp only at he hj2
      subst hj2
      rw [he.2.2.2]
      exact lessB_irrefl _
    · exact hl _ (.inr (by omega))
theorem Lst.head {P K : Int} {l : Int × Int} {rows : List (Int × Int)} (h : Lst P K (-1) l) (o : Own8 P K rows) : ∃ rest, rows = l :: rest := by
  cases rows with
  | nil => have := o.len; cases this
  | cons e rest =>
    have hl : l ∈ e :: rest := (o.mem l).2 (by rcases h.am with h | h; exact .inl h; exact .inr (by omega))
    have he : lessB e l = false := h.least e (by rcases (o.mem e).1 List.mem_cons_self with h | h; exact .inl h; exact .inr (by omega))
    rcases List.mem_cons.1 hl with rfl | hl
    · exact ⟨rest, rfl⟩
    · have := (List.pairwise_cons.1 o.sorted).1 l hl
      rw [he] at this; cases this
end Go.Proofs.Ythjnnjjjjponnaa
