/- Which ids an index has. No program is named here. -/
import Derived.Test.YthjnnjjjjponnaaPqM
import Derived.Handy
namespace Go.Proofs.Ythjnnjjjjponnaa

def Has (rows : List (Int × Int)) (id : Int) : Prop := ∃ x ∈ rows, x.2 = id
theorem has_iff {rows : List (Int × Int)} {id : Int} : idAt rows id < rows.length ↔ Has rows id := by
  constructor
  · intro h; exact ⟨_, List.getElem_mem h, idAt_get h⟩
  · rintro ⟨x, hx, e⟩
    apply Decidable.byContradiction
    intro h
    exact idAt_none.1 h x hx e
theorem has_not {rows : List (Int × Int)} {id : Int} : ¬ idAt rows id < rows.length ↔ ¬ Has rows id := not_congr has_iff
theorem has_ins {e : Int × Int} {rows : List (Int × Int)} {id : Int} : Has (ins e rows) id ↔ e.2 = id ∨ Has rows id := by
  unfold Has
  constructor
  · rintro ⟨x, hx, h⟩
    rcases mem_ins.1 hx with rfl | hx
    · exact .inl h
    · exact .inr ⟨x, hx, h⟩
  · rintro (h | ⟨x, hx, h⟩)
    · exact ⟨e, mem_ins.2 (.inl rfl), h⟩
    · exact ⟨x, mem_ins.2 (.inr hx), h⟩
theorem has_erase {rows : List (Int × Int)} {k : Nat} {id : Int} (h : Has (rows.eraseIdx k) id) : Has rows id := by
  obtain ⟨x, hx, e⟩ := h
  exact ⟨x, List.mem_of_mem_eraseIdx hx, e⟩
theorem not_has_nil (id : Int) : ¬ Has [] id := by rintro ⟨x, hx, _⟩; cases hx

/-- The entry of the k-th pass. -/
def entL (L : List Int) (k : Nat) : Int × Int := (L.getD k 0, (k : Int))
theorem mod_ne {i j : Nat} {b n : Int} (hji : j < i) (hin : (i : Int) < n) : ((j : Int) + b) % n ≠ ((i : Int) + b) % n := by
  intro h
  have h1 := Int.emod_emod_of_dvd ((i : Int) + b) (Int.dvd_refl n)
  have h2 : n ∣ ((i : Int) + b) - ((j : Int) + b) := Int.dvd_of_emod_eq_zero (by rw [Int.sub_emod, h, Int.sub_self, Int.zero_emod])
  obtain ⟨c, hc⟩ := h2
  have hc : (i : Int) - j = n * c := by omega
  have hc0 : 0 < c := by
    apply Decidable.byContradiction
    intro hn
    have : n * c ≤ 0 := Int.mul_nonpos_of_nonneg_of_nonpos (by omega) (by omega)
    omega
  have : n * 1 ≤ n * c := Int.mul_le_mul_of_nonneg_left (by omega) (by omega)
  omega
/-- i entries were put in, from place b on. -/
structure Put1 (L : List Int) (b : Int) (i : Nat) (rows : List (Int × Int)) : Prop where
  len : rows.length = i
  sorted : Sorted rows
  ents : ∀ e ∈ rows, ∃ k : Nat, k < L.length ∧ e = entL L k
  ids : ∀ id, Has rows id → ∃ j : Nat, j < i ∧ id = ((j : Int) + b) % L.length
theorem Put1.nil (L : List Int) (b : Int) : Put1 L b 0 [] := ⟨rfl, List.Pairwise.nil, (fun e h => by cases h), fun id h => absurd h (not_has_nil id)⟩
theorem Put1.not_has {L : List Int} {b : Int} {i : Nat} {rows : List (Int × Int)} (h : Put1 L b i rows) (hi : i < L.length) : ¬ Has rows (((i : Int) + b) % L.length) := by
  intro hh
  obtain ⟨j, hj, e⟩ := h.ids _ hh
  exact mod_ne hj (by omega) e.symm
theorem Put1.put {L : List Int} {b : Int} {i k : Nat} {rows : List (Int × Int)} (h : Put1 L b i rows) (hi : i < L.length) (hk : ((i : Int) + b) % L.length = k) (hkl : k < L.length) : Put1 L b (i + 1) (ins (entL L k) rows) := by
  have hn := h.not_has hi
  refine ⟨by rw [ins_length, h.len], ins_sorted h.sorted fun x hx e => hn ⟨x, hx, by rw [e, hk]; rfl⟩, fun e he => ?_, fun id hh => ?_⟩
  · rcases mem_ins.1 he with rfl | he
    · exact ⟨k, hkl, rfl⟩
    · exact h.ents e he
  · rcases has_ins.1 hh with e | hh
    · exact ⟨i, by omega, by rw [hk, ← e]; rfl⟩
    · obtain ⟨j, hj, e⟩ := h.ids id hh
      exact ⟨j, by omega, e⟩
/-- m entries are left, all behind p. -/
structure Left (L : List Int) (m : Nat) (p : Int × Int) (rows : List (Int × Int)) : Prop where
  len : rows.length = m
  sorted : Sorted rows
  ents : ∀ e ∈ rows, ∃ k : Nat, k < L.length ∧ e = entL L k
  behind : ∀ e ∈ rows, lessB p e = true
theorem Left.head {L : List Int} {m : Nat} {p : Int × Int} {rows : List (Int × Int)} (h : Left L (m + 1) p rows) : ∃ k rest, rows = entL L k :: rest ∧ k < L.length ∧ lessB p (entL L k) = true ∧ Left L m (entL L k) rest ∧ idAt rows k = 0 := by
  obtain ⟨h1, h2, h3, h4⟩ := h
  cases rows with
  | nil => cases h1
  | cons e rest =>
    obtain ⟨k, hk, rfl⟩ := h3 e List.mem_cons_self
    obtain ⟨s1, s2⟩ := List.pairwise_cons.1 h2
    refine ⟨k, rest, rfl, hk, h4 _ List.mem_cons_self, ⟨by simpa using h1, s2, fun e he => h3 e (List.mem_cons_of_mem _ he), s1⟩, ?_⟩
    simp [idAt, entL, List.findIdx_cons]
end Go.Proofs.Ythjnnjjjjponnaa
