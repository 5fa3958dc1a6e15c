/- Timers in a statement's walk: who sleeps, as a list in whatever order; what they own. -/
import Derived.Test.YtlpklkkjidaecaaTi6
import Derived.Handy
namespace Go.Proofs.Ytlpklkkjidaecaa
open Go.RowKit
namespace Ti
open Rw

theorem Tm.base {base base' x : Nat} {v m : Value} {l : List En} {D : DataW Unit} {w : World} (h : Tm base x v m l D w) (hb : base' ≤ base) : Tm base' x v m l D w := by
  refine ⟨h.blk, h.row.base hb, ?_, Nat.le_trans hb h.bx⟩
  rcases h.map with h1 | ⟨b, h1, h2, h3⟩
  · exact .inl h1
  · exact .inr ⟨b, h1, Nat.le_trans hb h2, h3⟩

/-- In world w Timers lie at x with these sleepers; they own the blocks A; nothing of w0 has turned. -/
def St (w0 : World) (x : Nat) (M : List En) (A : Nat → Prop) (w : World) : Prop :=
  Ext w0 w ∧ ∃ v m l D, Tm w0.heap.size x v m l D w ∧ Good l D ∧ l.Perm M ∧ A = Own x v m

theorem put_perm {id u : Int} {l M : List En} (h : l.Perm M) : (put id u l).Perm (put id u M) := List.Perm.cons _ (others_perm h)
theorem isIn_perm {id : Int} {l M : List En} (h : l.Perm M) : isIn id l = isIn id M := by
  rw [Bool.eq_iff_iff, isIn_iff, isIn_iff]
  exact ⟨fun ⟨e, h1, h2⟩ => ⟨e, h.mem_iff.1 h1, h2⟩, fun ⟨e, h1, h2⟩ => ⟨e, h.mem_iff.2 h1, h2⟩⟩
theorem sleepOn_perm {tick : Int} {l M : List En} (h : l.Perm M) : (sleepOn tick l).Perm (sleepOn tick M) := h.filter _
theorem dueIds_perm {tick : Int} {l M : List En} (h : l.Perm M) : dueIds tick l = dueIds tick M := sortI_perm ((h.filter _).map _)
theorem sortI_of {a b : List Int} (h : a.Perm b) (hb : b.Pairwise (· ≤ ·)) : sortI a = b := by
  rw [sortI_perm h]
  have tr : ∀ (x y z : Int), decide (x ≤ y) = true → decide (y ≤ z) = true → decide (x ≤ z) = true := fun x y z h1 h2 => by simp at h1 h2 ⊢; omega
  have tt : ∀ (x y : Int), (decide (x ≤ y) || decide (y ≤ x)) = true := fun x y => by simp; omega
  exact List.Perm.eq_of_pairwise (le := fun x y => decide (x ≤ y) = true) (fun x y _ _ h1 h2 => by simp at h1 h2; omega) (List.pairwise_mergeSort tr tt b) (hb.imp fun h => by simpa using h) (List.mergeSort_perm b _)
theorem mem_dueIds {tick : Int} {M : List En} {k : Int} : k ∈ dueIds tick M ↔ ∃ e ∈ M, e.2 ≤ tick ∧ e.1 = k := by
  unfold dueIds sortI isDue
  rw [List.mem_mergeSort, List.mem_map]
  constructor
  · rintro ⟨e, h1, h2⟩
    obtain ⟨h3, h4⟩ := List.mem_filter.1 h1
    exact ⟨e, h3, by simpa using h4, h2⟩
  · rintro ⟨e, h1, h2, h3⟩
    exact ⟨e, List.mem_filter.2 ⟨h1, by simpa using h2⟩, h3⟩
theorem dueIds_length (tick : Int) (M : List En) : (dueIds tick M).length + (sleepOn tick M).length = M.length := by
  unfold dueIds sortI isDue sleepOn
  rw [List.length_mergeSort, List.length_map]
  induction M with
  | nil => rfl
  | cons a l ih =>
    rw [List.filter_cons, List.filter_cons]
    by_cases h : a.2 ≤ tick
    · simp [h]; omega
    · simp [h]; omega
/-- They rise. -/
theorem dueIds_rise {tick : Int} {M : List En} (hA : Apart M) : (dueIds tick M).Pairwise (· < ·) := by
  have tr : ∀ (x y z : Int), decide (x ≤ y) = true → decide (y ≤ z) = true → decide (x ≤ z) = true := fun x y z h1 h2 => by simp at h1 h2 ⊢; omega
  have tt : ∀ (x y : Int), (decide (x ≤ y) || decide (y ≤ x)) = true := fun x y => by simp; omega
  have s1 := List.pairwise_mergeSort tr tt ((isDue tick M).map (·.1))
  have n1 : ((isDue tick M).map (·.1)).Nodup := by
    have : ((isDue tick M).map (·.1)).Sublist (M.map (·.1)) := (List.filter_sublist).map _
    exact this.nodup hA
  have n2 : (dueIds tick M).Nodup := (List.mergeSort_perm _ _).nodup_iff.2 n1
  exact (s1.and n2).imp fun h => by have h1 := h.1; have h2 := h.2; simp at h1; omega

/-- The least time; 0 of nobody. -/
def IsLeast (z : Int) (M : List En) : Prop := (M = [] ∧ z = 0) ∨ ((∃ e ∈ M, e.2 = z) ∧ ∀ e ∈ M, z ≤ e.2)
theorem IsLeast.one {a b : Int} {M : List En} (h : IsLeast a M) (k : IsLeast b M) : a = b := by
  rcases h with ⟨h1, h2⟩ | ⟨⟨e, h1, h2⟩, h3⟩
  · rcases k with ⟨k1, k2⟩ | ⟨⟨e, k1, k2⟩, k3⟩
    · omega
    · rw [h1] at k1; cases k1
  · rcases k with ⟨k1, k2⟩ | ⟨⟨e', k1, k2⟩, k3⟩
    · rw [k1] at h1; cases h1
    · have := h3 e' k1
      have := k3 e h1
      omega
theorem IsLeast.perm {a : Int} {M N : List En} (h : IsLeast a M) (p : M.Perm N) : IsLeast a N := by
  rcases h with ⟨h1, h2⟩ | ⟨⟨e, h1, h2⟩, h3⟩
  · exact .inl ⟨by rw [h1] at p; exact p.symm.eq_nil, h2⟩
  · exact .inr ⟨⟨e, p.mem_iff.1 h1, h2⟩, fun e he => h3 e (p.mem_iff.2 he)⟩
theorem least_first {l : List En} (H : Heap l) : ∃ z, nextV l = .tuple #[.int .i64 z, .bool (!l.isEmpty)] ∧ IsLeast z l := by
  cases l with
  | nil => exact ⟨0, rfl, .inl ⟨rfl, rfl⟩⟩
  | cons q rest =>
    refine ⟨q.2, rfl, .inr ⟨⟨q, by simp, rfl⟩, fun e he => ?_⟩⟩
    obtain ⟨i, hi, h1⟩ := List.getElem_of_mem he
    exact H.first (a := q) rfl i e (by rw [List.getElem?_eq_getElem hi, h1])

section
variable {w0 w w' : World} {x : Nat} {M : List En} {A B : Nat → Prop}
theorem St.xt (h : St w0 x M A w) : Ext w0 w := h.1
theorem St.apart (h : St w0 x M A w) : Apart M := by
  obtain ⟨_, v, m, l, D, h1, h2, h3, _⟩ := h
  exact h2.apart.perm h3
theorem St.own (h : St w0 x M A w) : ∀ k, A k → w0.heap.size ≤ k ∧ k < w.heap.size := by
  obtain ⟨_, v, m, l, D, h1, _, _, rfl⟩ := h
  exact h1.own
theorem St.lt (h : St w0 x M A w) : x < w.heap.size := by
  obtain ⟨_, v, m, l, D, h1, _, _, rfl⟩ := h
  exact h1.lt
theorem St.ext (h : St w0 x M A w) (k : Ext w w') : St w0 x M A w' := by
  obtain ⟨h0, v, m, l, D, h1, h2, h3, h4⟩ := h
  exact ⟨h0.trans k, v, m, l, D, h1.ext k, h2, h3, h4⟩
/-- Kept by what touches others' blocks alone. -/
theorem St.keep {C : Nat → Prop} (h : St w0 x M C w) (k : Mvp A B w w') (hAC : ∀ i, A i → ¬ C i) (hA : ∀ i, A i → w0.heap.size ≤ i) : St w0 x M C w' ∧ ∀ i, B i → ¬ C i := by
  have hlt := fun i hi => (h.own i hi).2
  obtain ⟨h0, v, m, l, D, h1, h2, h3, rfl⟩ := h
  refine ⟨⟨k.xt h0 hA, v, m, l, D, ⟨?_, h1.row.keep fun g hg => ?_, h1.map.keep fun g hg => ?_, h1.bx⟩, h2, h3, rfl⟩, fun i hB hC => ?_⟩
  · rw [k.block x h1.lt (fun e => hAC x e (.inl rfl))]; exact h1.blk
  · exact k.block g (h1.own g (.inr (.inl hg))).2 (fun e => hAC g e (.inr (.inl hg)))
  · exact k.block g (h1.own g (.inr (.inr hg))).2 (fun e => hAC g e (.inr (.inr hg)))
  · rcases k.own i hB with h4 | h4
    · exact hAC i h4 hC
    · have := hlt i hC
      omega
theorem St.perm {N : List En} (h : St w0 x M A w) (p : M.Perm N) : St w0 x N A w := by
  obtain ⟨h0, v, m, l, D, h1, h2, h3, h4⟩ := h
  exact ⟨h0, v, m, l, D, h1, h2, h3.trans p, h4⟩
theorem St.of_kept {v m : Value} {N : List En} (h0 : Ext w0 w) (hA : ∀ k, Own x v m k → w0.heap.size ≤ k) (k : Kept w0.heap.size x v m N w w') (p : N.Perm M) : ∃ B, St w0 x M B w' ∧ Mvp (Own x v m) B w w' := by
  obtain ⟨v', m', l', D', h1, h2, h3, h4⟩ := k
  exact ⟨_, ⟨h4.xt h0 hA, v', m', l', D', h1, h2, h3.trans p, rfl⟩, h4⟩

theorem st_new (h : Ext w0 w) : Calls Try.prog 8 #[] w fun e w' => e = .returned (.pointer (some ⟨w.heap.size, 0, none⟩)) ∧ ∃ A, St w0 w.heap.size [] A w' ∧ Ext w w' ∧ ∀ k, A k → w.heap.size ≤ k :=
  (new_any w).mono fun _ _ ⟨a, b, c⟩ => ⟨a, _, ⟨h.trans c, _, _, _, _, b.base h.size, ⟨Heap.nil, Full.nil, List.nodup_nil, fun e he => by cases he⟩, List.Perm.refl _, rfl⟩, c, fun k hk => (b.own k hk).1⟩
theorem st_set (h : St w0 x M A w) (id u : Int) (hl : M.length ≤ 999998) (hw : wf64 id) :
    Calls Try.prog 9 #[.pointer (some ⟨x, 0, none⟩), .int .i64 id, .int .i64 u] w fun e w' => e = .returned (.tuple #[]) ∧ ∃ B, St w0 x (put id u M) B w' ∧ Mvp A B w w' := by
  obtain ⟨h0, v, m, l, D, h1, h2, h3, rfl⟩ := h
  exact (set_any h1 h2 (by rw [h3.length_eq]; exact hl) hw).mono fun _ _ ⟨a, b⟩ => ⟨a, St.of_kept h0 (fun k hk => (h1.own k hk).1) b (put_perm h3)⟩
theorem st_drop (h : St w0 x M A w) (id : Int) (hl : M.length ≤ 1000000) (hw : wf64 id) :
    Calls Try.prog 11 #[.pointer (some ⟨x, 0, none⟩), .int .i64 id] w fun e w' => e = .returned (.bool (isIn id M)) ∧ ∃ B, St w0 x (others id M) B w' ∧ Mvp A B w w' := by
  obtain ⟨h0, v, m, l, D, h1, h2, h3, rfl⟩ := h
  exact (drop_any h1 h2 (by rw [h3.length_eq]; exact hl) hw).mono fun _ _ ⟨a, b⟩ => ⟨by rw [a, isIn_perm h3], St.of_kept h0 (fun k hk => (h1.own k hk).1) b (others_perm h3)⟩
theorem st_due (h : St w0 x M A w) (tick : Int) (hl : M.length ≤ 1000000) :
    Calls Try.prog 14 #[.pointer (some ⟨x, 0, none⟩), .int .i64 tick] w fun e w' => ∃ vd B, e = .returned vd ∧ St w0 x (sleepOn tick M) B w' ∧ Mvp A B w w' ∧
      w'.ownsRow w.heap.size 3 1 vd (dueIds tick M).length ((dueIds tick M).map fun k => .int .i64 k) ∧ ∀ k, vd.ownBlock = some k → ¬ B k := by
  obtain ⟨h0, v, m, l, D, h1, h2, h3, rfl⟩ := h
  refine (due_any h1 h2 (by rw [h3.length_eq]; exact hl)).mono fun e w' ⟨vd, a, b, v', m', l', D', c1, c2, c3, c4, c5⟩ => ?_
  rw [dueIds_perm h3] at b
  exact ⟨vd, _, a, ⟨c4.xt h0 (fun k hk => (h1.own k hk).1), v', m', l', D', c1, c2, c3.trans (sleepOn_perm h3), rfl⟩, c4, b, c5⟩
theorem st_next (h : St w0 x M A w) : Calls Try.prog 16 #[.pointer (some ⟨x, 0, none⟩)] w fun e w' => (∃ z, e = .returned (.tuple #[.int .i64 z, .bool (!M.isEmpty)]) ∧ IsLeast z M) ∧ w' = w := by
  obtain ⟨h0, v, m, l, D, h1, h2, h3, rfl⟩ := h
  obtain ⟨z, hz, hl⟩ := least_first h2.heap
  refine (next_any h1).mono fun e w' ⟨a, b⟩ => ⟨⟨z, ?_, hl.perm h3⟩, b⟩
  rw [a, hz]
  have := h3.length_eq
  cases l <;> cases M <;> simp_all
theorem st_len (h : St w0 x M A w) : Calls Try.prog 18 #[.pointer (some ⟨x, 0, none⟩)] w fun e w' => e = .returned (.int .i64 M.length) ∧ w' = w := by
  obtain ⟨h0, v, m, l, D, h1, h2, h3, rfl⟩ := h
  exact (len_any h1).mono fun e w' ⟨a, b⟩ => ⟨by rw [a, h3.length_eq], b⟩
end
end Ti
end Go.Proofs.Ytlpklkkjidaecaa
