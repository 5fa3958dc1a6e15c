/- Both, the program's timers and the document's, beside one another, and blocks beside both. -/
import Derived.Test.YtlpklkkjidaecaaRf4
import Derived.Test.YtlpklkkjidaecaaTiH
namespace Go.Proofs.Ytlpklkkjidaecaa
open Go.RowKit
namespace Rf
open Rw Ti
set_option linter.unusedSimpArgs false

/-- The document's timers at y with these sleepers; they own the blocks A. -/
def RSt (w0 : World) (y : Nat) (M : List En) (A : Nat → Prop) (w : World) : Prop := Ext w0 w ∧ Sor M ∧ ∃ v, Rm w0.heap.size y v M w ∧ A = ROwn y v
section
variable {w0 w w' : World} {x y : Nat} {M : List En} {A B C : Nat → Prop}
theorem RSt.own (h : RSt w0 y M A w) : ∀ k, A k → w0.heap.size ≤ k ∧ k < w.heap.size := by
  obtain ⟨_, _, v, h1, rfl⟩ := h
  exact h1.own
theorem RSt.ext (h : RSt w0 y M A w) (k : Ext w w') : RSt w0 y M A w' := by
  obtain ⟨h0, hs, v, h1, h2⟩ := h
  exact ⟨h0.trans k, hs, v, h1.ext k, h2⟩
theorem RSt.keep (h : RSt w0 y M C w) (k : Mvp A B w w') (hAC : ∀ i, A i → ¬ C i) (hA : ∀ i, A i → w0.heap.size ≤ i) : RSt w0 y M C w' ∧ ∀ i, B i → ¬ C i := by
  have hlt := fun i hi => (h.own i hi).2
  obtain ⟨h0, hs, v, h1, rfl⟩ := h
  refine ⟨⟨k.xt h0 hA, hs, v, ⟨?_, h1.row.keep fun g hg => ?_, h1.bx⟩, rfl⟩, fun i hB hC => ?_⟩
  · rw [k.block y h1.lt (fun e => hAC y e (.inl rfl))]; exact h1.blk
  · exact k.block g (h1.own g (.inr hg)).2 (fun e => hAC g e (.inr hg))
  · rcases k.own i hB with h4 | h4
    · exact hAC i h4 hC
    · have := hlt i hC
      omega
theorem rst_set (h : RSt w0 y M A w) (id un : Int) (hl : M.length ≤ 999) :
    Calls Try.prog 10 #[.pointer (some ⟨y, 0, none⟩), .int .i64 id, .int .i64 un] w fun e w' => e = .returned (.tuple #[]) ∧ ∃ N B, N.Perm (put id un M) ∧ RSt w0 y N B w' ∧ Mvp A B w w' := by
  obtain ⟨h0, hs, v, h1, rfl⟩ := h
  exact (set_any h1 hs hl h0.size id un).mono fun e w' ⟨a, v', l', p, s, r, m⟩ => ⟨a, l', _, p, ⟨m.xt h0 (fun k hk => (h1.own k hk).1), s, v', r, rfl⟩, m⟩
theorem rst_drop (h : RSt w0 y M A w) (id : Int) (hl : M.length ≤ 1000) :
    Calls Try.prog 12 #[.pointer (some ⟨y, 0, none⟩), .int .i64 id] w fun e w' => e = .returned (.bool (isIn id M)) ∧ ∃ B, RSt w0 y (others id M) B w' ∧ Mvp A B w w' := by
  obtain ⟨h0, hs, v, h1, rfl⟩ := h
  have hb : decide ((others id M).length < M.length) = isIn id M := by
    rw [Bool.eq_iff_iff, decide_eq_true_iff, isIn_iff]
    unfold others
    constructor
    · intro hlt
      apply Classical.byContradiction
      intro hno
      rw [List.filter_eq_self.2 fun e he => by simp; exact fun e1 => hno ⟨e, he, e1⟩] at hlt
      omega
    · rintro ⟨e, he, h1⟩
      rw [List.length_filter_lt_length_iff_exists]
      exact ⟨e, he, by simp [h1]⟩
  refine (drop_any h1 hl h0.size id).mono fun e w' ⟨a, v', r, m⟩ => ⟨by rw [a, hb], _, ⟨m.xt h0 (fun k hk => (h1.own k hk).1), List.Pairwise.filter _ hs, v', r, rfl⟩, m⟩
theorem due_sorted {M : List En} (hs : Sor M) (tick : Int) : dueIds tick M = (isDue tick M).map (·.1) := by
  refine sortI_of (List.Perm.refl _) ?_
  refine List.pairwise_map.2 ((List.Pairwise.filter _ hs).imp fun h => ?_)
  omega
theorem rst_due (h : RSt w0 y M A w) (tick : Int) (hl : M.length ≤ 1000) :
    Calls Try.prog 15 #[.pointer (some ⟨y, 0, none⟩), .int .i64 tick] w fun e w' => ∃ vd B, e = .returned vd ∧ RSt w0 y (sleepOn tick M) B w' ∧ Mvp A B w w' ∧ Ints w' vd (dueIds tick M) := by
  obtain ⟨h0, hs, v, h1, rfl⟩ := h
  refine (due_any h1 hl h0.size tick).mono fun e w' ⟨vd, v', a, r, m, o, f⟩ => ⟨vd, _, a, ⟨m.xt h0 (fun k hk => (h1.own k hk).1), List.Pairwise.filter _ hs, v', r, rfl⟩, m, ?_⟩
  rw [due_sorted hs]
  refine ints_of_owns (base := w.heap.size) ?_
  rw [List.length_map, List.map_map]
  exact o
theorem rst_next (h : RSt w0 y M A w) (hl : M.length ≤ 1000) :
    Calls Try.prog 17 #[.pointer (some ⟨y, 0, none⟩)] w fun e w' => (∃ z, e = .returned (.tuple #[.int .i64 z, .bool (!M.isEmpty)]) ∧ IsLeast z M) ∧ Ext w w' := by
  obtain ⟨h0, hs, v, h1, rfl⟩ := h
  exact next_any h1 hl

/-- The program's at x with la, the document's at y with lb, other blocks F of the statement's own. -/
def Bo (w0 : World) (x y : Nat) (la lb : List En) (F : Nat → Prop) (w : World) : Prop :=
  ∃ A B, St w0 x la A w ∧ RSt w0 y lb B w ∧ (∀ k, A k → ¬ B k) ∧ ∀ k, F k → k < w.heap.size ∧ w0.heap.size ≤ k ∧ ¬ A k ∧ ¬ B k
variable {la lb : List En} {F : Nat → Prop}
def SameF (F : Nat → Prop) (w w' : World) : Prop := ∀ k, F k → w'.heap[k]? = w.heap[k]?
theorem Bo.xt (h : Bo w0 x y la lb F w) : Ext w0 w := by
  obtain ⟨A, B, h1, _⟩ := h
  exact h1.xt
theorem Bo.ext (h : Bo w0 x y la lb F w) (k : Ext w w') : Bo w0 x y la lb F w' ∧ SameF F w w' := by
  obtain ⟨A, B, h1, h2, h3, h4⟩ := h
  exact ⟨⟨A, B, h1.ext k, h2.ext k, h3, fun i hi => ⟨Nat.lt_of_lt_of_le (h4 i hi).1 k.size, (h4 i hi).2⟩⟩, fun i hi => k.below.block i (h4 i hi).1⟩
theorem Bo.perm {N : List En} (h : Bo w0 x y la lb F w) (p : la.Perm N) : Bo w0 x y N lb F w := by
  obtain ⟨A, B, h1, r⟩ := h
  exact ⟨A, B, h1.perm p, r⟩
theorem Bo.fewer {G : Nat → Prop} (h : Bo w0 x y la lb F w) (k : ∀ i, G i → F i) : Bo w0 x y la lb G w := by
  obtain ⟨A, B, h1, h2, h3, h4⟩ := h
  exact ⟨A, B, h1, h2, h3, fun i hi => h4 i (k i hi)⟩
/-- One more block, laid now. -/
theorem Bo.alloc (h : Bo w0 x y la lb F w) (o : Obj) : Bo w0 x y la lb (fun k => k = w.heap.size ∨ F k) (w.alloc o) := by
  obtain ⟨A, B, h1, h2, h3, h4⟩ := h
  have hx : Ext w (w.alloc o) := Ext.alloc (Ext.refl w) o
  have hx0 := h1.xt.size
  refine ⟨A, B, h1.ext hx, h2.ext hx, h3, fun i hi => ?_⟩
  rcases hi with rfl | hi
  · exact ⟨by simp, hx0, fun e => absurd (h1.own _ e).2 (by omega), fun e => absurd (h2.own _ e).2 (by omega)⟩
  · exact ⟨by have := (h4 i hi).1; simp; omega, (h4 i hi).2⟩
theorem bo_start {A : Nat → Prop} {T : Value} (h : St w0 x [] A w) (hT : T = .slice none 0 0) : Bo w0 x w.heap.size [] [] (fun _ => False) (w.alloc (.cells #[T] 29 (0, 0))) := by
  subst hT
  have hx : Ext w (w.alloc (.cells #[.slice none 0 0] 29 (0, 0))) := Ext.alloc (Ext.refl w) _
  refine ⟨A, ROwn w.heap.size (.slice none 0 0), h.ext hx, ⟨h.xt.trans hx, List.Pairwise.nil, .slice none 0 0, ⟨heap_alloc_new w _, Row.nil _ _, h.xt.size⟩, rfl⟩, fun k hA hB => ?_, fun _ hF => hF.elim⟩
  rcases hB with rfl | hB
  · exact absurd (h.own _ hA).2 (by omega)
  · cases hB
/-- The program's turn. -/
theorem Bo.p {f : FuncId} {args : Array Value} {la' : List En} {r : Ending} (h : Bo w0 x y la lb F w)
    (c : ∀ A, St w0 x la A w → Calls Try.prog f args w fun e w' => e = r ∧ ∃ A', St w0 x la' A' w' ∧ Mvp A A' w w') :
    Calls Try.prog f args w fun e w' => e = r ∧ Bo w0 x y la' lb F w' ∧ SameF F w w' := by
  obtain ⟨A, B, h1, h2, h3, h4⟩ := h
  refine (c A h1).mono fun e w' ⟨a, A', s, m⟩ => ⟨a, ?_, fun i hi => m.block i (h4 i hi).1 (h4 i hi).2.2.1⟩
  obtain ⟨k1, k2⟩ := h2.keep m h3 fun i hi => (h1.own i hi).1
  refine ⟨A', B, s, k1, k2, fun i hi => ⟨Nat.lt_of_lt_of_le (h4 i hi).1 m.size, (h4 i hi).2.1, fun e => ?_, (h4 i hi).2.2.2⟩⟩
  rcases m.own i e with h5 | h5
  · exact (h4 i hi).2.2.1 h5
  · exact absurd (h4 i hi).1 (by omega)
theorem Bo.q_of {B' : Nat → Prop} {lb' : List En} {A B : Nat → Prop} (h1 : St w0 x la A w) (h2 : RSt w0 y lb B w) (h3 : ∀ k, A k → ¬ B k) (h4 : ∀ k, F k → k < w.heap.size ∧ w0.heap.size ≤ k ∧ ¬ A k ∧ ¬ B k)
    (s : RSt w0 y lb' B' w') (m : Mvp B B' w w') : Bo w0 x y la lb' F w' ∧ SameF F w w' := by
  obtain ⟨k1, k2⟩ := h1.keep m (fun i hb ha => h3 i ha hb) fun i hi => (h2.own i hi).1
  refine ⟨⟨A, B', k1, s, fun i ha hb => k2 i hb ha, fun i hi => ⟨Nat.lt_of_lt_of_le (h4 i hi).1 m.size, (h4 i hi).2.1, (h4 i hi).2.2.1, fun e => ?_⟩⟩, fun i hi => m.block i (h4 i hi).1 (h4 i hi).2.2.2⟩
  rcases m.own i e with h5 | h5
  · exact (h4 i hi).2.2.2 h5
  · exact absurd (h4 i hi).1 (by omega)
theorem bo_pset (h : Bo w0 x y la lb F w) (id un : Int) (hl : la.length ≤ 999) (hw : wf64 id) :
    Calls Try.prog 9 #[.pointer (some ⟨x, 0, none⟩), .int .i64 id, .int .i64 un] w fun e w' => e = .returned (.tuple #[]) ∧ Bo w0 x y (put id un la) lb F w' ∧ SameF F w w' :=
  h.p fun _ s => st_set s id un (by omega) hw
theorem bo_pdrop (h : Bo w0 x y la lb F w) (id : Int) (hl : la.length ≤ 999) (hw : wf64 id) :
    Calls Try.prog 11 #[.pointer (some ⟨x, 0, none⟩), .int .i64 id] w fun e w' => e = .returned (.bool (isIn id la)) ∧ Bo w0 x y (others id la) lb F w' ∧ SameF F w w' :=
  h.p fun _ s => st_drop s id (by omega) hw
theorem bo_pdue (h : Bo w0 x y la lb F w) (tick : Int) (hl : la.length ≤ 999) :
    Calls Try.prog 14 #[.pointer (some ⟨x, 0, none⟩), .int .i64 tick] w fun e w' => ∃ vd, e = .returned vd ∧ w'.ownsRow w0.heap.size 3 1 vd (dueIds tick la).length ((dueIds tick la).map fun k => .int .i64 k) ∧
      Bo w0 x y (sleepOn tick la) lb (fun k => vd.ownBlock = some k ∨ F k) w' ∧ SameF F w w' := by
  obtain ⟨A, B, h1, h2, h3, h4⟩ := h
  refine (st_due h1 tick (by omega)).mono fun e w' ⟨vd, A', a, s, m, o, f⟩ => ⟨vd, a, owns_base o h1.xt.size, ?_, fun i hi => m.block i (h4 i hi).1 (h4 i hi).2.2.1⟩
  obtain ⟨k1, k2⟩ := h2.keep m h3 fun i hi => (h1.own i hi).1
  have hb := owns_below o
  refine ⟨A', B, s, k1, k2, fun i hi => ?_⟩
  rcases hi with hi | hi
  · have := h1.xt.size
    have := hb i hi
    exact ⟨this.2, by omega, f i hi, fun e => absurd (h2.own i e).2 (by omega)⟩
  · refine ⟨Nat.lt_of_lt_of_le (h4 i hi).1 m.size, (h4 i hi).2.1, fun e => ?_, (h4 i hi).2.2.2⟩
    rcases m.own i e with h5 | h5
    · exact (h4 i hi).2.2.1 h5
    · exact absurd (h4 i hi).1 (by omega)
theorem bo_qset (h : Bo w0 x y la lb F w) (id un : Int) (hl : lb.length ≤ 999) :
    Calls Try.prog 10 #[.pointer (some ⟨y, 0, none⟩), .int .i64 id, .int .i64 un] w fun e w' => e = .returned (.tuple #[]) ∧ ∃ N, N.Perm (put id un lb) ∧ Bo w0 x y la N F w' ∧ SameF F w w' := by
  obtain ⟨A, B, h1, h2, h3, h4⟩ := h
  exact (rst_set h2 id un hl).mono fun e w' ⟨a, N, B', p, s, m⟩ => ⟨a, N, p, Bo.q_of h1 h2 h3 h4 s m⟩
theorem bo_qdrop (h : Bo w0 x y la lb F w) (id : Int) (hl : lb.length ≤ 999) :
    Calls Try.prog 12 #[.pointer (some ⟨y, 0, none⟩), .int .i64 id] w fun e w' => e = .returned (.bool (isIn id lb)) ∧ Bo w0 x y la (others id lb) F w' ∧ SameF F w w' := by
  obtain ⟨A, B, h1, h2, h3, h4⟩ := h
  exact (rst_drop h2 id (by omega)).mono fun e w' ⟨a, B', s, m⟩ => ⟨a, Bo.q_of h1 h2 h3 h4 s m⟩
theorem bo_qdue (h : Bo w0 x y la lb F w) (tick : Int) (hl : lb.length ≤ 999) :
    Calls Try.prog 15 #[.pointer (some ⟨y, 0, none⟩), .int .i64 tick] w fun e w' => ∃ vd, e = .returned vd ∧ Ints w' vd (dueIds tick lb) ∧ Bo w0 x y la (sleepOn tick lb) F w' ∧ SameF F w w' := by
  obtain ⟨A, B, h1, h2, h3, h4⟩ := h
  exact (rst_due h2 tick (by omega)).mono fun e w' ⟨vd, B', a, s, m, i⟩ => ⟨vd, a, i, Bo.q_of h1 h2 h3 h4 s m⟩
theorem bo_pnext (h : Bo w0 x y la lb F w) : Calls Try.prog 16 #[.pointer (some ⟨x, 0, none⟩)] w fun e w' => (∃ z, e = .returned (.tuple #[.int .i64 z, .bool (!la.isEmpty)]) ∧ IsLeast z la) ∧ w' = w := by
  obtain ⟨A, B, h1, _⟩ := h
  exact st_next h1
theorem bo_qnext (h : Bo w0 x y la lb F w) (hl : lb.length ≤ 999) :
    Calls Try.prog 17 #[.pointer (some ⟨y, 0, none⟩)] w fun e w' => (∃ z, e = .returned (.tuple #[.int .i64 z, .bool (!lb.isEmpty)]) ∧ IsLeast z lb) ∧ Ext w w' := by
  obtain ⟨A, B, h1, h2, _⟩ := h
  exact rst_next h2 (by omega)
theorem bo_len (h : Bo w0 x y la lb F w) : Calls Try.prog 18 #[.pointer (some ⟨x, 0, none⟩)] w fun e w' => e = .returned (.int .i64 la.length) ∧ w' = w := by
  obtain ⟨A, B, h1, _⟩ := h
  exact st_len h1
/-- The document's row, looked at. -/
theorem Bo.cell (h : Bo w0 x y la lb F w) : ∃ p c, w.cell? ⟨y, 0, none⟩ = some (.slice p lb.length c) := by
  obtain ⟨A, B, h1, ⟨_, _, v, h2, _⟩, _⟩ := h
  obtain ⟨p, cap, rfl, -, -, -⟩ := h2.row.slice
  exact ⟨p, cap, h2.cells.1⟩
end
end Rf
end Go.Proofs.Ytlpklkkjidaecaa
