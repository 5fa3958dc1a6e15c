/- Objects beside other blocks of a statement's own; an array of four numbers. -/
import Derived.Test.YtoimkocjfijlkaaDoorObK
namespace Go.Proofs.YtoimkocjfijlkaaDoor
open Go.RowKit
set_option linter.unusedSimpArgs false
namespace Ob

/-- Objects at x, and blocks F beside them. -/
def Si (w0 : World) (x : Nat) (c : Nat → Int) (W : Nat → List Int) (F : Nat → Prop) (w : World) : Prop :=
  ∃ A, St w0 x c W A w ∧ ∀ k, F k → w0.heap.size ≤ k ∧ k < w.heap.size ∧ ¬ A k
def SameF (F : Nat → Prop) (w w' : World) : Prop := ∀ k, F k → w'.heap[k]? = w.heap[k]?
section
variable {w0 w w' : World} {x : Nat} {c c' : Nat → Int} {W W' : Nat → List Int} {F : Nat → Prop}
theorem Si.xt (h : Si w0 x c W F w) : Ext w0 w := by
  obtain ⟨A, h1, _⟩ := h
  exact h1.xt
theorem Si.cb (h : Si w0 x c W F w) : ∀ i, i < 4 → 0 ≤ c i ∧ c i ≤ 255 := by
  obtain ⟨A, h1, _⟩ := h
  exact h1.cb
theorem Si.ext (h : Si w0 x c W F w) (k : Ext w w') : Si w0 x c W F w' ∧ SameF F w w' := by
  obtain ⟨A, h1, h2⟩ := h
  exact ⟨⟨A, h1.ext k, fun i hi => ⟨(h2 i hi).1, Nat.lt_of_lt_of_le (h2 i hi).2.1 k.size, (h2 i hi).2.2⟩⟩, fun i hi => k.below.block i (h2 i hi).2.1⟩
theorem Si.fewer {G : Nat → Prop} (h : Si w0 x c W F w) (k : ∀ i, G i → F i) : Si w0 x c W G w := by
  obtain ⟨A, h1, h2⟩ := h
  exact ⟨A, h1, fun i hi => h2 i (k i hi)⟩
theorem Si.alloc (h : Si w0 x c W F w) (o : Obj) : Si w0 x c W (fun k => k = w.heap.size ∨ F k) (w.alloc o) := by
  obtain ⟨A, h1, h2⟩ := h
  have hx : Ext w (w.alloc o) := Ext.alloc (Ext.refl w) o
  have h0 := h1.xt.size
  refine ⟨A, h1.ext hx, fun i hi => ?_⟩
  rcases hi with rfl | hi
  · exact ⟨h0, by simp, fun e => absurd (h1.own _ e).2 (by omega)⟩
  · exact ⟨(h2 i hi).1, by have := (h2 i hi).2.1; simp; omega, (h2 i hi).2.2⟩
theorem Si.set (h : Si w0 x c W F w) {b : Nat} (hb : F b) (j : Nat) (u : Value) : Si w0 x c W F (w.setCell ⟨b, j, none⟩ u) := by
  obtain ⟨A, h1, h2⟩ := h
  obtain ⟨b1, b2, b3⟩ := h2 b hb
  have k : Mvp (fun k => k = b) (fun k => k = b) w (w.setCell ⟨b, j, none⟩ u) := (Mvp.refl (fun k => k = b) w).set (g := b) rfl j u
  obtain ⟨k1, k2⟩ := h1.keep k (fun i hi => by rw [hi]; exact b3) (fun i hi => by rw [hi]; exact b1)
  exact ⟨A, k1, fun i hi => ⟨(h2 i hi).1, by simpa [World.setCell] using (h2 i hi).2.1, (h2 i hi).2.2⟩⟩
theorem Si.of {A : Nat → Prop} (h2 : ∀ k, F k → w0.heap.size ≤ k ∧ k < w.heap.size ∧ ¬ A k) (k : ∃ B, St w0 x c' W' B w' ∧ Mvp A B w w') : Si w0 x c' W' F w' ∧ SameF F w w' := by
  obtain ⟨B, s, m⟩ := k
  refine ⟨⟨B, s, fun i hi => ⟨(h2 i hi).1, Nat.lt_of_lt_of_le (h2 i hi).2.1 m.size, fun e => ?_⟩⟩, fun i hi => m.block i (h2 i hi).2.1 (h2 i hi).2.2⟩
  rcases m.own i e with h5 | h5
  · exact (h2 i hi).2.2 h5
  · exact absurd (h2 i hi).2.1 (by omega)
theorem si_wait (h : Si w0 x c W F w) (id o : Int) (hw : wf64 id) (hl : (flat W).length ≤ 1000000) :
    Calls Tryd.prog 6 #[ptrV x, .int .i64 id, .int .i64 o] w fun e w' => e = .returned (.tuple #[.bool (waitR id o c W).on, errV (waitR id o c W).err]) ∧ Si w0 x (waitR id o c W).c (waitR id o c W).W F w' ∧ SameF F w w' := by
  obtain ⟨A, h1, h2⟩ := h
  exact (st_wait h1 id o hw hl).mono fun e w' ⟨a, b⟩ => ⟨a, Si.of h2 b⟩
theorem si_signal (h : Si w0 x c W F w) (o : Int) :
    Calls Tryd.prog 9 #[ptrV x, .int .i64 o] w fun e w' => e = .returned (.tuple #[.int .i64 (sigR o c W).id, .bool (sigR o c W).met, errV (sigR o c W).err]) ∧ Si w0 x (sigR o c W).c (sigR o c W).W F w' ∧ SameF F w w' := by
  obtain ⟨A, h1, h2⟩ := h
  exact (st_signal h1 o).mono fun e w' ⟨a, b⟩ => ⟨a, Si.of h2 b⟩
theorem si_drop (h : Si w0 x c W F w) (id : Int) (hw : wf64 id) :
    Calls Tryd.prog 11 #[ptrV x, .int .i64 id] w fun e w' => e = .returned (.bool (waits id W)) ∧ Si w0 x c (others id W) F w' ∧ SameF F w w' := by
  obtain ⟨A, h1, h2⟩ := h
  exact (st_drop h1 id hw).mono fun e w' ⟨a, b⟩ => ⟨a, Si.of h2 b⟩
theorem si_count (h : Si w0 x c W F w) {i : Nat} (hi : i < 4) : Calls Tryd.prog 13 #[ptrV x, .int .i64 i] w fun e w' => e = .returned (.int .i64 (c i)) ∧ w' = w := by
  obtain ⟨A, h1, h2⟩ := h
  exact st_count h1 hi
theorem si_row (h : Si w0 x c W F w) {i : Nat} (hi : i < 4) (hl : (W i).length ≤ 1000000) :
    Calls Tryd.prog 14 #[ptrV x, .int .i64 i] w fun e w' => ∃ p cap, e = .returned (.slice p (W i).length cap) ∧ Ext w w' ∧ Ints w' (.slice p (W i).length cap) (W i) := by
  obtain ⟨A, h1, h2⟩ := h
  refine (st_row h1 hi hl).mono fun v w' ⟨vd, a, b, r⟩ => ?_
  have r := ints_of_owns r
  obtain ⟨p, cap, rfl, -, -⟩ := r.shape
  exact ⟨p, cap, a, b, r⟩
end

/-- An array of four numbers. -/
def Arr (w : World) (b : Nat) (g : Nat → Int) : Prop := ∃ cs, w.heap[b]? = some (.cells cs 27 (0, 0)) ∧ cs.size = 4 ∧ ∀ j, j < 4 → cs[j]? = some (.int .i64 (g j))
section
variable {w w' : World} {b : Nat} {g : Nat → Int}
theorem Arr.lt (h : Arr w b g) : b < w.heap.size := by
  obtain ⟨cs, h1, _⟩ := h
  exact lt_blk h1
theorem Arr.cell (h : Arr w b g) {j : Nat} (hj : j < 4) : w.cell? ⟨b, j, none⟩ = some (.int .i64 (g j)) := by
  obtain ⟨cs, h1, _, h2⟩ := h
  have h2 := h2 j hj
  simp [World.cell?, h1, h2]
theorem Arr.free (h : Arr w b g) (j : Nat) : w.frozen? ⟨b, j, none⟩ = false := by
  obtain ⟨cs, h1, _⟩ := h
  simp [World.frozen?, h1]
theorem Arr.same (h : Arr w b g) (k : w'.heap[b]? = w.heap[b]?) : Arr w' b g := by
  obtain ⟨cs, h1, h2⟩ := h
  exact ⟨cs, k.trans h1, h2⟩
theorem Arr.set (h : Arr w b g) (j : Nat) (u : Int) : Arr (w.setCell ⟨b, j, none⟩ (.int .i64 u)) b (upd g j u) := by
  obtain ⟨cs, h1, h2, h3⟩ := h
  refine ⟨_, set_same h1 _ _, by simpa using h2, fun i hi => ?_⟩
  rw [Array.getElem?_setIfInBounds]
  by_cases e : i = j
  · subst e; rw [if_pos rfl, upd_same, if_pos (by omega)]
  · rw [if_neg (by omega), upd_other e]; exact h3 i hi
theorem Arr.told {g' : Nat → Int} (h : Arr w b g) (k : ∀ j, j < 4 → g' j = g j) : Arr w b g' := by
  obtain ⟨cs, h1, h2, h3⟩ := h
  exact ⟨cs, h1, h2, fun j hj => by rw [k j hj]; exact h3 j hj⟩
theorem Arr.new (w : World) : Arr (w.alloc (.cells #[.int .i64 0, .int .i64 0, .int .i64 0, .int .i64 0] 27 (0, 0))) w.heap.size (fun _ => 0) :=
  ⟨_, heap_alloc_new w _, rfl, fun j hj => by rcases four hj with rfl | rfl | rfl | rfl <;> rfl⟩
theorem Arr.far (h : Arr w b g) {b' j : Nat} {u : Value} (hne : b ≠ b') : Arr (w.setCell ⟨b', j, none⟩ u) b g := h.same (Below.heap_setCell _ _ _ _ (by simpa using hne))
end
end Ob
end Go.Proofs.YtoimkocjfijlkaaDoor
