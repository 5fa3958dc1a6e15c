/- Both, the program's objects and the document's, beside one another, and blocks beside both. -/
import Derived.Test.YtoimkocjfijlkaaDoorRo3
import Derived.Test.YtoimkocjfijlkaaDoorObA
import Derived.Test.YtoimkocjfijlkaaDoorSI
namespace Go.Proofs.YtoimkocjfijlkaaDoor
open Go.RowKit
set_option maxRecDepth 100000
set_option linter.unusedSimpArgs false
namespace Ro
open Ob

theorem RO.told {base y : Nat} {c : Nat → Int} {V : Nat → Value} {W W' : Nat → List Int} {w : World} (h : RO base y c V W w) (k : ∀ j, j < 4 → W' j = W j) : RO base y c V W' w := ⟨h.blk, fun i hi => by rw [k i hi]; exact h.rows i hi, h.bx⟩
/-- The document's objects at y; they own the blocks A. -/
def RSt (w0 : World) (y : Nat) (c : Nat → Int) (W : Nat → List Int) (A : Nat → Prop) (w : World) : Prop := Ext w0 w ∧ ∃ V, RO w0.heap.size y c V W w ∧ A = ROwn y V
theorem waits_ex {id : Int} {W : Nat → List Int} : waits id W = true ↔ ∃ j, j < 4 ∧ (W j).contains id = true := by
  unfold waits
  rw [List.contains_iff_mem, mem_flat]
  constructor
  · rintro ⟨i, hi, h⟩; exact ⟨i, hi, by rw [List.contains_iff_mem]; exact h⟩
  · rintro ⟨i, hi, h⟩; exact ⟨i, hi, by rw [List.contains_iff_mem] at h; exact h⟩
theorem met_waits (id : Int) (W : Nat → List Int) : met id W 4 = waits id W := by
  rw [Bool.eq_iff_iff, waits_ex]
  unfold met
  rw [List.any_eq_true]
  constructor
  · rintro ⟨j, hj, h⟩; exact ⟨j, List.mem_range.1 hj, h⟩
  · rintro ⟨j, hj, h⟩; exact ⟨j, List.mem_range.2 hj, h⟩
section
variable {w0 w w' : World} {x y : Nat} {c : Nat → Int} {W : Nat → List Int} {A B C : Nat → Prop}
theorem RSt.own (h : RSt w0 y c W A w) : ∀ k, A k → w0.heap.size ≤ k ∧ k < w.heap.size := by
  obtain ⟨_, V, h1, rfl⟩ := h
  exact h1.own
theorem RSt.ext (h : RSt w0 y c W A w) (k : Ext w w') : RSt w0 y c W A w' := by
  obtain ⟨h0, V, h1, h2⟩ := h
  exact ⟨h0.trans k, V, h1.ext k, h2⟩
theorem RSt.keep (h : RSt w0 y c W C w) (k : Mvp A B w w') (hAC : ∀ i, A i → ¬ C i) (hA : ∀ i, A i → w0.heap.size ≤ i) : RSt w0 y c W C w' ∧ ∀ i, B i → ¬ C i := by
  have hlt := fun i hi => (h.own i hi).2
  obtain ⟨h0, V, h1, rfl⟩ := h
  refine ⟨⟨k.xt h0 hA, V, h1.keep k.size fun b hb => k.block b (hlt b hb) fun e => hAC b e hb, rfl⟩, fun i hB hC => ?_⟩
  rcases k.own i hB with h4 | h4
  · exact hAC i h4 hC
  · have := hlt i hC
    omega
theorem RSt.of {V V' : Nat → Value} {c' : Nat → Int} {W' : Nat → List Int} (h0 : Ext w0 w) (h : RO w0.heap.size y c V W w) (k : RO w0.heap.size y c' V' W' w') (hm : Mvp (ROwn y V) (ROwn y V') w w') : ∃ B, RSt w0 y c' W' B w' ∧ Mvp (ROwn y V) B w w' :=
  ⟨_, ⟨hm.xt h0 fun i hi => (h.own i hi).1, V', k, rfl⟩, hm⟩
theorem rst_wait (h : RSt w0 y c W A w) (hc : ∀ i, i < 4 → 0 ≤ c i ∧ c i ≤ 255) (id o : Int) (hl : ∀ j, j < 4 → (W j).length ≤ 1000000) :
    Calls Tryd.prog 7 #[ptrV y, .int .i64 id, .int .i64 o] w fun e w' => e = .returned (.tuple #[.bool (waitR id o c W).on, .int .i64 (waitR id o c W).err]) ∧ ∃ B, RSt w0 y (waitR id o c W).c (waitR id o c W).W B w' ∧ Mvp A B w w' := by
  by_cases ho : o < 0 ∨ 4 ≤ o
  · unfold waitR
    rw [if_pos ho]
    refine (wait_form (y := y) w ho id).mono fun e w' ⟨a, b⟩ => ⟨a, A, ?_, ?_⟩
    · rw [b]; exact h
    · rw [b]; exact Mvp.refl _ _
  obtain ⟨i, hi, rfl⟩ : ∃ i : Nat, i < 4 ∧ o = i := ⟨o.toNat, by omega, by omega⟩
  have ei : ((i : Nat) : Int).toNat = i := by omega
  unfold waitR
  rw [if_neg ho, ei]
  have hn := h
  obtain ⟨h0, V, h1, rfl⟩ := hn
  by_cases hq : waits id W = true
  · rw [if_pos hq]
    exact (wait_clash h1 hi hl (waits_ex.1 hq)).mono fun v w' ⟨a, b⟩ => ⟨a, _, h.ext b, Mvp.of_ext b⟩
  rw [if_neg hq]
  have hno : ∀ j, j < 4 → (W j).contains id = false := fun j hj => by
    cases q : (W j).contains id with
    | false => rfl
    | true => exact absurd (waits_ex.2 ⟨j, hj, q⟩) hq
  have := hc i hi
  by_cases hp : 0 < c i
  · rw [if_pos hp]
    exact (wait_on h1 hi hl hno hp this.2).mono fun v w' ⟨a, b, d⟩ => ⟨a, RSt.of h0 h1 b d⟩
  · rw [if_neg hp]
    exact (wait_wait h1 h0.size hi hl hno (by omega)).mono fun v w' ⟨a, V', b, d⟩ => ⟨a, RSt.of h0 h1 b d⟩
theorem rst_signal (h : RSt w0 y c W A w) (hc : ∀ i, i < 4 → 0 ≤ c i ∧ c i ≤ 255) (o : Int) (hl : ∀ j, j < 4 → (W j).length ≤ 1000000) :
    Calls Tryd.prog 10 #[ptrV y, .int .i64 o] w fun e w' => e = .returned (.tuple #[.int .i64 (sigR o c W).id, .bool (sigR o c W).met, .int .i64 (sigR o c W).err]) ∧ ∃ B, RSt w0 y (sigR o c W).c (sigR o c W).W B w' ∧ Mvp A B w w' := by
  by_cases ho : o < 0 ∨ 4 ≤ o
  · unfold sigR
    rw [if_pos ho]
    refine (signal_form (y := y) w ho).mono fun e w' ⟨a, b⟩ => ⟨a, A, ?_, ?_⟩
    · rw [b]; exact h
    · rw [b]; exact Mvp.refl _ _
  obtain ⟨i, hi, rfl⟩ : ∃ i : Nat, i < 4 ∧ o = i := ⟨o.toNat, by omega, by omega⟩
  have ei : ((i : Nat) : Int).toNat = i := by omega
  unfold sigR
  rw [if_neg ho, ei]
  obtain ⟨h0, V, h1, rfl⟩ := h
  cases hr : W i with
  | nil => exact (signal_none h1 hi hr (hc i hi)).mono fun v w' ⟨a, b, d⟩ => ⟨a, RSt.of h0 h1 b d⟩
  | cons q L => exact (signal_one h1 hi hr (hl i hi)).mono fun v w' ⟨a, V', b, d⟩ => ⟨a, RSt.of h0 h1 b d⟩
theorem rst_drop (h : RSt w0 y c W A w) (id : Int) (hl : ∀ j, j < 4 → (W j).length ≤ 1000000) :
    Calls Tryd.prog 12 #[ptrV y, .int .i64 id] w fun e w' => e = .returned (.bool (waits id W)) ∧ ∃ B, RSt w0 y c (others id W) B w' ∧ Mvp A B w w' := by
  obtain ⟨h0, V, h1, rfl⟩ := h
  refine (drop_any h1 h0.size id hl).mono fun v w' ⟨a, V', b, d⟩ => ⟨by rw [a, met_waits], RSt.of h0 h1 (b.told fun j hj => ?_) d⟩
  unfold others thr
  rw [if_pos hj]

/-- The program's at x, the document's at y: alike; blocks F beside both. -/
def Bo (w0 : World) (x y : Nat) (c : Nat → Int) (W : Nat → List Int) (d : Nat → Int) (U : Nat → List Int) (F : Nat → Prop) (w : World) : Prop :=
  ∃ A B, St w0 x c W A w ∧ RSt w0 y d U B w ∧ (∀ k, A k → ¬ B k) ∧ ∀ k, F k → k < w.heap.size ∧ w0.heap.size ≤ k ∧ ¬ A k ∧ ¬ B k
variable {d : Nat → Int} {U : Nat → List Int} {F : Nat → Prop}
theorem Bo.xt (h : Bo w0 x y c W d U F w) : Ext w0 w := by
  obtain ⟨A, B, h1, _⟩ := h
  exact h1.xt
theorem Bo.cb (h : Bo w0 x y c W d U F w) : ∀ i, i < 4 → 0 ≤ c i ∧ c i ≤ 255 := by
  obtain ⟨A, B, h1, _⟩ := h
  exact h1.cb
theorem Bo.ext (h : Bo w0 x y c W d U F w) (k : Ext w w') : Bo w0 x y c W d U F w' ∧ SameF F w w' := by
  obtain ⟨A, B, h1, h2, h3, h4⟩ := h
  exact ⟨⟨A, B, h1.ext k, h2.ext k, h3, fun i hi => ⟨Nat.lt_of_lt_of_le (h4 i hi).1 k.size, (h4 i hi).2⟩⟩, fun i hi => k.below.block i (h4 i hi).1⟩
theorem Bo.fewer {G : Nat → Prop} (h : Bo w0 x y c W d U F w) (k : ∀ i, G i → F i) : Bo w0 x y c W d U G w := by
  obtain ⟨A, B, h1, h2, h3, h4⟩ := h
  exact ⟨A, B, h1, h2, h3, fun i hi => h4 i (k i hi)⟩
/-- One more block, laid now. -/
theorem Bo.alloc (h : Bo w0 x y c W d U F w) (o : Obj) : Bo w0 x y c W d U (fun k => k = w.heap.size ∨ F k) (w.alloc o) := by
  obtain ⟨A, B, h1, h2, h3, h4⟩ := h
  have hx : Ext w (w.alloc o) := Ext.alloc (Ext.refl w) o
  have hx0 := h1.xt.size
  refine ⟨A, B, h1.ext hx, h2.ext hx, h3, fun i hi => ?_⟩
  rcases hi with rfl | hi
  · exact ⟨by simp, hx0, fun e => absurd (h1.own _ e).2 (by omega), fun e => absurd (h2.own _ e).2 (by omega)⟩
  · exact ⟨by have := (h4 i hi).1; simp; omega, (h4 i hi).2⟩
def zeroO : Obj := .cells #[.int .i64 0, .int .i64 0, .int .i64 0, .int .i64 0, .slice none 0 0, .slice none 0 0, .slice none 0 0, .slice none 0 0] 31 (0, 0)
theorem bo_start {A : Nat → Prop} (h : St w0 x (fun _ => 0) (fun _ => []) A w) : Bo w0 x w.heap.size (fun _ => 0) (fun _ => []) (fun _ => 0) (fun _ => []) (fun _ => False) (w.alloc zeroO) := by
  have hx : Ext w (w.alloc zeroO) := Ext.alloc (Ext.refl w) _
  refine ⟨A, ROwn w.heap.size (fun _ => .slice none 0 0), h.ext hx, ⟨h.xt.trans hx, fun _ => .slice none 0 0, ⟨⟨_, heap_alloc_new w _, rfl, fun i hi => ?_⟩, fun i _ => .inl ⟨rfl, rfl⟩, h.xt.size⟩, rfl⟩, fun k hA hB => ?_, fun _ hF => hF.elim⟩
  · rcases four hi with rfl | rfl | rfl | rfl <;> exact ⟨rfl, rfl⟩
  · rcases hB with rfl | ⟨i, _, hB⟩
    · exact absurd (h.own _ hA).2 (by omega)
    · cases hB
/-- The program's turn. -/
theorem Bo.p {A B : Nat → Prop} {c' : Nat → Int} {W' : Nat → List Int} (h1 : St w0 x c W A w) (h2 : RSt w0 y d U B w) (h3 : ∀ k, A k → ¬ B k) (h4 : ∀ k, F k → k < w.heap.size ∧ w0.heap.size ≤ k ∧ ¬ A k ∧ ¬ B k)
    (k : ∃ A', St w0 x c' W' A' w' ∧ Mvp A A' w w') : Bo w0 x y c' W' d U F w' ∧ SameF F w w' := by
  obtain ⟨A', s, m⟩ := k
  obtain ⟨k1, k2⟩ := h2.keep m h3 fun i hi => (h1.own i hi).1
  refine ⟨⟨A', B, s, k1, k2, fun i hi => ⟨Nat.lt_of_lt_of_le (h4 i hi).1 m.size, (h4 i hi).2.1, fun e => ?_, (h4 i hi).2.2.2⟩⟩, fun i hi => m.block i (h4 i hi).1 (h4 i hi).2.2.1⟩
  rcases m.own i e with h5 | h5
  · exact (h4 i hi).2.2.1 h5
  · exact absurd (h4 i hi).1 (by omega)
theorem Bo.q {A B : Nat → Prop} {d' : Nat → Int} {U' : Nat → List Int} (h1 : St w0 x c W A w) (h2 : RSt w0 y d U B w) (h3 : ∀ k, A k → ¬ B k) (h4 : ∀ k, F k → k < w.heap.size ∧ w0.heap.size ≤ k ∧ ¬ A k ∧ ¬ B k)
    (k : ∃ B', RSt w0 y d' U' B' w' ∧ Mvp B B' w w') : Bo w0 x y c W d' U' F w' ∧ SameF F w w' := by
  obtain ⟨B', s, m⟩ := k
  obtain ⟨k1, k2⟩ := h1.keep m (fun i hb ha => h3 i ha hb) fun i hi => (h2.own i hi).1
  refine ⟨⟨A, B', k1, s, fun i ha hb => k2 i hb ha, fun i hi => ⟨Nat.lt_of_lt_of_le (h4 i hi).1 m.size, (h4 i hi).2.1, (h4 i hi).2.2.1, fun e => ?_⟩⟩, fun i hi => m.block i (h4 i hi).1 (h4 i hi).2.2.2⟩
  rcases m.own i e with h5 | h5
  · exact (h4 i hi).2.2.2 h5
  · exact absurd (h4 i hi).1 (by omega)
theorem bo_pwait (h : Bo w0 x y c W d U F w) (id o : Int) (hw : wf64 id) (hl : (flat W).length ≤ 1000000) :
    Calls Tryd.prog 6 #[ptrV x, .int .i64 id, .int .i64 o] w fun e w' => e = .returned (.tuple #[.bool (waitR id o c W).on, errV (waitR id o c W).err]) ∧ Bo w0 x y (waitR id o c W).c (waitR id o c W).W d U F w' ∧ SameF F w w' := by
  obtain ⟨A, B, h1, h2, h3, h4⟩ := h
  exact (st_wait h1 id o hw hl).mono fun e w' ⟨a, b⟩ => ⟨a, Bo.p h1 h2 h3 h4 b⟩
theorem bo_psignal (h : Bo w0 x y c W d U F w) (o : Int) :
    Calls Tryd.prog 9 #[ptrV x, .int .i64 o] w fun e w' => e = .returned (.tuple #[.int .i64 (sigR o c W).id, .bool (sigR o c W).met, errV (sigR o c W).err]) ∧ Bo w0 x y (sigR o c W).c (sigR o c W).W d U F w' ∧ SameF F w w' := by
  obtain ⟨A, B, h1, h2, h3, h4⟩ := h
  exact (st_signal h1 o).mono fun e w' ⟨a, b⟩ => ⟨a, Bo.p h1 h2 h3 h4 b⟩
theorem bo_pdrop (h : Bo w0 x y c W d U F w) (id : Int) (hw : wf64 id) :
    Calls Tryd.prog 11 #[ptrV x, .int .i64 id] w fun e w' => e = .returned (.bool (waits id W)) ∧ Bo w0 x y c (others id W) d U F w' ∧ SameF F w w' := by
  obtain ⟨A, B, h1, h2, h3, h4⟩ := h
  exact (st_drop h1 id hw).mono fun e w' ⟨a, b⟩ => ⟨a, Bo.p h1 h2 h3 h4 b⟩
theorem bo_qwait (h : Bo w0 x y c W d U F w) (hd : ∀ i, i < 4 → 0 ≤ d i ∧ d i ≤ 255) (id o : Int) (hl : ∀ j, j < 4 → (U j).length ≤ 1000000) :
    Calls Tryd.prog 7 #[ptrV y, .int .i64 id, .int .i64 o] w fun e w' => e = .returned (.tuple #[.bool (waitR id o d U).on, .int .i64 (waitR id o d U).err]) ∧ Bo w0 x y c W (waitR id o d U).c (waitR id o d U).W F w' ∧ SameF F w w' := by
  obtain ⟨A, B, h1, h2, h3, h4⟩ := h
  exact (rst_wait h2 hd id o hl).mono fun e w' ⟨a, b⟩ => ⟨a, Bo.q h1 h2 h3 h4 b⟩
theorem bo_qsignal (h : Bo w0 x y c W d U F w) (hd : ∀ i, i < 4 → 0 ≤ d i ∧ d i ≤ 255) (o : Int) (hl : ∀ j, j < 4 → (U j).length ≤ 1000000) :
    Calls Tryd.prog 10 #[ptrV y, .int .i64 o] w fun e w' => e = .returned (.tuple #[.int .i64 (sigR o d U).id, .bool (sigR o d U).met, .int .i64 (sigR o d U).err]) ∧ Bo w0 x y c W (sigR o d U).c (sigR o d U).W F w' ∧ SameF F w w' := by
  obtain ⟨A, B, h1, h2, h3, h4⟩ := h
  exact (rst_signal h2 hd o hl).mono fun e w' ⟨a, b⟩ => ⟨a, Bo.q h1 h2 h3 h4 b⟩
theorem bo_qdrop (h : Bo w0 x y c W d U F w) (id : Int) (hl : ∀ j, j < 4 → (U j).length ≤ 1000000) :
    Calls Tryd.prog 12 #[ptrV y, .int .i64 id] w fun e w' => e = .returned (.bool (waits id U)) ∧ Bo w0 x y c W d (others id U) F w' ∧ SameF F w w' := by
  obtain ⟨A, B, h1, h2, h3, h4⟩ := h
  exact (rst_drop h2 id hl).mono fun e w' ⟨a, b⟩ => ⟨a, Bo.q h1 h2 h3 h4 b⟩
theorem bo_count (h : Bo w0 x y c W d U F w) {i : Nat} (hi : i < 4) : Calls Tryd.prog 13 #[ptrV x, .int .i64 i] w fun e w' => e = .returned (.int .i64 (c i)) ∧ w' = w := by
  obtain ⟨A, B, h1, _⟩ := h
  exact st_count h1 hi
theorem bo_row (h : Bo w0 x y c W d U F w) {i : Nat} (hi : i < 4) (hl : (W i).length ≤ 1000000) :
    Calls Tryd.prog 14 #[ptrV x, .int .i64 i] w fun e w' => ∃ vd, e = .returned vd ∧ Ext w w' ∧ Ints w' vd (W i) := by
  obtain ⟨A, B, h1, _⟩ := h
  exact (st_row h1 hi hl).mono fun v w' ⟨vd, a, b, r⟩ => ⟨vd, a, b, ints_of_owns r⟩
/-- The document's counts, rows, looked at. -/
theorem Bo.cell (h : Bo w0 x y c W d U F w) {i : Nat} (hi : i < 4) : ∃ p cap, w.cell? ⟨y, i, none⟩ = some (.int .i64 (d i)) ∧ w.cell? ⟨y, 4 + i, none⟩ = some (.slice p (U i).length cap) ∧ Ints w (.slice p (U i).length cap) (U i) := by
  obtain ⟨A, B, h1, ⟨_, V, h2, _⟩, _⟩ := h
  obtain ⟨c0, c1⟩ := h2.cell hi
  have hr := (h2.rows i hi).ints
  obtain ⟨p, cap, hv, -, -⟩ := (h2.rows i hi).shape
  rw [hv] at c1 hr
  exact ⟨p, cap, c0, c1, hr⟩
end
end Ro
end Go.Proofs.YtoimkocjfijlkaaDoor
