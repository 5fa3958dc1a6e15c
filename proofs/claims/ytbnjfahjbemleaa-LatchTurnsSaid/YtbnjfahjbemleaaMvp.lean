/- What a change of an object may touch: sets of blocks. No program is named here. -/
import Derived.Test.YtbnjfahjbemleaaMv
import Derived.OwnWalk
import Derived.Handy
namespace Go.Proofs.Ytbnjfahjbemleaa
open Go.RowKit

/-- What a change of an object may touch: the blocks A; it owns the blocks B behind it: old ones of A, or new ones. -/
structure Mvp (A B : Nat → Prop) (w w' : World) : Prop where
  os : w'.os = w.os
  tape : w'.tape = w.tape
  output : w'.output = w.output
  size : w.heap.size ≤ w'.heap.size
  block : ∀ k, k < w.heap.size → ¬ A k → w'.heap[k]? = w.heap[k]?
  own : ∀ k, B k → A k ∨ w.heap.size ≤ k
theorem Mvp.refl (A : Nat → Prop) (w : World) : Mvp A A w w := ⟨rfl, rfl, rfl, Nat.le_refl _, fun _ _ _ => rfl, fun _ h => .inl h⟩
theorem Mvp.of_ext {A : Nat → Prop} {w w' : World} (k : Ext w w') : Mvp A A w w' := ⟨k.below.os, k.below.tape, k.below.output, k.size, fun i hi _ => k.below.block i hi, fun _ h => .inl h⟩
theorem Mvp.trans {A B C : Nat → Prop} {w w1 w2 : World} (h : Mvp A B w w1) (k : Mvp B C w1 w2) : Mvp A C w w2 :=
  ⟨k.os.trans h.os, k.tape.trans h.tape, k.output.trans h.output, Nat.le_trans h.size k.size,
    fun i hi hA => (k.block i (Nat.lt_of_lt_of_le hi h.size) fun e => by
      rcases h.own i e with h1 | h1
      · exact hA h1
      · omega).trans (h.block i hi hA),
    fun i hi => by
      rcases k.own i hi with h1 | h1
      · exact h.own i h1
      · exact .inr (Nat.le_trans h.size h1)⟩
theorem Mvp.turned {A B C : Nat → Prop} {w w1 : World} (h : Mvp A B w w1) (hC : ∀ k, C k → A k ∨ w.heap.size ≤ k) : Mvp A C w w1 := ⟨h.os, h.tape, h.output, h.size, h.block, hC⟩
theorem Mvp.ext {A B : Nat → Prop} {w w1 w2 : World} (h : Mvp A B w w1) (k : Ext w1 w2) : Mvp A B w w2 := h.trans (Mvp.of_ext k)
theorem Mvp.ahead {A B : Nat → Prop} {w w1 w2 : World} (k : Ext w w1) (h : Mvp A B w1 w2) : Mvp A B w w2 := (Mvp.of_ext k).trans h
/-- A store into a block that is owned. -/
theorem Mvp.set {A B : Nat → Prop} {w w1 : World} (h : Mvp A B w w1) {g : Nat} (hg : B g) (j : Nat) (u : Value) : Mvp A B w (w1.setCell ⟨g, j, none⟩ u) :=
  ⟨h.os, h.tape, h.output, by simpa [World.setCell] using h.size, fun i hi hA => (Below.heap_setCell _ _ _ _ (fun e => by
    have e : i = g := by simpa using e
    subst e
    rcases h.own i hg with h1 | h1
    · exact hA h1
    · omega)).trans (h.block i hi hA), h.own⟩
/-- One owned block has turned, nothing else. -/
theorem Mvp.grown {A B : Nat → Prop} {w w1 w2 : World} (h : Mvp A B w w1) {g : Nat} (hg : B g) (k : w1.grownBy w2 (some g)) : Mvp A B w w2 :=
  h.trans ⟨k.os, k.tape, k.output, k.size, fun i hi hB => k.block i hi (fun e => hB (by cases e; exact hg)), fun _ h => .inl h⟩
theorem Mvp.owns {A B C : Nat → Prop} {w w1 : World} (h : Mvp A B w w1) (k : ∀ i, C i → B i) : Mvp A C w w1 := ⟨h.os, h.tape, h.output, h.size, h.block, fun i hi => h.own i (k i hi)⟩
theorem Mvp.blk {A B : Nat → Prop} {w w1 : World} {c : Nat} {o : Obj} (h : Mvp A B w w1) (hc : w.heap[c]? = some o) (hA : ¬ A c) : w1.heap[c]? = some o := by
  rw [h.block c (lt_blk hc) hA]; exact hc
theorem Mvp.xt {A B : Nat → Prop} {w0 w w1 : World} (h : Mvp A B w w1) (k : Ext w0 w) (hA : ∀ i, A i → w0.heap.size ≤ i) : Ext w0 w1 :=
  ⟨⟨h.os.trans k.below.os, h.tape.trans k.below.tape, h.output.trans k.below.output, Nat.le_trans k.size h.size, fun i hi => (h.block i (Nat.lt_of_lt_of_le hi k.size) fun e => absurd (hA i e) (by omega)).trans (k.below.block i hi)⟩⟩
theorem Mvp.beside {A B : Nat → Prop} {w w1 w2 : World} {b : Option Nat} (h : Mvp A B w w1) (k : w1.grownBy w2 b) (hb : ∀ i, b = some i → w.heap.size ≤ i) : Mvp A B w w2 :=
  ⟨k.os.trans h.os, k.tape.trans h.tape, k.output.trans h.output, Nat.le_trans h.size k.size,
    fun i hi hA => (k.block i (Nat.lt_of_lt_of_le hi h.size) fun e => absurd (hb i e.symm) (by omega)).trans (h.block i hi hA), h.own⟩
end Go.Proofs.Ytbnjfahjbemleaa
