/- What a change of an object may touch: its own block and its row's; the new row lies there or in a new one. No program is named here. -/
import Derived.Test.YtbnjfahjbemleaaLib
import Derived.OwnWalk
namespace Go.Proofs.Ytbnjfahjbemleaa
open Go.RowKit

theorem lt_blk {w : World} {g : Nat} {o : Obj} (h : w.heap[g]? = some o) : g < w.heap.size := (Array.getElem?_eq_some_iff.1 h).1
theorem set_same {w : World} {b : Nat} {cs : Array Value} {T : TypeId} (h : w.heap[b]? = some (.cells cs T (0, 0))) (j : Nat) (u : Value) : (w.setCell ⟨b, j, none⟩ u).heap[b]? = some (.cells (cs.setIfInBounds j u) T (0, 0)) := by
  simp only [World.setCell, Array.getElem?_modify, if_true, h]
  rfl

/-- What a change of an index may touch: its own block x, the old row's block; the new row lies there or in a new one. -/
structure Mv (x : Nat) (v v' : Value) (w w' : World) : Prop where
  os : w'.os = w.os
  tape : w'.tape = w.tape
  output : w'.output = w.output
  size : w.heap.size ≤ w'.heap.size
  block : ∀ k, k < w.heap.size → k ≠ x → v.ownBlock ≠ some k → w'.heap[k]? = w.heap[k]?
  own : ∀ k, v'.ownBlock = some k → v.ownBlock = some k ∨ w.heap.size ≤ k
theorem Mv.refl (x : Nat) (v : Value) (w : World) : Mv x v v w w := ⟨rfl, rfl, rfl, Nat.le_refl _, fun _ _ _ _ => rfl, fun _ h => .inl h⟩
theorem Mv.trans {x : Nat} {v v1 v2 : Value} {w w1 w2 : World} (h : Mv x v v1 w w1) (k : Mv x v1 v2 w1 w2) : Mv x v v2 w w2 :=
  ⟨k.os.trans h.os, k.tape.trans h.tape, k.output.trans h.output, Nat.le_trans h.size k.size,
    fun i hi hx hv => (k.block i (Nat.lt_of_lt_of_le hi h.size) hx fun e => by
      rcases h.own i e with h1 | h1
      · exact hv h1
      · omega).trans (h.block i hi hx hv),
    fun i hi => by
      rcases k.own i hi with h1 | h1
      · exact h.own i h1
      · exact .inr (Nat.le_trans h.size h1)⟩
theorem Mv.ext {x : Nat} {v v1 : Value} {w w1 w2 : World} (h : Mv x v v1 w w1) (k : Ext w1 w2) : Mv x v v1 w w2 :=
  ⟨k.below.os.trans h.os, k.below.tape.trans h.tape, k.below.output.trans h.output, Nat.le_trans h.size k.size, fun i hi hx hv => (k.below.block i (Nat.lt_of_lt_of_le hi h.size)).trans (h.block i hi hx hv), h.own⟩
theorem Mv.of_ext {x : Nat} {v : Value} {w w1 : World} (k : Ext w w1) : Mv x v v w w1 := (Mv.refl x v w).ext k
/-- A store into the index's block, or its row's. -/
theorem Mv.setX {x : Nat} {v v1 : Value} {w w1 : World} (h : Mv x v v1 w w1) (j : Nat) (u : Value) : Mv x v v1 w (w1.setCell ⟨x, j, none⟩ u) :=
  ⟨h.os, h.tape, h.output, by simpa [World.setCell] using h.size, fun i hi hx hv => (Below.heap_setCell _ _ _ _ (fun e => hx (by simpa using e))).trans (h.block i hi hx hv), h.own⟩
theorem Mv.setG {x g : Nat} {v v1 : Value} {w w1 : World} (h : Mv x v v1 w w1) (hg : v1.ownBlock = some g) (j : Nat) (u : Value) : Mv x v v1 w (w1.setCell ⟨g, j, none⟩ u) :=
  ⟨h.os, h.tape, h.output, by simpa [World.setCell] using h.size, fun i hi hx hv => (Below.heap_setCell _ _ _ _ (fun e => by
    have e : i = g := by simpa using e
    subst e
    rcases h.own i hg with h1 | h1
    · exact hv h1
    · omega)).trans (h.block i hi hx hv), h.own⟩
theorem Mv.below {x base : Nat} {v v1 : Value} {w w1 : World} (h : Mv x v v1 w w1) (hx : base ≤ x) (hv : ∀ k, v.ownBlock = some k → base ≤ k) (hs : base ≤ w.heap.size) : Below base w w1 :=
  ⟨h.os, h.tape, h.output, h.size, fun i hi => h.block i (by omega) (by omega) fun e => by have := hv i e; omega⟩
theorem Mv.blk {x c : Nat} {v v1 : Value} {w w1 : World} {o : Obj} (h : Mv x v v1 w w1) (hc : w.heap[c]? = some o) (hx : c ≠ x) (hv : v.ownBlock ≠ some c) : w1.heap[c]? = some o := by
  rw [h.block c (lt_blk hc) hx hv]; exact hc
/-- The value in the index's block turned. -/
theorem Mv.value {x : Nat} {v v1 v2 : Value} {w w1 : World} (h : Mv x v v1 w w1) (e : v2.ownBlock = v1.ownBlock) : Mv x v v2 w w1 := ⟨h.os, h.tape, h.output, h.size, h.block, fun k hk => h.own k (by rw [← e]; exact hk)⟩
end Go.Proofs.Ytbnjfahjbemleaa
