/- Rows of numbers of a kind that came in; bounds of narrow numbers; two rows of the call's own beside one another. -/
import Derived.Test.YtbnjfahjbemleaaBlk
import Derived.Test.YtbnjfahjbemleaaOwn2
import Derived.Test.YtbnjfahjbemleaaPush
import Derived.Test.YtbnjfahjbemleaaPush4
import Derived.ArgAppend
import Derived.IntWalk
namespace Go.Proofs.Ytbnjfahjbemleaa
open Go.RowKit

theorem nums_ints {w : World} {v : Value} {l : List Int} (h : Nums .i64 w v l) : Ints w v l := by
  obtain ⟨p, cap, rfl, h1, h2, h3⟩ := h
  refine ⟨p, cap, rfl, h1, h2, fun h0 => ?_⟩
  obtain ⟨b, off, rfl, h4⟩ := h3 h0
  exact ⟨b, off, rfl, fun i x hx => (h4 i x hx).1⟩
theorem nums_wf {k : IntKind} {w : World} {v : Value} {l : List Int} (h : Nums k w v l) : ∀ x ∈ l, (Lit.int k x).wf = true := by
  intro x hx
  obtain ⟨i, hi, rfl⟩ := List.getElem_of_mem hx
  obtain ⟨p, cap, rfl, _, _⟩ := h.shape
  obtain ⟨b, off, _, hc⟩ := h.at i hi
  exact hc.2
theorem wf_bounds64 {n : Int} (h : (Lit.int .i64 n).wf = true) : wf64 n := by
  have e1 : IntKind.i64.min = -9223372036854775808 := by decide
  have e2 : IntKind.i64.max = 9223372036854775807 := by decide
  simpa [Lit.wf, e1, e2, wf64] using h
theorem wf_bounds8 {n : Int} (h : (Lit.int .u8 n).wf = true) : 0 ≤ n ∧ n ≤ 255 := by
  have e1 : IntKind.u8.min = 0 := by decide
  have e2 : IntKind.u8.max = 255 := by decide
  simpa [Lit.wf, e1, e2] using h
theorem wf_bounds16 {n : Int} (h : (Lit.int .u16 n).wf = true) : 0 ≤ n ∧ n ≤ 65535 := by
  have e1 : IntKind.u16.min = 0 := by decide
  have e2 : IntKind.u16.max = 65535 := by decide
  simpa [Lit.wf, e1, e2] using h

theorem owns_map (w : World) (base : Nat) {v : Value} {m : Nat} {l : List Int} (h : w.ownsRow base 3 1 v m (l.map iV)) : m = l.length ∧ Ints w v l := by
  have e : m = l.length := by have := h.1; simpa using this.symm
  subst e
  exact ⟨rfl, ints_of_owns h⟩
theorem iV_snoc (l : List Int) (x : Int) : l.map iV ++ [Value.int .i64 x] = (l ++ [x]).map iV := by rw [List.map_append]; rfl
/-- Two rows of the call's own beside one another. -/
structure Pair (base : Nat) (va vb : Value) (A B : List Int) (w : World) : Prop where
  a : w.ownsRow base 3 1 va A.length (A.map iV)
  b : w.ownsRow base 3 1 vb B.length (B.map iV)
  dis : ∀ g, va.ownBlock = some g → vb.ownBlock ≠ some g
theorem Pair.nil (base : Nat) (w : World) : Pair base (.slice none 0 0) (.slice none 0 0) [] [] w := ⟨World.ownsRow_nil _ _ _ _, World.ownsRow_nil _ _ _ _, fun g h => by cases h⟩
theorem Pair.swap {base : Nat} {va vb : Value} {A B : List Int} {w : World} (h : Pair base va vb A B w) : Pair base vb va B A w := ⟨h.b, h.a, fun g h1 h2 => h.dis g h2 h1⟩
theorem Pair.ext {base : Nat} {va vb : Value} {A B : List Int} {w u : World} (h : Pair base va vb A B w) (k : Ext w u) : Pair base va vb A B u := ⟨owns_ext h.a k, owns_ext h.b k, h.dis⟩
theorem Pair.push {base : Nat} {va vb : Value} {A B : List Int} {w w1 : World} {p : Option Addr} {c : Nat} {x : Int} (h : Pair base va vb A B w) (ho : w1.ownsRow base 3 1 (.slice p (A.length + 1) c) (A.length + 1) (A.map iV ++ [.int .i64 x]))
    (hg : ∀ g, (Value.slice p (A.length + 1) c).ownBlock = some g → va.ownBlock = some g ∨ w.heap.size ≤ g) (hk : ∀ b, b < w.heap.size → va.ownBlock ≠ some b → w1.heap[b]? = w.heap[b]?) : Pair base (.slice p (A.length + 1) c) vb (A ++ [x]) B w1 := by
  refine ⟨by rw [iV_snoc] at ho; simpa using ho, owns_beside h.b hk fun g h1 h2 => h.dis g h2 h1, fun g h1 h2 => ?_⟩
  rcases hg g h1 with h3 | h3
  · exact h.dis g h3 h2
  · have := (h.b.lt g h2).2
    omega
end Go.Proofs.Ytbnjfahjbemleaa
