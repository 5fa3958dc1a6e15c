/- The program's timers in memory: who sleeps, the places by id. -/
import Derived.Test.YtlpklkkjidaecaaRows
import Derived.Test.YtlpklkkjidaecaaTiM
import Derived.Maps.OwnSet
import Derived.WalkKit
import Derived.OwnWalk
import Derived.Handy
namespace Go.Proofs.Ytlpklkkjidaecaa
open Go.RowKit

/-- What a change of an object may touch: the blocks A; it owns the blocks B behind it: old ones of A, or new ones. -/
structure Mvp (A B : Nat → Prop) (w w' : World) : Prop where
  os : w'.os = w.os
  tape : w'.tape = w.tape
  output : w'.output = w.output
  size : w.heap.size ≤ w'.heap.size
  block : ∀ k, k < w.heap.size → ¬ A k → w'.heap[k]? = w.heap[k]?
  own : ∀ k, B k → A k ∨ w.heap.size ≤ k
theorem Mvp.refl (A : Nat → Prop) (w : World) : Mvp A A w w := ⟨rfl, rfl, rfl, Nat.le_refl _, fun _ _ _ => rfl, fun _ h => .inl h⟩
theorem Mvp.of_ext {A : Nat → Prop} {w w' : World} (k : Ext w w') : Mvp A A w w' := ⟨k.below.os, k.below.tape, k.below.output, k.size, fun i hi _ => k.below.block i hi, fun _ h => .inl h⟩
theorem Mvp.trans {A B C : Nat → Prop} {w w1 w2 : World} (h : Mvp A B w w1) (k : Mvp B C w1 w2) : Mvp A C w w2 :=
  ⟨k.os.trans h.os, k.tape.trans h.tape, k.output.trans h.output, Nat.le_trans h.size k.size,
    fun i hi hA => (k.block i (Nat.lt_of_lt_of_le hi h.size) fun e => by
      rcases h.own i e with h1 | h1
      · exact hA h1
      · omega).trans (h.block i hi hA),
    fun i hi => by
      rcases k.own i hi with h1 | h1
      · exact h.own i h1
      · exact .inr (Nat.le_trans h.size h1)⟩
theorem Mvp.ext {A B : Nat → Prop} {w w1 w2 : World} (h : Mvp A B w w1) (k : Ext w1 w2) : Mvp A B w w2 := h.trans (Mvp.of_ext k)
theorem Mvp.ahead {A B : Nat → Prop} {w w1 w2 : World} (k : Ext w w1) (h : Mvp A B w1 w2) : Mvp A B w w2 := (Mvp.of_ext k).trans h
/-- A store into a block that is owned. -/
theorem Mvp.set {A B : Nat → Prop} {w w1 : World} (h : Mvp A B w w1) {g : Nat} (hg : B g) (j : Nat) (u : Value) : Mvp A B w (w1.setCell ⟨g, j, none⟩ u) :=
  ⟨h.os, h.tape, h.output, by simpa [World.setCell] using h.size, fun i hi hA => (Below.heap_setCell _ _ _ _ (fun e => by
    have e : i = g := by simpa using e
    subst e
    rcases h.own i hg with h1 | h1
    · exact hA h1
    · omega)).trans (h.block i hi hA), h.own⟩
/-- One owned block has turned, nothing else. -/
theorem Mvp.grown {A B : Nat → Prop} {w w1 w2 : World} (h : Mvp A B w w1) {g : Nat} (hg : B g) (k : w1.grownBy w2 (some g)) : Mvp A B w w2 :=
  h.trans ⟨k.os, k.tape, k.output, k.size, fun i hi hB => k.block i hi (fun e => hB (by cases e; exact hg)), fun _ h => .inl h⟩
theorem Mvp.owns {A B C : Nat → Prop} {w w1 : World} (h : Mvp A B w w1) (k : ∀ i, C i → B i) : Mvp A C w w1 := ⟨h.os, h.tape, h.output, h.size, h.block, fun i hi => h.own i (k i hi)⟩
theorem Mvp.blk {A B : Nat → Prop} {w w1 : World} {c : Nat} {o : Obj} (h : Mvp A B w w1) (hc : w.heap[c]? = some o) (hA : ¬ A c) : w1.heap[c]? = some o := by
  rw [h.block c (lt_blk hc) hA]; exact hc
theorem Mvp.xt {A B : Nat → Prop} {w0 w w1 : World} (h : Mvp A B w w1) (k : Ext w0 w) (hA : ∀ i, A i → w0.heap.size ≤ i) : Ext w0 w1 :=
  ⟨⟨h.os.trans k.below.os, h.tape.trans k.below.tape, h.output.trans k.below.output, Nat.le_trans k.size h.size, fun i hi => (h.block i (Nat.lt_of_lt_of_le hi k.size) fun e => absurd (hA i e) (by omega)).trans (k.below.block i hi)⟩⟩

namespace Ti
open Rw
open Go.Maps (Tidy IsMap Keyed)

theorem enT : IsEn Try.prog 51 := by unfold IsEn; kernel_rfl
theorem law : Keyed Try.prog 3 := Go.Maps.int_keyed Try.underlying3
theorem zeroI (w : World) : (zeroValue 3).run Try.prog w = .ok (.int .i64 0) w := by kernel_rfl

/-- A map owned, told by how many it holds. -/
abbrev OM (w : World) (b : Nat) (D : DataW Unit) : Prop := w.ownsMap Try.prog 3 (plainElem Try.prog 3) b (Maps.size D) D
theorem tight {w : World} {b n : Nat} {D : DataW Unit} (h : w.ownsMap Try.prog 3 (plainElem Try.prog 3) b n D) : OM w b D := by
  obtain ⟨es, clock, h1, h2, h3, rfl⟩ := h
  exact ⟨es, clock, h1, h2, by rw [Maps.size_eq, length_sorted, List.length_map]; simp, rfl⟩
theorem OM.obj {w : World} {b : Nat} {D : DataW Unit} (h : OM w b D) : ∃ es c, w.heap[b]? = some (.map es c) := by
  obtain ⟨es, clock, h1, _⟩ := h
  exact ⟨es, clock, h1⟩
theorem OM.ext {w w' : World} {b : Nat} {D : DataW Unit} (h : OM w b D) (k : Ext w w') : OM w' b D :=
  World.ownsMap.kept (row := none) h ⟨k.below.os, k.below.tape, k.below.output, k.size, fun i hi _ => k.below.block i hi⟩ (by simp)

/-- The places by id: no map yet, or one of the call's own. -/
def Places (w : World) (base : Nat) (m : Value) (D : DataW Unit) : Prop := (m = .map none ∧ D = .map []) ∨ ∃ b, m = .map (some b) ∧ base ≤ b ∧ OM w b D

/-- Timers at block x: who sleeps, the places. -/
structure Tm (base x : Nat) (v m : Value) (l : List En) (D : DataW Unit) (w : World) : Prop where
  blk : w.heap[x]? = some (.cells #[v, m] 49 (0, 0))
  row : Row 51 w base v l.length l
  map : Places w base m D
  bx : base ≤ x
/-- The blocks that Timers own. -/
def Own (x : Nat) (v m : Value) (k : Nat) : Prop := k = x ∨ v.ownBlock = some k ∨ m = .map (some k)

section
variable {base x : Nat} {v m : Value} {l : List En} {D : DataW Unit} {w w' : World}
theorem Tm.lt (h : Tm base x v m l D w) : x < w.heap.size := lt_blk h.blk
theorem Tm.cells (h : Tm base x v m l D w) : w.cell? ⟨x, 0, none⟩ = some v ∧ w.cell? ⟨x, 1, none⟩ = some m ∧ w.frozen? ⟨x, 0, none⟩ = false ∧ w.frozen? ⟨x, 1, none⟩ = false := by
  have := h.blk
  exact ⟨by simp [World.cell?, this], by simp [World.cell?, this], by simp [World.frozen?, this], by simp [World.frozen?, this]⟩
theorem Tm.far (h : Tm base x v m l D w) : v.ownBlock ≠ some x := h.row.far h.blk (by decide)
theorem Tm.own (h : Tm base x v m l D w) : ∀ k, Own x v m k → base ≤ k ∧ k < w.heap.size := by
  intro k hk
  rcases hk with rfl | hk | hk
  · exact ⟨h.bx, h.lt⟩
  · exact h.row.lt k hk
  · rcases h.map with ⟨h1, _⟩ | ⟨b, h1, h2, h3⟩
    · rw [h1] at hk; cases hk
    · rw [h1] at hk
      cases hk
      exact ⟨h2, h3.lt⟩
/-- The map's block is no other one's. -/
theorem Tm.mapFar (h : Tm base x v m l D w) {b : Nat} (hb : m = .map (some b)) : b ≠ x ∧ v.ownBlock ≠ some b := by
  rcases h.map with ⟨h1, _⟩ | ⟨b', h1, h2, h3⟩
  · rw [h1] at hb; cases hb
  · rw [h1] at hb
    cases hb
    obtain ⟨es, c, ho⟩ := h3.obj
    refine ⟨fun e => ?_, fun e => ?_⟩
    · subst e; rw [h.blk] at ho; cases ho
    · rcases h.row.2 with ⟨h4, _⟩ | ⟨g, cap, cur, h4, h5, h6, _⟩
      · rw [h4] at e; cases e
      · rw [h4] at e
        cases e
        rw [h6] at ho; cases ho
theorem Tm.ext (h : Tm base x v m l D w) (k : Ext w w') : Tm base x v m l D w' := by
  refine ⟨by rw [k.below.block x h.lt]; exact h.blk, h.row.ext k, ?_, h.bx⟩
  rcases h.map with h1 | ⟨b, h1, h2, h3⟩
  · exact .inl h1
  · exact .inr ⟨b, h1, h2, h3.ext k⟩
theorem Tm.om {b : Nat} (h : Tm base x v (.map (some b)) l D w) : OM w b D ∧ base ≤ b := by
  rcases h.map with ⟨h1, _⟩ | ⟨b', h1, h2, h3⟩
  · cases h1
  · cases h1; exact ⟨h3, h2⟩
theorem OM.setCell {b : Nat} (h : OM w b D) {g : Nat} (hg : b ≠ g) (j : Nat) (u : Value) : OM (w.setCell ⟨g, j, none⟩ u) b D := World.ownsMap.setCell h (a := ⟨g, j, none⟩) hg u
theorem Places.keep {base : Nat} (h : Places w base m D) (k : ∀ b, m = .map (some b) → w'.heap[b]? = w.heap[b]?) : Places w' base m D := by
  rcases h with h1 | ⟨b, h1, h2, h3⟩
  · exact .inl h1
  · obtain ⟨es, c, e1, e2⟩ := h3
    exact .inr ⟨b, h1, h2, es, c, (k b h1).trans e1, e2⟩
/-- An entry put in another one's place. -/
theorem Tm.set {g cap n : Nat} (h : Tm base x (.slice (some ⟨g, 0, none⟩) n cap) m l D w) (i : Nat) (p : En) :
    Tm base x (.slice (some ⟨g, 0, none⟩) n cap) m (l.set i p) D ((w.setCell ⟨g, i * 2, none⟩ (.int .i64 p.1)).setCell ⟨g, i * 2 + 1, none⟩ (.int .i64 p.2)) := by
  have hne : x ≠ g := fun e => h.far (by rw [e]; rfl)
  have hn : n = l.length := by
    rcases h.row.2 with ⟨h1, _⟩ | ⟨g', cap', cur, h1, _⟩
    · cases h1
    · injection h1
  subst hn
  refine ⟨?_, by rw [List.length_set]; exact h.row.set i p, h.map.keep fun b hb => ?_, h.bx⟩
  · rw [Below.heap_setCell _ _ _ _ (by simpa using hne), Below.heap_setCell _ _ _ _ (by simpa using hne)]
    exact h.blk
  · have hbg : b ≠ g := fun e => (h.mapFar hb).2 (by rw [e]; rfl)
    rw [Below.heap_setCell _ _ _ _ (by simpa using hbg), Below.heap_setCell _ _ _ _ (by simpa using hbg)]
/-- The map has turned. -/
theorem Tm.mapped {b n : Nat} {D' : DataW Unit} (h : Tm base x v (.map (some b)) l D w) (ho : w'.ownsMap Try.prog 3 (plainElem Try.prog 3) b n D') (hg : w.grownBy w' (some b)) : Tm base x v (.map (some b)) l D' w' := by
  obtain ⟨h1, h2⟩ := h.mapFar rfl
  exact ⟨by rw [hg.block x h.lt (fun e => h1 (Option.some.inj e).symm)]; exact h.blk, h.row.keep fun g hgv => hg.block g (h.row.lt g hgv).2 (fun e => h2 (by rw [hgv, e])), .inr ⟨b, rfl, h.om.2, tight ho⟩, h.bx⟩
end
end Ti
end Go.Proofs.Ytlpklkkjidaecaa
