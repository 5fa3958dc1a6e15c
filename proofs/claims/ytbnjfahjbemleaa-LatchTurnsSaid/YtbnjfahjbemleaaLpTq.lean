/- The program's latch beside what else lies there: blocks that no call of it touches. -/
import Derived.Test.YtbnjfahjbemleaaLpSq
namespace Go.Proofs.Ytbnjfahjbemleaa
open Go.RowKit

/-- The program's latch lies at b, made behind W0, with the blocks F beside it. -/
structure P1 (W0 : World) (b : Nat) (c : Cnf) (s : Lt) (F : Nat → Prop) (w : World) : Prop where
  ex : ∃ A, PL A b c s w ∧ (∀ k, A k → W0.heap.size ≤ k) ∧ (∀ k, F k → ¬ A k)
  x : Ext W0 w
  f : ∀ k, F k → k < w.heap.size
/-- What was beside it is as it was. -/
def Kept (F : Nat → Prop) (w w' : World) : Prop := w.heap.size ≤ w'.heap.size ∧ ∀ k, F k → w'.heap[k]? = w.heap[k]?
theorem Kept.of_ext {F : Nat → Prop} {w w' : World} (h : Ext w w') (hF : ∀ k, F k → k < w.heap.size) : Kept F w w' := ⟨h.size, fun k hk => h.below.block k (hF k hk)⟩
theorem Kept.trans {F : Nat → Prop} {w u v : World} (h : Kept F w u) (k : Kept F u v) : Kept F w v := ⟨Nat.le_trans h.1 k.1, fun i hi => (k.2 i hi).trans (h.2 i hi)⟩
theorem Kept.row {F : Nat → Prop} {w w' : World} (h : Kept F w w') {g cap : Nat} {l : List Value} {T : Nat} (hg : F g) (hr : Rw1 0 T g cap l w) : Rw1 0 T g cap l w' := ⟨owns_keep hr.own fun i hi => by
  have : i = g := by simpa [Value.ownBlock] using hi.symm
  subst this; exact h.2 i hg⟩
theorem Kept.cell {F : Nat → Prop} {w w' : World} (h : Kept F w w') {g j : Nat} (hg : F g) : w'.cell? ⟨g, j, none⟩ = w.cell? ⟨g, j, none⟩ := by simp only [World.cell?, h.2 g hg]
theorem P1.ok {W0 : World} {b : Nat} {c : Cnf} {s : Lt} {F : Nat → Prop} {w : World} (h : P1 W0 b c s F w) : LtOk c s := by obtain ⟨A, hA, -⟩ := h.ex; exact hA.ok
theorem P1.ext {W0 : World} {b : Nat} {c : Cnf} {s : Lt} {F : Nat → Prop} {w w' : World} (h : P1 W0 b c s F w) (k : Ext w w') : P1 W0 b c s F w' := by
  obtain ⟨A, hA, h1, h2⟩ := h.ex
  exact ⟨⟨A, hA.keep k.size fun i hi => k.below.block i (hA.lt i hi), h1, h2⟩, h.x.trans k, fun i hi => Nat.lt_of_lt_of_le (h.f i hi) k.size⟩
/-- A new block lies beside it. -/
theorem P1.more {W0 : World} {b : Nat} {c : Cnf} {s : Lt} {F : Nat → Prop} {w w' : World} (h : P1 W0 b c s F w) (k : Ext w w') {g : Nat} (h1 : w.heap.size ≤ g) (h2 : g < w'.heap.size) : P1 W0 b c s (fun i => F i ∨ i = g) w' := by
  obtain ⟨A, hA, h3, h4⟩ := h.ex
  refine ⟨⟨A, hA.keep k.size fun i hi => k.below.block i (hA.lt i hi), h3, fun i hi => ?_⟩, h.x.trans k, fun i hi => ?_⟩
  · rcases hi with hi | rfl
    · exact h4 i hi
    · intro hh; have := hA.lt i hh; omega
  · rcases hi with hi | rfl
    · exact Nat.lt_of_lt_of_le (h.f i hi) k.size
    · exact h2
/-- A block beside it is written to. -/
theorem P1.store {W0 : World} {b : Nat} {c : Cnf} {s : Lt} {F : Nat → Prop} {w : World} (h : P1 W0 b c s F w) {g : Nat} (hg : F g) (h0 : W0.heap.size ≤ g) (j : Nat) (u : Value) : P1 W0 b c s F (w.setCell ⟨g, j, none⟩ u) := by
  obtain ⟨A, hA, h1, h2⟩ := h.ex
  have hs : (w.setCell ⟨g, j, none⟩ u).heap.size = w.heap.size := by simp [go_sem]
  exact ⟨⟨A, hA.keep (by omega) fun k hk => Below.heap_setCell _ _ _ _ (by rintro rfl; exact h2 _ hg hk), h1, h2⟩, h.x.setCell h0 u, fun k hk => by have := h.f k hk; omega⟩
theorem P1.less {W0 : World} {b : Nat} {c : Cnf} {s : Lt} {F G : Nat → Prop} {w : World} (h : P1 W0 b c s F w) (k : ∀ i, G i → F i) : P1 W0 b c s G w := by
  obtain ⟨A, hA, h3, h4⟩ := h.ex
  exact ⟨⟨A, hA, h3, fun i hi => h4 i (k i hi)⟩, h.x, fun i hi => h.f i (k i hi)⟩
theorem P1.moved {W0 : World} {b : Nat} {c : Cnf} {s s' : Lt} {F A B : Nat → Prop} {w w' : World} (h : P1 W0 b c s F w) (_hA : PL A b c s w) (h1 : ∀ k, A k → W0.heap.size ≤ k) (h2 : ∀ k, F k → ¬ A k) (hm : Mvp A B w w') (hB : PL B b c s' w') : P1 W0 b c s' F w' ∧ Kept F w w' := by
  refine ⟨⟨⟨B, hB, fun k hk => ?_, fun k hk hb => ?_⟩, hm.xt h.x h1, fun k hk => Nat.lt_of_lt_of_le (h.f k hk) hm.size⟩, hm.size, fun k hk => hm.block k (h.f k hk) (h2 k hk)⟩
  · rcases hm.own k hk with h3 | h3
    · exact h1 k h3
    · exact Nat.le_trans h.x.size h3
  · rcases hm.own k hb with h3 | h3
    · exact h2 k hk h3
    · have := h.f k hk; omega
theorem p1_new {c : Cnf} {pv dv : Value} {w : World} (hc : ConfV w c pv dv) (hi : isConf c = 0) (F : Nat → Prop) (hF : ∀ k, F k → k < w.heap.size) : Calls Try.prog 6 #[confV c pv dv] w fun e w' => ∃ b, e = .returned (.pointer (some ⟨b, 0, none⟩)) ∧ P1 w b c (Lt.new c) F w' ∧ Ext w w' := by
  refine (pNew hc hi).mono ?_
  rintro e w' ⟨A, b, rfl, hx, hA, hP⟩
  exact ⟨b, rfl, ⟨⟨A, hP, hA, fun k hk ha => by have := hA k ha; have := hF k hk; omega⟩, hx, fun k hk => Nat.lt_of_lt_of_le (hF k hk) hx.size⟩, hx⟩
theorem p1_askPlan {W0 : World} {b : Nat} {c : Cnf} {s : Lt} {F : Nat → Prop} {w : World} (h : P1 W0 b c s F w) (i : Int) : Calls Try.prog 10 #[.pointer (some ⟨b, 0, none⟩), .int .i64 i] w fun e w' => e = .returned (errV (s.askPlan c i).1) ∧ P1 W0 b c (s.askPlan c i).2 F w' ∧ Kept F w w' := by
  obtain ⟨A, hA, h1, h2⟩ := h.ex
  refine (pAskPlan hA i).mono ?_
  rintro e w' ⟨B, rfl, hm, hB⟩
  exact ⟨rfl, h.moved hA h1 h2 hm hB⟩
theorem p1_askLevel {W0 : World} {b : Nat} {c : Cnf} {s : Lt} {F : Nat → Prop} {w : World} (h : P1 W0 b c s F w) (d l : Int) : Calls Try.prog 11 #[.pointer (some ⟨b, 0, none⟩), .int .i64 d, .int .i64 l] w fun e w' => e = .returned (errV (s.askLevel c d l).1) ∧ P1 W0 b c (s.askLevel c d l).2 F w' ∧ Kept F w w' := by
  obtain ⟨A, hA, h1, h2⟩ := h.ex
  refine (pAskLevel hA d l).mono ?_
  rintro e w' ⟨B, rfl, hm, hB⟩
  exact ⟨rfl, h.moved hA h1 h2 hm hB⟩
theorem p1_turn {W0 : World} {b : Nat} {c : Cnf} {s : Lt} {F : Nat → Prop} {w : World} (h : P1 W0 b c s F w) : Calls Try.prog 13 #[.pointer (some ⟨b, 0, none⟩)] w fun e w' => e = .returned (.tuple #[]) ∧ P1 W0 b c s.turn F w' ∧ Kept F w w' := by
  obtain ⟨A, hA, h1, h2⟩ := h.ex
  refine (pTurn hA).mono ?_
  rintro e w' ⟨B, rfl, hm, hB⟩
  exact ⟨rfl, h.moved hA h1 h2 hm hB⟩
theorem p1_plan {W0 : World} {b : Nat} {c : Cnf} {s : Lt} {F : Nat → Prop} {w : World} (h : P1 W0 b c s F w) : Calls Try.prog 9 #[.pointer (some ⟨b, 0, none⟩)] w (Yields w (.int .i64 s.p)) := by
  obtain ⟨A, hA, -⟩ := h.ex
  exact pPlan hA
theorem p1_levels {W0 : World} {b : Nat} {c : Cnf} {s : Lt} {F : Nat → Prop} {w : World} (h : P1 W0 b c s F w) (h0 : 0 < c.doms.length) : Calls Try.prog 8 #[.pointer (some ⟨b, 0, none⟩)] w fun e w' => ∃ g cap, e = .returned (.slice (some ⟨g, 0, none⟩) c.doms.length cap) ∧ Ext w w' ∧ w.heap.size ≤ g ∧ Rw1 0 3 g cap (s.l.map iV) w' := by
  obtain ⟨A, hA, -⟩ := h.ex
  have := pLevels hA (by rw [hA.ok.ll]; exact h0)
  rw [hA.ok.ll] at this
  exact this
theorem Rw1.ints' {g cap : Nat} {l : List Int} {w : World} {n : Nat} (h : Rw1 0 3 g cap (l.map iV) w) (hn : l.length = n) : Ints w (.slice (some ⟨g, 0, none⟩) n cap) l := by
  subst hn
  have := h.own
  rw [List.length_map] at this
  exact ints_of_owns this
end Go.Proofs.Ytbnjfahjbemleaa
