/- Two of the program's latches beside one another, with blocks that no call of theirs touches. -/
import Derived.Test.YtbnjfahjbemleaaLpKq
namespace Go.Proofs.Ytbnjfahjbemleaa
open Go.RowKit

structure P2 (W0 : World) (b1 b2 : Nat) (c : Cnf) (s1 s2 : Lt) (F : Nat → Prop) (w : World) : Prop where
  ex : ∃ A B, PL A b1 c s1 w ∧ PL B b2 c s2 w ∧ (∀ k, A k → W0.heap.size ≤ k) ∧ (∀ k, B k → W0.heap.size ≤ k) ∧ (∀ k, A k → ¬ B k) ∧ (∀ k, F k → ¬ A k) ∧ (∀ k, F k → ¬ B k)
  x : Ext W0 w
  f : ∀ k, F k → k < w.heap.size
theorem P2.swap {W0 : World} {b1 b2 : Nat} {c : Cnf} {s1 s2 : Lt} {F : Nat → Prop} {w : World} (h : P2 W0 b1 b2 c s1 s2 F w) : P2 W0 b2 b1 c s2 s1 F w := by
  obtain ⟨A, B, h1, h2, h3, h4, h5, h6, h7⟩ := h.ex
  exact ⟨⟨B, A, h2, h1, h4, h3, fun k hb ha => h5 k ha hb, h7, h6⟩, h.x, h.f⟩
theorem P2.ext {W0 : World} {b1 b2 : Nat} {c : Cnf} {s1 s2 : Lt} {F : Nat → Prop} {w w' : World} (h : P2 W0 b1 b2 c s1 s2 F w) (k : Ext w w') : P2 W0 b1 b2 c s1 s2 F w' := by
  obtain ⟨A, B, h1, h2, h3⟩ := h.ex
  exact ⟨⟨A, B, h1.keep k.size fun i hi => k.below.block i (h1.lt i hi), h2.keep k.size fun i hi => k.below.block i (h2.lt i hi), h3⟩, h.x.trans k, fun i hi => Nat.lt_of_lt_of_le (h.f i hi) k.size⟩
/-- The first alone, the other's blocks beside it. -/
theorem P2.one {W0 : World} {b1 b2 : Nat} {c : Cnf} {s1 s2 : Lt} {F : Nat → Prop} {w : World} (h : P2 W0 b1 b2 c s1 s2 F w) : ∃ B, P1 W0 b1 c s1 (fun k => F k ∨ B k) w ∧ PL B b2 c s2 w ∧ (∀ k, B k → W0.heap.size ≤ k) ∧ (∀ k, F k → ¬ B k) := by
  obtain ⟨A, B, h1, h2, h3, h4, h5, h6, h7⟩ := h.ex
  refine ⟨B, ⟨⟨A, h1, h3, fun k hk ha => ?_⟩, h.x, fun k hk => ?_⟩, h2, h4, h7⟩
  · rcases hk with hk | hk
    · exact h6 k hk ha
    · exact h5 k ha hk
  · rcases hk with hk | hk
    · exact h.f k hk
    · exact h2.lt k hk
theorem P2.back {W0 : World} {b1 b2 : Nat} {c : Cnf} {s1 s2 : Lt} {F B : Nat → Prop} {w w' : World} (hx : P1 W0 b1 c s1 (fun k => F k ∨ B k) w') (h2 : PL B b2 c s2 w) (h4 : ∀ k, B k → W0.heap.size ≤ k) (h7 : ∀ k, F k → ¬ B k) (hk : Kept (fun k => F k ∨ B k) w w') : P2 W0 b1 b2 c s1 s2 F w' ∧ Kept F w w' := by
  obtain ⟨A, h1, h3, h5⟩ := hx.ex
  exact ⟨⟨⟨A, B, h1, h2.keep hk.1 fun k hb => hk.2 k (.inr hb), h3, h4, fun k ha hb => h5 k (.inr hb) ha, fun k hf ha => h5 k (.inl hf) ha, h7⟩, hx.x, fun k hf => hx.f k (.inl hf)⟩, hk.1, fun k hf => hk.2 k (.inl hf)⟩
theorem p2_askPlan {W0 : World} {b1 b2 : Nat} {c : Cnf} {s1 s2 s' : Lt} {n : Nat} {F : Nat → Prop} {w : World} (h : P2 W0 b1 b2 c s1 s2 F w) {i : Int} (e : s1.askPlan c i = (n, s')) : Calls Try.prog 10 #[.pointer (some ⟨b1, 0, none⟩), .int .i64 i] w fun e w' => e = .returned (errV n) ∧ P2 W0 b1 b2 c s' s2 F w' ∧ Kept F w w' := by
  obtain ⟨B, h1, h2, h4, h7⟩ := h.one
  refine (p1_askPlan_to h1 e rfl).mono ?_
  rintro e w' ⟨rfl, hx, hk⟩
  exact ⟨rfl, P2.back hx h2 h4 h7 hk⟩
theorem p2_askLevel {W0 : World} {b1 b2 : Nat} {c : Cnf} {s1 s2 s' : Lt} {n : Nat} {F : Nat → Prop} {w : World} (h : P2 W0 b1 b2 c s1 s2 F w) {d l : Int} (e : s1.askLevel c d l = (n, s')) : Calls Try.prog 11 #[.pointer (some ⟨b1, 0, none⟩), .int .i64 d, .int .i64 l] w fun e w' => e = .returned (errV n) ∧ P2 W0 b1 b2 c s' s2 F w' ∧ Kept F w w' := by
  obtain ⟨B, h1, h2, h4, h7⟩ := h.one
  refine (p1_askLevel_to h1 e rfl).mono ?_
  rintro e w' ⟨rfl, hx, hk⟩
  exact ⟨rfl, P2.back hx h2 h4 h7 hk⟩
theorem p2_turn {W0 : World} {b1 b2 : Nat} {c : Cnf} {s1 s2 : Lt} {F : Nat → Prop} {w : World} (h : P2 W0 b1 b2 c s1 s2 F w) : Calls Try.prog 13 #[.pointer (some ⟨b1, 0, none⟩)] w fun e w' => e = .returned (.tuple #[]) ∧ P2 W0 b1 b2 c s1.turn s2 F w' ∧ Kept F w w' := by
  obtain ⟨B, h1, h2, h4, h7⟩ := h.one
  refine (p1_turn h1).mono ?_
  rintro e w' ⟨rfl, hx, hk⟩
  exact ⟨rfl, P2.back hx h2 h4 h7 hk⟩
theorem p2_plan {W0 : World} {b1 b2 : Nat} {c : Cnf} {s1 s2 : Lt} {F : Nat → Prop} {w : World} (h : P2 W0 b1 b2 c s1 s2 F w) : Calls Try.prog 9 #[.pointer (some ⟨b1, 0, none⟩)] w (Yields w (.int .i64 s1.p)) := by
  obtain ⟨B, h1, -⟩ := h.one
  exact p1_plan h1
theorem p2_levels {W0 : World} {b1 b2 : Nat} {c : Cnf} {s1 s2 : Lt} {F : Nat → Prop} {w : World} (h : P2 W0 b1 b2 c s1 s2 F w) (h0 : 0 < c.doms.length) : Calls Try.prog 8 #[.pointer (some ⟨b1, 0, none⟩)] w fun e w' => ∃ g cap, e = .returned (.slice (some ⟨g, 0, none⟩) c.doms.length cap) ∧ Ext w w' ∧ w.heap.size ≤ g ∧ Rw1 0 3 g cap (s1.l.map iV) w' := by
  obtain ⟨B, h1, -⟩ := h.one
  exact p1_levels h1 h0
theorem P2.more {W0 : World} {b1 b2 : Nat} {c : Cnf} {s1 s2 : Lt} {F : Nat → Prop} {w w' : World} (h : P2 W0 b1 b2 c s1 s2 F w) (k : Ext w w') {g : Nat} (h1 : w.heap.size ≤ g) (h2 : g < w'.heap.size) : P2 W0 b1 b2 c s1 s2 (fun i => F i ∨ i = g) w' := by
  obtain ⟨A, B, a1, a2, a3, a4, a5, a6, a7⟩ := h.ex
  refine ⟨⟨A, B, a1.keep k.size fun i hi => k.below.block i (a1.lt i hi), a2.keep k.size fun i hi => k.below.block i (a2.lt i hi), a3, a4, a5, fun i hi => ?_, fun i hi => ?_⟩, h.x.trans k, fun i hi => ?_⟩
  · rcases hi with hi | rfl
    · exact a6 i hi
    · intro hh; have := a1.lt i hh; omega
  · rcases hi with hi | rfl
    · exact a7 i hi
    · intro hh; have := a2.lt i hh; omega
  · rcases hi with hi | rfl
    · exact Nat.lt_of_lt_of_le (h.f i hi) k.size
    · exact h2
theorem P2.less {W0 : World} {b1 b2 : Nat} {c : Cnf} {s1 s2 : Lt} {F G : Nat → Prop} {w : World} (h : P2 W0 b1 b2 c s1 s2 F w) (k : ∀ i, G i → F i) : P2 W0 b1 b2 c s1 s2 G w := by
  obtain ⟨A, B, a1, a2, a3, a4, a5, a6, a7⟩ := h.ex
  exact ⟨⟨A, B, a1, a2, a3, a4, a5, fun i hi => a6 i (k i hi), fun i hi => a7 i (k i hi)⟩, h.x, fun i hi => h.f i (k i hi)⟩
theorem P2.new {W0 w1 w2 : World} {b1 b2 : Nat} {c : Cnf} {s1 s2 : Lt} {F : Nat → Prop} {A B : Nat → Prop} (hx0 : Ext W0 w1) (h1 : PL A b1 c s1 w1) (h3 : ∀ k, A k → W0.heap.size ≤ k) (hf : ∀ k, F k → k < W0.heap.size) (hx : Ext w1 w2) (h2 : PL B b2 c s2 w2) (h4 : ∀ k, B k → w1.heap.size ≤ k) : P2 W0 b1 b2 c s1 s2 F w2 := by
  have hs := hx0.size
  refine ⟨⟨A, B, h1.keep hx.size fun i hi => hx.below.block i (h1.lt i hi), h2, h3, fun k hk => Nat.le_trans hs (h4 k hk), fun k ha hb => ?_, fun k hf' ha => ?_, fun k hf' hb => ?_⟩, hx0.trans hx, fun k hk => ?_⟩
  · have := h1.lt k ha; have := h4 k hb; omega
  · have := hf k hf'; have := h3 k ha; omega
  · have := hf k hf'; have := h4 k hb; omega
  · have := hf k hk; have := hx.size; omega
end Go.Proofs.Ytbnjfahjbemleaa
