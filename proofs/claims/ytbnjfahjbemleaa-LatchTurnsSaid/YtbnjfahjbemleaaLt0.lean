/- What holds from the next epoch on, as data. No program is named here. -/
import Derived.Test.YtbnjfahjbemleaaGd
namespace Go.Proofs.Ytbnjfahjbemleaa
open Go.RowKit

/-- What holds, what is asked for. -/
structure Lt where
  p : Int
  ap : Int
  l : List Int
  al : List Int
def Lt.new (c : Cnf) : Lt := ⟨0, 0, List.replicate c.doms.length 0, List.replicate c.doms.length 0⟩
def Lt.askPlan (c : Cnf) (s : Lt) (i : Int) : Nat × Lt := if 0 ≤ i ∧ i < c.plans.length then (0, { s with ap := i }) else (10, s)
def Lt.askLevel (c : Cnf) (s : Lt) (d l : Int) : Nat × Lt := if 0 ≤ d ∧ d < c.doms.length then (if 0 ≤ l ∧ l < (relOf c d).length then (0, { s with al := s.al.set d.toNat l }) else (10, s)) else (13, s)
def Lt.turn (s : Lt) : Lt := { s with p := s.ap, l := s.al }
/-- A latch as it may be. -/
structure LtOk (c : Cnf) (s : Lt) : Prop where
  ll : s.l.length = c.doms.length
  al : s.al.length = c.doms.length
  p0 : 0 ≤ s.p
  p1 : s.p < c.plans.length
  ap0 : 0 ≤ s.ap
  ap1 : s.ap < c.plans.length
theorem LtOk.new {c : Cnf} (g : Good c) : LtOk c (Lt.new c) := by
  have := g.p1
  exact ⟨by simp [Lt.new], by simp [Lt.new], Int.le_refl _, by simp [Lt.new]; omega, Int.le_refl _, by simp [Lt.new]; omega⟩
theorem LtOk.askPlan {c : Cnf} {s : Lt} (h : LtOk c s) (i : Int) : LtOk c (s.askPlan c i).2 := by
  unfold Lt.askPlan
  split
  · rename_i hh; exact ⟨h.ll, h.al, h.p0, h.p1, hh.1, hh.2⟩
  · exact h
theorem LtOk.askLevel {c : Cnf} {s : Lt} (h : LtOk c s) (d l : Int) : LtOk c (s.askLevel c d l).2 := by
  unfold Lt.askLevel
  split
  · split
    · exact ⟨h.ll, by simpa using h.al, h.p0, h.p1, h.ap0, h.ap1⟩
    · exact h
  · exact h
theorem LtOk.turn {c : Cnf} {s : Lt} (h : LtOk c s) : LtOk c s.turn := ⟨h.al, h.al, h.ap0, h.ap1, h.ap0, h.ap1⟩
theorem askPlan_bad {c : Cnf} {s s' : Lt} {i : Int} {n : Nat} (e : s.askPlan c i = (n, s')) (h : n ≠ 0) : s' = s := by
  unfold Lt.askPlan at e
  split at e
  · injection e with e1; exact (h e1.symm).elim
  · injection e with _ e2; exact e2.symm
theorem askLevel_bad {c : Cnf} {s s' : Lt} {d l : Int} {n : Nat} (e : s.askLevel c d l = (n, s')) (h : n ≠ 0) : s' = s := by
  unfold Lt.askLevel at e
  split at e
  · split at e
    · injection e with e1; exact (h e1.symm).elim
    · injection e with _ e2; exact e2.symm
  · injection e with _ e2; exact e2.symm
theorem askPlan_ok {c : Cnf} {s s' : Lt} {i : Int} (e : s.askPlan c i = (0, s')) : s' = { s with ap := i } := by
  unfold Lt.askPlan at e
  split at e
  · injection e with _ e2; exact e2.symm
  · injection e with e1; exact absurd e1 (by decide)
theorem askLevel_ok {c : Cnf} {s s' : Lt} {d l : Int} (e : s.askLevel c d l = (0, s')) : 0 ≤ d ∧ d < c.doms.length ∧ s' = { s with al := s.al.set d.toNat l } := by
  unfold Lt.askLevel at e
  split at e
  · rename_i hd
    split at e
    · injection e with _ e2; exact ⟨hd.1, hd.2, e2.symm⟩
    · injection e with e1; exact absurd e1 (by decide)
  · injection e with e1; exact absurd e1 (by decide)
theorem Lt.turn_turn (s : Lt) : s.turn.turn = s.turn := rfl
end Go.Proofs.Ytbnjfahjbemleaa
