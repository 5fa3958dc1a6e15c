/- What stage 13's statements ask of configurations first; the next tick, as data. -/
import Derived.Test.YtikecpgdacphjaaPlKq
import Derived.Test.YtikecpgdacphjaaRefAll
import Derived.Test.YtikecpgdacphjaaWideq
namespace Go.Proofs.Ytikecpgdacphjaa
open Go.RowKit


/-- The next tick: in the same frame, or in the next one of the same epoch, or in the next epoch. -/
theorem time_step {c : Cnf} (h : isConf c = 0) {t : Int} (ht : 0 ≤ t) :
    (beginsN c (t + 1) = true ∧ slotN c (t + 1) = 0 ∧ slotN c t = c.frame - 1 ∧ epochN c (t + 1) = epochN c t + 1) ∨
    (beginsN c (t + 1) = false ∧ slotN c (t + 1) = 0 ∧ slotN c t = c.frame - 1 ∧ epochN c (t + 1) = epochN c t) ∨
    (beginsN c (t + 1) = false ∧ slotN c (t + 1) = slotN c t + 1 ∧ slotN c t + 1 < c.frame ∧ epochN c (t + 1) = epochN c t) := by
  have g := Good.of h
  obtain ⟨F, hF⟩ : ∃ F : Nat, c.frame = F := ⟨c.frame.toNat, by have := g.f1; omega⟩
  obtain ⟨E, hE⟩ : ∃ E : Nat, c.epoch = E := ⟨c.epoch.toNat, by have := g.e1; omega⟩
  obtain ⟨n, rfl⟩ : ∃ n : Nat, t = n := ⟨t.toNat, by omega⟩
  have F1 : 0 < F := by have := g.f1; omega
  have E1 : 0 < E := by have := g.e1; omega
  have hm1 : max (n : Int) 0 = n := by omega
  have hm2 : max ((n : Int) + 1) 0 = ((n + 1 : Nat) : Int) := by omega
  have e1 : slotN c n = ((n % F : Nat) : Int) := by unfold slotN; rw [if_pos h, hm1, hF]; rfl
  have e2 : slotN c (n + 1) = (((n + 1) % F : Nat) : Int) := by unfold slotN; rw [if_pos h, hm2, hF]; rfl
  have e3 : epochN c n = ((n / (F * E) : Nat) : Int) := by unfold epochN; rw [if_pos h, hm1, hF, hE]; rfl
  have e4 : epochN c (n + 1) = (((n + 1) / (F * E) : Nat) : Int) := by unfold epochN; rw [if_pos h, hm2, hF, hE]; rfl
  have e5 : beginsN c (n + 1) = decide ((n + 1) % (F * E) = 0) := by
    unfold beginsN
    rw [h, hm2, hF, hE]
    have : (((n + 1 : Nat) : Int) % ((F : Int) * E) = 0) ↔ (n + 1) % (F * E) = 0 := by
      rw [show ((n + 1 : Nat) : Int) % ((F : Int) * E) = (((n + 1) % (F * E) : Nat) : Int) from rfl]; omega
    simp only [decide_true, Bool.true_and, this]
  rw [e1, e2, e3, e4, e5, hF]
  have FE : 0 < F * E := Nat.mul_pos F1 E1
  have hmm : (n + 1) % (F * E) % F = (n + 1) % F := Nat.mod_mul_right_mod _ _ _
  rcases div_next (t := n) F1 with ⟨a1, -, a3⟩ | ⟨a1, -, a3⟩ <;> rcases div_next (t := n) FE with ⟨b1, b2, b3⟩ | ⟨b1, b2, b3⟩
  · refine .inr (.inr ⟨decide_eq_false (by omega), by omega, by omega, by rw [b2]⟩)
  · exfalso
    rw [b3, Nat.zero_mod, a3] at hmm
    omega
  · refine .inr (.inl ⟨decide_eq_false (by omega), by omega, by omega, by rw [b2]⟩)
  · refine .inl ⟨decide_eq_true b3, by omega, by omega, by rw [b2]; omega⟩
end Go.Proofs.Ytikecpgdacphjaa
