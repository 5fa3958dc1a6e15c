/- A scope in which the run jumps back to one label, and, once past it, to a second one. No program is named here. -/
import Derived.Test.YtocicffmajbecaaGreatDoorLib
import Derived.ScopeJumps
import Derived.WalkKit
namespace Go.Proofs.YtocicffmajbecaaGreatDoor
open Go.RowKit
def hops (J : Nat → Act → World → Prop) (Q : Exit → Act → World → Prop) : Exit → Act → World → Prop
  | .goto l,a,w => J l a w
  | e,a,w => Q e a w
def hopJ (l m : Nat) (J K : Act → World → Prop) (μ : Act → World → Nat) (n : Nat) (l' : Nat) (a : Act) (w : World) : Prop := (l' = l ∧ J a w ∧ μ a w < n) ∨ (l' = m ∧ K a w)
def hopK (m : Nat) (K : Act → World → Prop) (ν : Act → World → Nat) (n : Nat) (l' : Nat) (a : Act) (w : World) : Prop := l' = m ∧ K a w ∧ ν a w < n
def hop0 (l m : Nat) (J K : Act → World → Prop) (l' : Nat) (a : Act) (w : World) : Prop := (l' = l ∧ J a w) ∨ (l' = m ∧ K a w)
section
variable {P : Program} {a : Act} {w : World} {Q : Exit → Act → World → Prop}
theorem hops_mono {J J' : Nat → Act → World → Prop} (h : ∀ l a w,J l a w → J' l a w) : ∀ e a w,hops J Q e a w → hops J' Q e a w := by
  intro e a w he
  cases e <;> first | exact h _ _ _ he | exact he
theorem wp_goto2 {c bodyJ bodyK : Code} (l m : Nat) (J K : Act → World → Prop) (μ ν : Act → World → Nat)
    (hj : findLabel c l = some (Code.skip.seq bodyJ)) (hk : findLabel c m = some (Code.skip.seq bodyK))
    (passK : ∀ a w,K a w → bodyK.wp P (hops (hopK m K ν (ν a w)) Q) a w)
    (passJ : ∀ a w,J a w → (∀ a' w',K a' w' → bodyK.wp P (hops (hopJ l m J K μ (μ a w)) Q) a' w') → bodyJ.wp P (hops (hopJ l m J K μ (μ a w)) Q) a w)
    (first : (∀ a w,J a w → bodyJ.wp P (hops (hop0 l m J K) Q) a w) → c.wp P (hops (hop0 l m J K) Q) a w) : (Code.scope c).wp P Q a w := by
  have passK' : ∀ n a' w',K a' w' → bodyK.wp P (hops (hopJ l m J K μ n) Q) a' w' := fun n a' w' h => Code.wp_mono (hops_mono fun _ _ _ h => .inr ⟨h.1,h.2.1⟩) (passK a' w' h)
  have passJ' : ∀ a w,J a w → bodyJ.wp P (hops (hopJ l m J K μ (μ a w)) Q) a w := fun a w h => passJ a w h (passK' _)
  have first' := first fun a w h => Code.wp_mono (hops_mono fun l' a' w' h => h.imp (fun h => ⟨h.1,h.2.1⟩) id) (passJ' a w h)
  intro b k cs
  have hgk : gotoIn m (.inScope c :: k) = some (.code (Code.skip.seq bodyK) :: .inScope c :: k) := by simp [gotoIn,hk]
  have hgj : gotoIn l (.inScope c :: k) = some (.code (Code.skip.seq bodyJ) :: .inScope c :: k) := by simp [gotoIn,hj]
  have keyK : ∀ n a w,ν a w = n → K a w → ∃ e a' w',Q e a' w' ∧ Arrives P (lone (b.at a (.code (Code.skip.seq bodyK) :: .inScope c :: k)) cs w) b k cs e a' w' := by
    intro n
    induction n using Nat.strongRecOn with
    | _ n ih =>
      intro a w hn hK
      obtain ⟨e,a₁,w₁,hq,harr⟩ := wp_skip_seq (passK a w hK) b (.inScope c :: k) cs
      cases e with
      | normal => exact ⟨.normal,a₁,w₁,hq,Steps.trans harr (.one step_inScope)⟩
      | exit id => exact ⟨.exit id,a₁,w₁,hq,fun k' hk => harr k' (by simp [exitTo,hk])⟩
      | goto l' =>
        obtain ⟨rfl,hK',hlt⟩ := hq
        obtain ⟨e₂,a₂,w₂,hq₂,harr₂⟩ := ih _ (by omega) a₁ w₁ rfl hK'
        exact ⟨e₂,a₂,w₂,hq₂,.of_steps (harr _ hgk) harr₂⟩
      | ret => exact ⟨_,a₁,w₁,hq,harr⟩
      | panic ch => exact ⟨_,a₁,w₁,hq,harr⟩
      | outgrown => exact ⟨_,a₁,w₁,hq,harr⟩
  have keyJ : ∀ n a w,μ a w = n → J a w → ∃ e a' w',Q e a' w' ∧ Arrives P (lone (b.at a (.code (Code.skip.seq bodyJ) :: .inScope c :: k)) cs w) b k cs e a' w' := by
    intro n
    induction n using Nat.strongRecOn with
    | _ n ih =>
      intro a w hn hJ
      obtain ⟨e,a₁,w₁,hq,harr⟩ := wp_skip_seq (passJ' a w hJ) b (.inScope c :: k) cs
      cases e with
      | normal => exact ⟨.normal,a₁,w₁,hq,Steps.trans harr (.one step_inScope)⟩
      | exit id => exact ⟨.exit id,a₁,w₁,hq,fun k' hk => harr k' (by simp [exitTo,hk])⟩
      | goto l' =>
        rcases hq with ⟨rfl,hJ',hlt⟩ | ⟨rfl,hK'⟩
        · obtain ⟨e₂,a₂,w₂,hq₂,harr₂⟩ := ih _ (by omega) a₁ w₁ rfl hJ'
          exact ⟨e₂,a₂,w₂,hq₂,.of_steps (harr _ hgj) harr₂⟩
        · obtain ⟨e₂,a₂,w₂,hq₂,harr₂⟩ := keyK _ a₁ w₁ rfl hK'
          exact ⟨e₂,a₂,w₂,hq₂,.of_steps (harr _ hgk) harr₂⟩
      | ret => exact ⟨_,a₁,w₁,hq,harr⟩
      | panic ch => exact ⟨_,a₁,w₁,hq,harr⟩
      | outgrown => exact ⟨_,a₁,w₁,hq,harr⟩
  obtain ⟨e,a₁,w₁,hq,harr⟩ := first' b (.inScope c :: k) cs
  cases e with
  | normal => exact ⟨.normal,a₁,w₁,hq,.head step_scope (Steps.trans harr (.one step_inScope))⟩
  | exit id => exact ⟨.exit id,a₁,w₁,hq,fun k' hk => .head step_scope (harr k' (by simp [exitTo,hk]))⟩
  | goto l' =>
    rcases hq with ⟨rfl,hJ'⟩ | ⟨rfl,hK'⟩
    · obtain ⟨e₂,a₂,w₂,hq₂,harr₂⟩ := keyJ _ a₁ w₁ rfl hJ'
      exact ⟨e₂,a₂,w₂,hq₂,.of_steps (.head step_scope (harr _ hgj)) harr₂⟩
    · obtain ⟨e₂,a₂,w₂,hq₂,harr₂⟩ := keyK _ a₁ w₁ rfl hK'
      exact ⟨e₂,a₂,w₂,hq₂,.of_steps (.head step_scope (harr _ hgk)) harr₂⟩
  | ret => exact ⟨_,a₁,w₁,hq,.of_steps (.one step_scope) harr⟩
  | panic ch => exact ⟨_,a₁,w₁,hq,.of_steps (.one step_scope) harr⟩
  | outgrown => exact ⟨_,a₁,w₁,hq,.of_steps (.one step_scope) harr⟩
def meetQ (M : Act → World → Prop) : Exit → Act → World → Prop
  | .normal,a,w => M a w
  | _,_,_ => False
theorem wp_meetQ {c : Code} (M : Act → World → Prop) (first : c.wp P (meetQ M) a w) (rest : ∀ a w,M a w → Q .normal a w) : c.wp P Q a w :=
  Code.wp_mono (fun e a w h => by cases e <;> first | exact rest a w h | exact h.elim) first
end
end Go.Proofs.YtocicffmajbecaaGreatDoor
