/- A function's body piece by piece: each loop, each round, each region a theorem of its own (its code by codeAt); and how the pieces meet. No program is named here. -/
import Derived.Test.YtbnjfahjbemleaaLib
import Derived.Test.YtbnjfahjbemleaaTail
import Derived.Deep.CutBlock
namespace Go.Proofs.Ytbnjfahjbemleaa
open Go.RowKit

section
variable {P : Program} {ops : Array Oper} {Q : Exit → Act → World → Prop} {md : Region.Mode} {S : World → Prop}
/-- One of the two that may come up. -/
theorem wpT_two (i j : Nat) {n k : Nat} {oi oj : Oper} {fuel : Nat} {listed : Array Bool} {a : Act} {w : World} (hoi : ops[i]? = some oi) (hoj : ops[j]? = some oj) (hr : Region.ready md ops listed = [i, j]) (hwi : Region.wanted oi (yielded ops a.tmps) = true) (hwj : Region.wanted oj (yielded ops a.tmps) = true)
    (hi : ∀ K' : Act → World → Prop, Shut (∀ a w, S w → wpT P md ops Q S n k fuel (listed.setIfInBounds i true) a w → K' a w) → Oper.wp P oi a w K' Q)
    (hj : ∀ K' : Act → World → Prop, Shut (∀ a w, S w → wpT P md ops Q S n k fuel (listed.setIfInBounds j true) a w → K' a w) → Oper.wp P oj a w K' Q) : wpT P md ops Q S n k (fuel + 1) listed a w := fun hc => by
  refine ⟨by rw [hr]; simp, fun x hx => ?_⟩
  have hx' := hx
  rw [hr] at hx
  rcases List.mem_cons.1 hx with rfl | hx
  · refine wpOp_step hoi (fun K' hK => ?_)
    rw [if_pos hwi]
    exact hi K' (fun a' w' h1 h2 => hK _ _ ⟨h1, h2 (hc.add hx')⟩)
  · obtain rfl := List.mem_singleton.1 hx
    refine wpOp_step hoj (fun K' hK => ?_)
    rw [if_pos hwj]
    exact hj K' (fun a' w' h1 h2 => hK _ _ ⟨h1, h2 (hc.add hx')⟩)
end

section
variable {P : Program} {ops : Array Oper} {Q : Exit → Act → World → Prop} {md : Region.Mode} {S : World → Prop}
/-- One of the three that may come up. -/
theorem wpT_three (i j l : Nat) {n k : Nat} {oi oj ol : Oper} {fuel : Nat} {listed : Array Bool} {a : Act} {w : World} (hoi : ops[i]? = some oi) (hoj : ops[j]? = some oj) (hol : ops[l]? = some ol) (hr : Region.ready md ops listed = [i, j, l])
    (hwi : Region.wanted oi (yielded ops a.tmps) = true) (hwj : Region.wanted oj (yielded ops a.tmps) = true) (hwl : Region.wanted ol (yielded ops a.tmps) = true)
    (hi : ∀ K' : Act → World → Prop, Shut (∀ a w, S w → wpT P md ops Q S n k fuel (listed.setIfInBounds i true) a w → K' a w) → Oper.wp P oi a w K' Q)
    (hj : ∀ K' : Act → World → Prop, Shut (∀ a w, S w → wpT P md ops Q S n k fuel (listed.setIfInBounds j true) a w → K' a w) → Oper.wp P oj a w K' Q)
    (hl : ∀ K' : Act → World → Prop, Shut (∀ a w, S w → wpT P md ops Q S n k fuel (listed.setIfInBounds l true) a w → K' a w) → Oper.wp P ol a w K' Q) : wpT P md ops Q S n k (fuel + 1) listed a w := fun hc => by
  refine ⟨by rw [hr]; simp, fun x hx => ?_⟩
  have hx' := hx
  rw [hr] at hx
  rcases List.mem_cons.1 hx with rfl | hx
  · refine wpOp_step hoi (fun K' hK => ?_)
    rw [if_pos hwi]
    exact hi K' (fun a' w' h1 h2 => hK _ _ ⟨h1, h2 (hc.add hx')⟩)
  · rcases List.mem_cons.1 hx with rfl | hx
    · refine wpOp_step hoj (fun K' hK => ?_)
      rw [if_pos hwj]
      exact hj K' (fun a' w' h1 h2 => hK _ _ ⟨h1, h2 (hc.add hx')⟩)
    · obtain rfl := List.mem_singleton.1 hx
      refine wpOp_step hol (fun K' hK => ?_)
      rw [if_pos hwl]
      exact hl K' (fun a' w' h1 h2 => hK _ _ ⟨h1, h2 (hc.add hx')⟩)
end

/-- In however many ways it goes: what holds behind. -/
theorem wp_meet {P : Program} {c : Code} {a : Act} {w : World} {Q : Exit → Act → World → Prop} (M : Act → World → Prop) (first : c.wp P (fun e a w => e = .normal ∧ M a w) a w) (rest : ∀ a w, M a w → Q .normal a w) : c.wp P Q a w :=
  Code.wp_mono (fun e a w h => by obtain ⟨rfl, h⟩ := h; exact rest a w h) first

/-- A piece of a function's body: the way to it, 0 and 1 at a seq or a cond, anything at what has one part. -/
def codeAt : List Nat → Code → Code
  | [], c => c
  | 0 :: p, .seq a _ => codeAt p a
  | 1 :: p, .seq _ b => codeAt p b
  | 0 :: p, .cond _ a _ => codeAt p a
  | 1 :: p, .cond _ _ b => codeAt p b
  | _ :: p, .block _ b => codeAt p b
  | _ :: p, .loop b => codeAt p b
  | _ :: p, .scope b => codeAt p b
  | _, c => c
def bodyAt (f : Func) (p : List Nat) : Code := match f.body with
  | some c => codeAt p c
  | none => .skip
/-- It ends as it should, with M. -/
abbrev Ends (M : Act → World → Prop) : Exit → Act → World → Prop := fun e a w => e = .normal ∧ M a w
end Go.Proofs.Ytbnjfahjbemleaa
