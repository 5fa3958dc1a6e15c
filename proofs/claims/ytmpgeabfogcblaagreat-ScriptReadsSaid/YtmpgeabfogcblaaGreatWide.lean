/- How wide a configuration is (tontinehelp's WideConf), as a walk. -/
import Derived.Test.YtmpgeabfogcblaaGreatRefConf2
namespace Go.Proofs.YtmpgeabfogcblaaGreat
open Go.RowKit

def wideD (d : Dom) : Bool := decide (10 < d.routes.length) || decide (10 < d.release.length) || d.routes.any (fun r => decide (20 < r.length))
def wideB (c : Cnf) : Bool := decide (10 < c.doms.length) || decide (10 < c.plans.length) || c.plans.any (fun p => decide (20 < p.length)) || c.doms.any wideD
theorem wide_routes {c : Cnf} (h : wideB c = false) : c.doms.length ≤ 10 ∧ ∀ d ∈ c.doms, ∀ r ∈ d.routes, r.length ≤ 300 := by
  simp only [wideB, Bool.or_eq_false_iff, decide_eq_false_iff_not, List.any_eq_false] at h
  obtain ⟨⟨⟨h1, _⟩, _⟩, h2⟩ := h
  refine ⟨by omega, fun d hd r hr => ?_⟩
  have := h2 d hd
  simp only [wideD, Bool.or_eq_true, not_or, List.any_eq_true, not_exists, not_and, decide_eq_true_eq] at this
  have := this.2 r hr
  omega
theorem any_good {α : Type} (l : List α) (f : α → Bool) (k : Nat) (h : k < l.length) (hf : f l[k] = true) : l.any f = true := List.any_eq_true.2 ⟨l[k], List.getElem_mem h, hf⟩
theorem any_none {α : Type} (l : List α) (f : α → Bool) (k : Nat) (h : k < l.length) (ht : (l.take k).any f = false) (hf : f l[k] = false) : (l.take (k + 1)).any f = false := by
  rw [any_take l f k h, ht, hf]; rfl

end Go.Proofs.YtmpgeabfogcblaaGreat
