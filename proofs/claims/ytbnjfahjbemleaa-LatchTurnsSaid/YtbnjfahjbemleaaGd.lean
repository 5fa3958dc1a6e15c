/- What is known of a configuration that may be; what a domain may give away, to whom. No program is named here. -/
import Derived.Test.YtbnjfahjbemleaaMath3b
namespace Go.Proofs.Ytbnjfahjbemleaa
open Go.RowKit

/-- What is known of a configuration that may be. -/
structure Good (c : Cnf) : Prop where
  f1 : 1 ≤ c.frame
  f64 : c.frame ≤ 64
  e1 : 1 ≤ c.epoch
  e8 : c.epoch ≤ 8
  d1 : 1 ≤ c.doms.length
  d6 : c.doms.length ≤ 6
  p1 : 1 ≤ c.plans.length
  p3 : c.plans.length ≤ 3
  plan : ∀ p ∈ c.plans, planB c.doms.length p = true
  quota : ∀ d ∈ c.doms, quotaB d = true
  dom : domsB c 0 c.doms = true
theorem Good.of {c : Cnf} (h : isConf c = 0) : Good c := by
  unfold isConf at h
  split at h
  · cases h
  rename_i h1
  split at h
  · cases h
  rename_i h2
  split at h
  · cases h
  rename_i h3
  split at h
  · cases h
  rename_i h4
  simp only [Bool.not_eq_false] at h1 h2 h3 h4
  simp only [formB, sharesB, Bool.and_eq_true, withB_iff, List.all_eq_true] at h1 h2 h3
  obtain ⟨⟨⟨⟨a1, a2⟩, a3, a4⟩, a5, a6⟩, a7⟩ := h1
  obtain ⟨⟨b1, b2⟩, b3⟩ := h2
  exact ⟨a1, a2, a3, a4, by omega, by omega, by omega, by omega, b3, h3, h4⟩
/-- An epoch's ticks. -/
theorem Good.ticks {c : Cnf} (g : Good c) : 1 ≤ c.frame * c.epoch ∧ c.frame * c.epoch ≤ 512 := by
  have h1 : 0 < c.frame * c.epoch := Int.mul_pos (by have := g.f1; omega) (by have := g.e1; omega)
  have h2 : c.frame * c.epoch ≤ 64 * 8 := Int.mul_le_mul g.f64 g.e8 (by have := g.e1; omega) (by omega)
  omega
/-- What a domain may give away; to whom. -/
def relOf (c : Cnf) (d : Int) : List Int := (c.doms[d.toNat]?.map Dom.release).getD []
def toOf (c : Cnf) (d : Int) : Int := (c.doms[d.toNat]?.map Dom.to).getD (-1)
theorem relOf_get {c : Cnf} {k : Nat} (h : k < c.doms.length) : relOf c k = c.doms[k].release := by simp [relOf, h]
theorem toOf_get {c : Cnf} {k : Nat} (h : k < c.doms.length) : toOf c k = c.doms[k].to := by simp [toOf, h]
theorem domsB_get (c : Cnf) : ∀ (i : Nat) (l : List Dom), domsB c i l = true → ∀ (k : Nat) (h : k < l.length), domB c (i + k) l[k] = true
  | i, [], _, k, h => by simp at h
  | i, d :: l, hd, 0, _ => by simp only [domsB, Bool.and_eq_true] at hd; simpa using hd.1
  | i, d :: l, hd, k + 1, h => by
    simp only [domsB, Bool.and_eq_true] at hd
    have := domsB_get c (i + 1) l hd.2 k (by simpa using h)
    rw [show i + (k + 1) = i + 1 + k by omega]
    simpa using this
end Go.Proofs.Ytbnjfahjbemleaa
