/- Whose slot, as data: the slots of a plan, places in a frame, epochs. No program is named here. -/
import Derived.Test.YtfjhcmpcnnjodaaGd
import Derived.Test.YtfjhcmpcnnjodaaShT
import Derived.Test.YtfjhcmpcnnjodaaSpG
namespace Go.Proofs.Ytfjhcmpcnnjodaa
open Go.RowKit

def countsC (f : Int) (l : List Int) : List Int := if mayS f l = true then countsL f l else []
def slotsC (c : List Int) : List Int := if mayC c = true then slotsL c else []
/-- The slots of a plan. -/
def ownersL (c : Cnf) (i : Int) : List Int := if isConf c = 0 ∧ 0 ≤ i ∧ i < c.plans.length then slotsC (countsC c.frame (c.plans.getD i.toNat [])) else []
/-- Its place in its frame; its epoch; whether an epoch begins. -/
def slotN (c : Cnf) (t : Int) : Int := if isConf c = 0 then max t 0 % c.frame else 0
def epochN (c : Cnf) (t : Int) : Int := if isConf c = 0 then max t 0 / (c.frame * c.epoch) else 0
def beginsN (c : Cnf) (t : Int) : Bool := decide (isConf c = 0) && decide (max t 0 % (c.frame * c.epoch) = 0)

theorem Good.mayS {c : Cnf} (g : Good c) {p : List Int} (hp : p ∈ c.plans) : Go.Proofs.Ytfjhcmpcnnjodaa.mayS c.frame p = true ∧ p.length = c.doms.length := by
  have h := g.plan p hp
  simp only [planB, Bool.and_eq_true, List.all_eq_true, withB_iff, beq_iff_eq] at h
  obtain ⟨⟨h1, h2⟩, h3⟩ := h
  refine ⟨?_, h2⟩
  unfold Go.Proofs.Ytfjhcmpcnnjodaa.mayS
  rw [decide_eq_true g.f1, decide_eq_true g.f64, decide_eq_true (by have := g.d6; omega), h3]
  simp only [Bool.and_true, Bool.true_and, List.all_eq_true, Bool.and_eq_true, decide_eq_true_eq]
  exact h1
theorem tot_ge : ∀ (l : List Int), (∀ x ∈ l, 0 ≤ x) → ∀ x ∈ l, x ≤ tot l
  | [], _, x, hx => by simp at hx
  | y :: l, hl, x, hx => by
    have h1 := hl y (by simp)
    have h2 := tot_nonneg l fun z hz => hl z (by simp [hz])
    rcases List.mem_cons.1 hx with rfl | hx
    · simp [tot]; omega
    · have := tot_ge l (fun z hz => hl z (by simp [hz])) x hx; simp [tot]; omega
theorem counts_mayC {f : Int} {l : List Int} (h : May f l) (hm : mayS f l = true) : mayC (countsL f l) = true := by
  have ht := counts_tot h
  have hlo : ∀ x ∈ countsL f l, 0 ≤ x := by
    have he := counts_exact h hm
    intro x hx
    unfold countsL at hx
    have hI := Inv.fin h
    simp only [cs, List.mem_map] at hx
    obtain ⟨p, hp, rfl⟩ := hx
    exact (hI.bound h hp).1
  refine MayC.may ⟨by rw [countsL_length]; exact h.pos, by rw [countsL_length]; exact h.len, hlo, fun x hx => ?_, by rw [ht]; exact h.f1, by rw [ht]; exact h.f64⟩
  have := tot_ge _ hlo x hx
  have := h.f64
  omega
/-- The slots of a plan that there is. -/
theorem owners_in {c : Cnf} (h : isConf c = 0) {k : Nat} (hk : k < c.plans.length) : ownersL c k = slotsL (countsL c.frame c.plans[k]) ∧ May c.frame c.plans[k] ∧ mayS c.frame c.plans[k] = true ∧ MayC (countsL c.frame c.plans[k]) := by
  have g := Good.of h
  have hm := (g.mayS (List.getElem_mem hk)).1
  have hM := May.of hm
  have hC := counts_mayC hM hm
  refine ⟨?_, hM, hm, MayC.of hC⟩
  unfold ownersL countsC slotsC
  rw [if_pos ⟨h, by omega, by omega⟩, Int.toNat_natCast, List.getD_eq_getElem?_getD, List.getElem?_eq_getElem hk, Option.getD_some, if_pos hm, if_pos hC]
theorem owners_out {c : Cnf} {i : Int} (h : ¬ (0 ≤ i ∧ i < c.plans.length)) : ownersL c i = [] := by
  unfold ownersL
  rw [if_neg fun hh => h hh.2]
theorem owners_bad {c : Cnf} (h : isConf c ≠ 0) (i : Int) : ownersL c i = [] := by
  unfold ownersL
  rw [if_neg fun hh => h hh.1]
theorem owners_same {c e : Cnf} (hc : isConf c = 0) (he : isConf e = 0) (hf : e.frame = c.frame) (hp : e.plans = c.plans) (i : Int) : ownersL e i = ownersL c i := by
  unfold ownersL
  rw [hf, hp]
  simp only [hc, he]
end Go.Proofs.Ytfjhcmpcnnjodaa
