/- Whether a configuration may be, as the program asks it: the same as plain data. No program is named here. -/
import Derived.Test.YtbnjfahjbemleaaMath3
namespace Go.Proofs.Ytbnjfahjbemleaa
open Go.RowKit

/-- A route that rises from a label on. -/
def riseL (ds : List Dom) : Int × Int → List Int → Bool
  | _, [] => true
  | own, n :: r => withB n 0 ((ds.length : Int) - 1) && risesB own.1 own.2 (labAt ds n).1 (labAt ds n).2 && riseL ds (labAt ds n) r
theorem riseL_eq (ds : List Dom) : ∀ (r : List Int) (own : Int × Int), riseL ds own r = (r.all (fun n => withB n 0 ((ds.length : Int) - 1)) && chainB (own :: r.map (labAt ds)))
  | [], own => by simp [riseL, chainB]
  | n :: r, own => by
    rw [riseL, riseL_eq ds r, List.map_cons, chainB_cons, List.all_cons]
    cases withB n 0 ((ds.length : Int) - 1) <;> cases risesB own.1 own.2 (labAt ds n).1 (labAt ds n).2 <;> simp
theorem routeB_eq (ds : List Dom) (own : Int × Int) (r : List Int) : routeB ds own r = (!r.isEmpty && riseL ds own r) := by
  rw [riseL_eq, routeB, Bool.and_assoc]
theorem riseL_cons (ds : List Dom) (own : Int × Int) (n : Int) (r : List Int) : riseL ds own (n :: r) = (withB n 0 ((ds.length : Int) - 1) && risesB own.1 own.2 (labAt ds n).1 (labAt ds n).2 && riseL ds (labAt ds n) r) := rfl

/-- What is given away, as the program asks it. -/
def giveC (ds : List Dom) (frame : Int) (own : Int × Int) (d : Dom) : Bool :=
  if d.to = -1 then decide ((d.release.length : Int) = 0)
  else withB d.release.length 1 4 && d.release.all (fun x => withB x 0 frame) && withB d.to 0 ((ds.length : Int) - 1) && risesB (labAt ds d.to).1 (labAt ds d.to).2 own.1 own.2
theorem labAt_get {ds : List Dom} {i : Nat} (hi : i < ds.length) : labAt ds i = ds[i].lab := by
  simp [labAt, hi]
theorem giveC_eq {ds : List Dom} {i : Nat} (hi : i < ds.length) (frame : Int) : giveB ds frame i ds[i] = giveC ds frame (labAt ds i) ds[i] := by
  rw [labAt_get hi]
  unfold giveB giveC
  split
  · cases h : ds[i].release <;> simp
    omega
  · cases h1 : withB ds[i].to 0 ((ds.length : Int) - 1)
    · simp
    by_cases h2 : ds[i].to = i
    · have h3 : labAt ds ds[i].to = ds[i].lab := by rw [h2, labAt_get hi]
      simp [h2, Dom.lab, risesB, eqB, labAt_get hi]
    · have h3 : (ds[i].to == (i : Int)) = false := by simpa using h2
      simp only [h3, Dom.lab, risesB, Bool.not_false, Bool.and_true, Bool.true_and, eqB]
      cases withB (↑ds[i].release.length) 1 4 <;> cases ds[i].release.all (fun x => withB x 0 frame) <;>
        cases leqB (labAt ds ds[i].to).1 (labAt ds ds[i].to).2 ds[i].level ds[i].cats <;> cases (labAt ds ds[i].to).1 == ds[i].level <;> cases (labAt ds ds[i].to).2 == ds[i].cats <;> rfl

/-- What the program asks of a domain. -/
def domC (c : Cnf) (i : Nat) (d : Dom) : Bool := decide (d.routes.length ≤ 3) && giveC c.doms c.frame (labAt c.doms i) d && d.routes.all (fun r => !r.isEmpty && riseL c.doms (labAt c.doms i) r)
theorem domC_eq {c : Cnf} {i : Nat} (hi : i < c.doms.length) : domB c i c.doms[i] = domC c i c.doms[i] := by
  unfold domB domC
  rw [giveC_eq hi]
  have : routeB c.doms c.doms[i].lab = fun r => !r.isEmpty && riseL c.doms (labAt c.doms i) r := by
    funext r
    rw [routeB_eq, labAt_get hi]
  rw [this]
  cases decide (c.doms[i].routes.length ≤ 3) <;> cases giveC c.doms c.frame (labAt c.doms i) c.doms[i] <;> simp

def dividesB (p : List Int) : Bool := p.all (fun s => withB s 0 1000) && p.any (fun s => decide (0 < s))
theorem planB_eq (n : Nat) (p : List Int) : planB n p = ((p.length == n) && dividesB p) := by
  unfold planB dividesB
  cases p.all (fun s => withB s 0 1000) <;> cases p.length == n <;> simp
theorem domsB_drop' (c : Cnf) : ∀ (l : List Dom) (i : Nat), c.doms.drop i = l → domsB c i l = true ∨ ∃ k, ∃ hk : k < c.doms.length, i ≤ k ∧ domB c k c.doms[k] = false
  | [], _, _ => .inl rfl
  | d :: l, i, h => by
    have hi : i < c.doms.length := by
      rcases Nat.lt_or_ge i c.doms.length with h' | h'
      · exact h'
      · rw [List.drop_eq_nil_of_le h'] at h; cases h
    rw [List.drop_eq_getElem_cons hi] at h
    injection h with h1 h2
    subst h1
    cases hd : domB c i c.doms[i]
    · exact .inr ⟨i, hi, Nat.le_refl _, hd⟩
    · rcases domsB_drop' c l (i + 1) h2 with h | ⟨k, hk, hik, hb⟩
      · exact .inl (by simp [domsB, hd, h])
      · exact .inr ⟨k, hk, by omega, hb⟩
theorem domsB_all' (c : Cnf) (l : List Dom) (i : Nat) (h : c.doms.drop i = l) (ha : ∀ k (hk : k < c.doms.length), i ≤ k → domB c k c.doms[k] = true) : domsB c i l = true := by
  rcases domsB_drop' c l i h with h1 | ⟨k, hk, hik, hb⟩
  · exact h1
  · rw [ha k hk hik] at hb; cases hb
theorem domsB_bad' (c : Cnf) : ∀ (l : List Dom) (i : Nat), c.doms.drop i = l → ∀ k (hk : k < c.doms.length), i ≤ k → domB c k c.doms[k] = false → domsB c i l = false
  | [], i, h, k, hk, hik, _ => by
    have := congrArg List.length h
    rw [List.length_drop] at this
    simp at this; omega
  | d :: l, i, h, k, hk, hik, hb => by
    have hi : i < c.doms.length := by omega
    rw [List.drop_eq_getElem_cons hi] at h
    injection h with h1 h2
    subst h1
    by_cases he : i = k
    · subst he; simp [domsB, hb]
    · simp [domsB, domsB_bad' c l (i + 1) h2 k hk (by omega) hb]
end Go.Proofs.Ytbnjfahjbemleaa
