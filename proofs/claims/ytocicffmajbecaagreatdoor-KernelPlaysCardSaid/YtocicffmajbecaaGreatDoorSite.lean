/- Where a value lies within a block: the block, the first cell, how many cells the block has, its type, what the other cells hold. No program is named here. -/
import Derived.Test.YtocicffmajbecaaGreatDoorLib
import Derived.Test.YtocicffmajbecaaGreatDoorMv
namespace Go.Proofs.YtocicffmajbecaaGreatDoor
open Go.RowKit
structure Site where
  b : Nat
  d : Nat
  n : Nat
  T : TypeId
  K : Nat → Value
abbrev Site.ptr (y : Site) : Value := .pointer (some ⟨y.b,y.d,none⟩)
def Site.At (y : Site) (vs : List Value) (w : World) : Prop :=
  ∃ cs,w.heap[y.b]? = some (.cells cs y.T (0,0)) ∧ cs.size = y.n ∧ y.d + vs.length ≤ y.n ∧ (∀ j,j < vs.length → cs[y.d + j]? = vs[j]?) ∧ ∀ j,j < y.n → j < y.d ∨ y.d + vs.length ≤ j → cs[j]? = some (y.K j)
section
variable {y : Site} {vs : List Value} {w w' : World}
theorem Site.At.lt (h : y.At vs w) : y.b < w.heap.size := by
  obtain ⟨cs,h1,_⟩ := h
  exact (Array.getElem?_eq_some_iff.1 h1).1
theorem Site.At.same (h : y.At vs w) (k : w'.heap[y.b]? = w.heap[y.b]?) : y.At vs w' := by
  obtain ⟨cs,h1,h2⟩ := h
  exact ⟨cs,k.trans h1,h2⟩
theorem Site.At.cell (h : y.At vs w) {j : Nat} {v : Value} (hj : vs[j]? = some v) : w.cell? ⟨y.b,y.d + j,none⟩ = some v := by
  obtain ⟨cs,h1,_,_,h2,_⟩ := h
  have := h2 j (List.getElem?_eq_some_iff.1 hj).1
  rw [hj] at this
  simp [World.cell?,h1,this]
theorem Site.At.free (h : y.At vs w) (j : Nat) : w.frozen? ⟨y.b,j,none⟩ = false := by
  obtain ⟨cs,h1,_⟩ := h
  simp [World.frozen?,h1]
theorem Site.At.ne {b : Nat} {ds : Array Value} {T' : TypeId} (h : y.At vs w) (hb : w.heap[b]? = some (.cells ds T' (0,0))) (hT : y.T ≠ T') : y.b ≠ b := by
  obtain ⟨cs,h1,_⟩ := h
  rintro rfl
  rw [h1] at hb
  injection (Option.some.inj hb) with _ q
  exact hT q
theorem Site.At.set (h : y.At vs w) {j : Nat} (hj : j < vs.length) (v : Value) : y.At (vs.set j v) (w.setCell ⟨y.b,y.d + j,none⟩ v) := by
  obtain ⟨cs,h1,h2,h3,h4,h5⟩ := h
  refine ⟨_,set_same h1 _ _,by simpa using h2,by simpa using h3,fun i hi => ?_,fun i hi ho => ?_⟩
  · rw [List.length_set] at hi
    rw [Array.getElem?_setIfInBounds,List.getElem?_set]
    by_cases e : j = i
    · subst e; rw [if_pos rfl,if_pos rfl,if_pos (by omega),if_pos hj]
    · rw [if_neg (by omega),if_neg e]; exact h4 i hi
  · rw [List.length_set] at ho
    rw [Array.getElem?_setIfInBounds,if_neg (by omega)]
    exact h5 i hi ho
theorem Site.At.set1 {v : Value} (h : y.At [v] w) (v' : Value) : y.At [v'] (w.setCell ⟨y.b,y.d,none⟩ v') := h.set (j := 0) (by simp) v'
theorem Site.At.cell1 {v : Value} (h : y.At [v] w) : w.cell? ⟨y.b,y.d,none⟩ = some v := h.cell (j := 0) rfl
theorem Site.At.whole {b : Nat} {cs : Array Value} {T : TypeId} (h : w.heap[b]? = some (.cells cs T (0,0))) : Site.At ⟨b,0,cs.size,T,fun _ => .bool false⟩ cs.toList w :=
  ⟨cs,h,rfl,by simp,fun j _ => by simp,fun j hj ho => by
    have h1 : j < cs.size := hj
    have h2 : j < 0 ∨ 0 + cs.toList.length ≤ j := ho
    simp at h2
    omega⟩
end
end Go.Proofs.YtocicffmajbecaaGreatDoor
