/- The order of entries, and what putting one in its place comes to. No program is named here. -/
import Derived.Handy
namespace Go.Proofs.YtocicffmajbecaaGreatDoor
def lessB (a b : Int × Int) : Bool := decide (a.1 < b.1) || (decide (a.1 = b.1) && decide (a.2 < b.2))
theorem lessB_iff {a b : Int × Int} : lessB a b = true ↔ a.1 < b.1 ∨ (a.1 = b.1 ∧ a.2 < b.2) := by simp [lessB]
theorem lessB_false {a b : Int × Int} : lessB a b = false ↔ b.1 < a.1 ∨ (a.1 = b.1 ∧ b.2 ≤ a.2) := by
  rw [← Bool.not_eq_true,lessB_iff]; omega
theorem lessB_trans {a b c : Int × Int} (h : lessB a b = true) (k : lessB b c = true) : lessB a c = true := by rw [lessB_iff] at *; omega
def insAt (e : Int × Int) (l : List (Int × Int)) : Nat → Nat
  | 0 => 0
  | k + 1 => if lessB e (l.getD k (0,0)) then insAt e l k else k + 1
theorem insAt_le (e : Int × Int) (l : List (Int × Int)) : ∀ k,insAt e l k ≤ k
  | 0 => Nat.le_refl _
  | k + 1 => by
    unfold insAt; split
    · exact Nat.le_succ_of_le (insAt_le e l k)
    · exact Nat.le_refl _
def ins (e : Int × Int) (l : List (Int × Int)) : List (Int × Int) := l.take (insAt e l l.length) ++ e :: l.drop (insAt e l l.length)
theorem ins_length (e : Int × Int) (l : List (Int × Int)) : (ins e l).length = l.length + 1 := by
  have := insAt_le e l l.length
  simp [ins]; omega
theorem ins_perm (e : Int × Int) (l : List (Int × Int)) : (ins e l).Perm (e :: l) := by
  unfold ins
  refine List.perm_middle.trans ?_
  rw [List.take_append_drop]
theorem mem_ins {e x : Int × Int} {l : List (Int × Int)} : x ∈ ins e l ↔ x = e ∨ x ∈ l := by
  rw [(ins_perm e l).mem_iff]; simp
abbrev Sorted (l : List (Int × Int)) : Prop := l.Pairwise (fun a b => lessB a b = true)
theorem insAt_spec (e : Int × Int) (l : List (Int × Int)) : ∀ k,k ≤ l.length →
    (∀ j,(h : j < k) → insAt e l k ≤ j → lessB e (l.getD j (0,0)) = true) ∧ (0 < insAt e l k → lessB e (l.getD (insAt e l k - 1) (0,0)) = false)
  | 0,_ => ⟨fun j h => absurd h (Nat.not_lt_zero _),fun h => by simp [insAt] at h⟩
  | k + 1,hk => by
    obtain ⟨h1,h2⟩ := insAt_spec e l k (by omega)
    unfold insAt
    split
    · rename_i hl
      refine ⟨fun j hj hle => ?_,h2⟩
      by_cases he : j = k
      · subst he; exact hl
      · exact h1 j (by omega) hle
    · rename_i hl
      exact ⟨fun j hj hle => by omega,fun _ => by simpa using hl⟩
theorem ins_sorted {e : Int × Int} {l : List (Int × Int)} (hs : Sorted l) (hne : ∀ x ∈ l,x ≠ e) : Sorted (ins e l) := by
  obtain ⟨h1,h2⟩ := insAt_spec e l l.length (Nat.le_refl _)
  have hle := insAt_le e l l.length
  have hget : ∀ j,j < l.length → l.getD j (0,0) ∈ l := fun j hj => by
    rw [List.getD_eq_getElem?_getD,List.getElem?_eq_getElem hj]; exact List.getElem_mem hj
  unfold ins
  generalize insAt e l l.length = p at *
  have hsp := hs
  rw [← List.take_append_drop p l] at hsp
  obtain ⟨s1,s2,s3⟩ := List.pairwise_append.1 hsp
  have hlow : ∀ x ∈ l.take p,lessB x e = true := by
    intro x hx
    by_cases hp : 0 < p
    · have hb := h2 hp
      obtain ⟨i,hi,rfl⟩ := List.mem_iff_getElem.1 hx
      rw [List.length_take] at hi
      rw [List.getElem_take]
      have hlast : lessB (l.getD (p - 1) (0,0)) e = true := by
        have hm := hne _ (hget (p - 1) (by omega))
        rw [lessB_false] at hb
        rw [lessB_iff]
        have : ¬ ((l.getD (p - 1) (0,0)).1 = e.1 ∧ (l.getD (p - 1) (0,0)).2 = e.2) := fun ⟨a,b⟩ => hm (Prod.ext a b)
        omega
      by_cases he : i = p - 1
      · subst he
        have hlt : p - 1 < l.length := by omega
        rw [List.getD_eq_getElem?_getD,List.getElem?_eq_getElem hlt] at hlast
        exact hlast
      · have hpw := List.pairwise_iff_getElem.1 hs i (p - 1) (by omega) (by omega) (by omega)
        rw [List.getD_eq_getElem?_getD,List.getElem?_eq_getElem (by omega)] at hlast
        exact lessB_trans hpw hlast
    · obtain rfl : p = 0 := by omega
      simp at hx
  have hhigh : ∀ x ∈ l.drop p,lessB e x = true := by
    intro x hx
    obtain ⟨i,hi,rfl⟩ := List.mem_iff_getElem.1 hx
    rw [List.length_drop] at hi
    rw [List.getElem_drop]
    have := h1 (p + i) (by omega) (by omega)
    rw [List.getD_eq_getElem?_getD,List.getElem?_eq_getElem (by omega)] at this
    exact this
  refine List.pairwise_append.2 ⟨s1,List.pairwise_cons.2 ⟨hhigh,s2⟩,fun a ha b hb => ?_⟩
  rcases List.mem_cons.1 hb with rfl | hb
  · exact hlow a ha
  · exact s3 a ha b hb
def idAt (l : List (Int × Int)) (id : Int) : Nat := l.findIdx fun e => e.2 == id
def idPl (l : List (Int × Int)) (id : Int) : Int := if idAt l id < l.length then idAt l id else -1
theorem idAt_none {l : List (Int × Int)} {id : Int} : ¬ idAt l id < l.length ↔ ∀ x ∈ l,x.2 ≠ id := by
  unfold idAt
  rw [List.findIdx_lt_length]
  constructor
  · intro h x hx e
    exact h ⟨x,hx,by simp [e]⟩
  · rintro h ⟨x,hx,e⟩
    exact h x hx (by simpa using e)
theorem idAt_get {l : List (Int × Int)} {id : Int} (h : idAt l id < l.length) : (l[idAt l id]).2 = id := by
  have := List.findIdx_getElem (p := fun e : Int × Int => e.2 == id) (xs := l) (w := h)
  rw [beq_iff_eq] at this
  exact this
def shiftL (by' : Int) (l acc : List (Int × Int)) : List (Int × Int) := l.foldl (fun acc e => ins (max 0 (e.1 - by'),e.2) acc) acc
end Go.Proofs.YtocicffmajbecaaGreatDoor
