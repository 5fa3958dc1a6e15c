/- Objects as data: who waits for what, and the blocks that they lie in. No program is named here. -/
import Derived.Test.YtocicffmajbecaaGreatDoorLib
namespace Go.Proofs.YtocicffmajbecaaGreatDoor
open Go.RowKit
namespace Ob
abbrev Wt := Int × Nat
abbrev nilV : Value := .pointer none
abbrev ptrV (b : Nat) : Value := .pointer (some ⟨b,0,none⟩)
def headOr : List Wt → Value → Value
  | [],n => n
  | e :: _,_ => ptrV e.2
def lastOr : Value → List Wt → Value
  | a,[] => a
  | _,e :: l => lastOr (ptrV e.2) l
theorem headOr_append (l m : List Wt) (n : Value) : headOr (l ++ m) n = headOr l (headOr m n) := by cases l <;> rfl
theorem lastOr_append : ∀ (a : Value) (l m : List Wt),lastOr a (l ++ m) = lastOr (lastOr a l) m
  | _,[],_ => rfl
  | _,e :: l,m => lastOr_append (ptrV e.2) l m
theorem lastOr_snoc (a : Value) (l : List Wt) (e : Wt) : lastOr a (l ++ [e]) = ptrV e.2 := by rw [lastOr_append]; rfl
theorem snoc_cases (l : List Wt) : l = [] ∨ ∃ l' e,l = l' ++ [e] := by
  rcases List.eq_nil_or_concat l with h | ⟨l',e,h⟩
  · exact .inl h
  · exact .inr ⟨l',e,by simpa using h⟩
def upd {α : Type} (f : Nat → α) (i : Nat) (v : α) : Nat → α := fun j => if j = i then v else f j
theorem upd_same {α : Type} (f : Nat → α) (i : Nat) (v : α) : upd f i v i = v := if_pos rfl
theorem upd_other {α : Type} {f : Nat → α} {i j : Nat} {v : α} (h : j ≠ i) : upd f i v j = f j := if_neg h
theorem upd_upd {α : Type} (f : Nat → α) (i : Nat) (u v : α) : upd (upd f i u) i v = upd f i v := by
  funext j
  unfold upd
  split <;> rfl
theorem upd_self {α : Type} (f : Nat → α) (i : Nat) : upd f i (f i) = f := by
  funext j
  unfold upd
  split
  · rename_i h; rw [h]
  · rfl
theorem upd_eq {α : Type} {f : Nat → α} {i : Nat} {v : α} (h : f i = v) : upd f i v = f := by rw [← h,upd_self]
theorem upd_comp {α β : Type} (g : α → β) (f : Nat → α) (i : Nat) (v : α) : (fun j => g (upd f i v j)) = upd (fun j => g (f j)) i (g v) := by
  funext j
  unfold upd
  split <;> rfl
def flat {α : Type} (r : Nat → List α) : List α := r 0 ++ (r 1 ++ (r 2 ++ r 3))
theorem four {i : Nat} (h : i < 4) : i = 0 ∨ i = 1 ∨ i = 2 ∨ i = 3 := by omega
section
variable {α : Type} {r : Nat → List α} {e : α}
theorem mem_flat : e ∈ flat r ↔ ∃ i,i < 4 ∧ e ∈ r i := by
  unfold flat
  simp only [List.mem_append]
  constructor
  · rintro (h | h | h | h)
    · exact ⟨0,by omega,h⟩
    · exact ⟨1,by omega,h⟩
    · exact ⟨2,by omega,h⟩
    · exact ⟨3,by omega,h⟩
  · rintro ⟨i,hi,h⟩
    rcases four hi with rfl | rfl | rfl | rfl
    · exact .inl h
    · exact .inr (.inl h)
    · exact .inr (.inr (.inl h))
    · exact .inr (.inr (.inr h))
theorem perm_in {X Y : List α} (A : List α) (h : X.Perm (e :: Y)) : (A ++ X).Perm (e :: (A ++ Y)) := (List.Perm.append_left A h).trans List.perm_middle
theorem flat_out {i : Nat} (hi : i < 4) {L1 L2 : List α} (h : r i = L1 ++ e :: L2) : (flat r).Perm (e :: flat (upd r i (L1 ++ L2))) := by
  have base : ∀ B : List α,(L1 ++ e :: L2 ++ B).Perm (e :: (L1 ++ L2 ++ B)) := fun B => (List.perm_middle (a := e) (l₁ := L1) (l₂ := L2)).append_right B
  rcases four hi with rfl | rfl | rfl | rfl
  · simp only [flat,upd,h,if_true]
    exact base _
  · simp only [flat,upd,h,show ¬ (0 : Nat) = 1 by omega,show ¬ (2 : Nat) = 1 by omega,show ¬ (3 : Nat) = 1 by omega,if_true,if_false]
    exact perm_in _ (base _)
  · simp only [flat,upd,h,show ¬ (0 : Nat) = 2 by omega,show ¬ (1 : Nat) = 2 by omega,show ¬ (3 : Nat) = 2 by omega,if_true,if_false]
    exact perm_in _ (perm_in _ (base _))
  · simp only [flat,upd,h,show ¬ (0 : Nat) = 3 by omega,show ¬ (1 : Nat) = 3 by omega,show ¬ (2 : Nat) = 3 by omega,if_true,if_false]
    exact perm_in _ (perm_in _ (perm_in _ List.perm_middle))
theorem flat_in {i : Nat} (hi : i < 4) (e : α) : (flat (upd r i (r i ++ [e]))).Perm (e :: flat r) := by
  have h := flat_out (r := upd r i (r i ++ [e])) (e := e) (L1 := r i) (L2 := []) hi (by rw [upd_same])
  rw [upd_upd,List.append_nil,upd_self] at h
  exact h
theorem flat_len {i : Nat} (hi : i < 4) : (r i).length ≤ (flat r).length := by
  unfold flat
  simp only [List.length_append]
  rcases four hi with rfl | rfl | rfl | rfl <;> omega
theorem flat_map {β : Type} (f : α → β) : (flat r).map f = flat (fun i => (r i).map f) := by simp [flat]
end
def ids (r : Nat → List Wt) : Nat → List Int := fun i => (r i).map (·.1)
theorem ids_upd (r : Nat → List Wt) (i : Nat) (l : List Wt) : ids (upd r i l) = upd (ids r) i (l.map (·.1)) := upd_comp _ _ _ _
def others (id : Int) (W : Nat → List Int) : Nat → List Int := fun i => (W i).filter (· != id)
theorem flat_ids (r : Nat → List Wt) : flat (ids r) = (flat r).map (·.1) := (flat_map (r := r) (·.1)).symm
theorem others_out {r : Nat → List Wt} (hn : ((flat r).map (·.1)).Nodup) {i : Nat} (hi : i < 4) {L1 L2 : List Wt} {e : Wt} (h : r i = L1 ++ e :: L2) : ∀ j,j < 4 → ids (upd r i (L1 ++ L2)) j = others e.1 (ids r) j := by
  have hp := ((flat_out hi h).map (·.1)).nodup hn
  rw [List.map_cons,List.nodup_cons] at hp
  obtain ⟨hp,-⟩ := hp
  have hno : ∀ f,∀ j,j < 4 → f ∈ upd r i (L1 ++ L2) j → f.1 ≠ e.1 := fun f j hj hf he => hp (by rw [← he]; exact List.mem_map_of_mem (mem_flat.2 ⟨j,hj,hf⟩))
  intro j hj
  unfold others ids
  by_cases hji : j = i
  · subst hji
    have h1 := fun f => hno f j hj
    rw [upd_same] at h1
    rw [upd_same,h,List.map_append,List.map_append,List.filter_append,List.map_cons,List.filter_cons,if_neg (by simp)]
    congr 1
    · exact (List.filter_eq_self.2 fun x hx => by
        obtain ⟨f,hf,rfl⟩ := List.mem_map.1 hx
        simpa using h1 f (by simp [hf])).symm
    · exact (List.filter_eq_self.2 fun x hx => by
        obtain ⟨f,hf,rfl⟩ := List.mem_map.1 hx
        simpa using h1 f (by simp [hf])).symm
  · have h1 := fun f => hno f j hj
    rw [upd_other hji] at h1
    rw [upd_other hji]
    exact (List.filter_eq_self.2 fun x hx => by
        obtain ⟨f,hf,rfl⟩ := List.mem_map.1 hx
        simpa using h1 f hf).symm
def waits (id : Int) (W : Nat → List Int) : Bool := (flat W).contains id
theorem waits_iff {id : Int} {r : Nat → List Wt} : waits id (ids r) = true ↔ ∃ e ∈ flat r,e.1 = id := by
  unfold waits
  rw [flat_ids]
  simp
theorem waits_not {id : Int} {r : Nat → List Wt} (h : waits id (ids r) = false) : ∀ e ∈ flat r,e.1 ≠ id := fun e he e' => by
  rw [waits_iff.2 ⟨e,he,e'⟩] at h
  cases h
end Ob
end Go.Proofs.YtocicffmajbecaaGreatDoor
