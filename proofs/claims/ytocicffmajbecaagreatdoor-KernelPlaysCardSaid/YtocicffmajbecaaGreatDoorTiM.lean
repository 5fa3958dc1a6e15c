/- A heap as a list of pairs (an id, a time): what holds of it with one place free, how the place moves; the places by id. No program is named here. -/
import Derived.Test.YtocicffmajbecaaGreatDoorRw
import Derived.Maps.OwnSet
import Derived.Handy
namespace Go.Proofs.YtocicffmajbecaaGreatDoor.Ti
open Go.RowKit Rw
open Go.Maps (Tidy IsMap)
def up (i : Nat) : Nat := (i - 1) / 2
theorem up_lt {i : Nat} (h : 0 < i) : up i < i := by unfold up; omega
def Heap (l : List En) : Prop := ∀ i a b,0 < i → l[up i]? = some a → l[i]? = some b → a.2 ≤ b.2
structure Hole (l : List En) (h : Nat) : Prop where
  edge : ∀ i a b,0 < i → i ≠ h → up i ≠ h → l[up i]? = some a → l[i]? = some b → a.2 ≤ b.2
  skip : ∀ i a b,0 < i → up i = h → 0 < h → l[up h]? = some a → l[i]? = some b → a.2 ≤ b.2
theorem get_some {l : List En} {i : Nat} {b : En} (h : l[i]? = some b) : i < l.length := (List.getElem?_eq_some_iff.1 h).1
theorem get_lt {l : List En} {i : Nat} (h : i < l.length) : ∃ b,l[i]? = some b := ⟨l[i],List.getElem?_eq_getElem h⟩
theorem set_ne {l : List En} {i j : Nat} {a : En} (h : j ≠ i) : (l.set i a)[j]? = l[j]? := by rw [List.getElem?_set,if_neg (fun e => h e.symm)]
theorem set_eq {l : List En} {i : Nat} {a : En} (h : i < l.length) : (l.set i a)[i]? = some a := by rw [List.getElem?_set,if_pos rfl,if_pos h]
theorem Heap.hole {l : List En} (H : Heap l) (h : Nat) : Hole l h := by
  refine ⟨fun i a b h0 _ _ ha hb => H i a b h0 ha hb,fun i a b h0 hu hh ha hb => ?_⟩
  obtain ⟨c,hc⟩ := get_lt (l := l) (i := h) (by have := get_some hb; have := up_lt h0; omega)
  have h1 := H h a c hh ha hc
  have h2 := H i c b h0 (by rw [hu]; exact hc) hb
  omega
theorem Heap.nil : Heap [] := fun i a b _ _ h => by simp at h
theorem Heap.take {l : List En} (H : Heap l) (n : Nat) : Heap (l.take n) := by
  intro i a b h0 ha hb
  rw [List.getElem?_take] at ha hb
  split at ha <;> split at hb <;> first | exact H i a b h0 ha hb | cases ha | cases hb
theorem Heap.first {l : List En} (H : Heap l) {a : En} (ha : l[0]? = some a) : ∀ (i : Nat) (b : En),l[i]? = some b → a.2 ≤ b.2 := by
  intro i
  induction i using Nat.strongRecOn with
  | ind i ih =>
    intro b hb
    rcases Nat.eq_zero_or_pos i with rfl | h0
    · rw [ha] at hb; cases hb; omega
    · have hlt := up_lt h0
      obtain ⟨c,hc⟩ := get_lt (l := l) (i := up i) (by have := get_some hb; omega)
      have h1 := ih _ hlt c hc
      have h2 := H i c b h0 hc hb
      omega
theorem Heap.snoc {l : List En} (H : Heap l) (s : En) : Hole (l ++ [s]) l.length := by
  refine ⟨fun i a b h0 hi hu ha hb => ?_,fun i a b h0 hu hh ha hb => ?_⟩
  · have hib := get_some hb
    rw [List.length_append,List.length_singleton] at hib
    have hlt := up_lt h0
    rw [List.getElem?_append_left (by omega)] at ha hb
    exact H i a b h0 ha hb
  · have hib := get_some hb
    rw [List.length_append,List.length_singleton] at hib
    have hlt := up_lt h0
    omega
theorem Hole.up {l : List En} {h : Nat} (H : Hole l h) (h0 : 0 < h) {a : En} (ha : l[up h]? = some a) (hl : h < l.length) : Hole (l.set h a) (Ti.up h) := by
  have hu := up_lt h0
  refine ⟨fun i x y hi h1 h2 hx hy => ?_,fun i x y hi h1 h2 hx hy => ?_⟩
  · by_cases e1 : i = h
    · subst e1; exact absurd rfl h2
    · by_cases e2 : Ti.up i = h
      · rw [set_ne e1] at hy
        rw [e2,set_eq hl] at hx
        cases hx
        exact H.skip i a y hi e2 h0 ha hy
      · rw [set_ne e1] at hy
        rw [set_ne e2] at hx
        exact H.edge i x y hi e1 e2 hx hy
  · have huu := up_lt h2
    rw [set_ne (by omega)] at hx
    have hxa := H.edge (Ti.up h) x a h2 (by omega) (by omega) hx ha
    by_cases e1 : i = h
    · subst e1
      rw [set_eq hl] at hy
      cases hy
      exact hxa
    · rw [set_ne e1] at hy
      have := H.edge i a y hi e1 (by rw [h1]; omega) (by rw [h1]; exact ha) hy
      omega
structure Low (l : List En) (h : Nat) (s : En) : Prop where
  hole : Hole l h
  let_in : 0 < h → ∀ a,l[up h]? = some a → a.2 ≤ s.2
theorem Low.down {l : List En} {h c : Nat} {s b : En} (L : Low l h s) (hc : 0 < c) (hu : up c = h) (hb : l[c]? = some b) (hs : b.2 < s.2) (hmin : ∀ i y,0 < i → up i = h → l[i]? = some y → b.2 ≤ y.2) : Low (l.set h b) c s := by
  have hlt := up_lt hc
  have hcl := get_some hb
  have hl : h < l.length := by omega
  refine ⟨⟨fun i x y hi h1 h2 hx hy => ?_,fun i x y hi h1 h2 hx hy => ?_⟩,fun _ a ha => ?_⟩
  · by_cases e1 : i = h
    · subst e1
      rw [set_eq hl] at hy
      cases hy
      rw [set_ne (by have := up_lt hi; omega)] at hx
      exact L.hole.skip c x b hc hu hi hx hb
    · rw [set_ne e1] at hy
      by_cases e2 : up i = h
      · rw [e2,set_eq hl] at hx
        cases hx
        exact hmin i y hi e2 hy
      · rw [set_ne e2] at hx
        exact L.hole.edge i x y hi e1 e2 hx hy
  · rw [hu,set_eq hl] at hx
    cases hx
    have := up_lt hi
    rw [set_ne (by omega)] at hy
    exact L.hole.edge i b y hi (by omega) (by omega) (by rw [h1]; exact hb) hy
  · rw [hu,set_eq hl] at ha
    cases ha
    omega
theorem Low.done {l : List En} {h : Nat} {s : En} (L : Low l h s) (hl : h < l.length) (hmin : ∀ i y,0 < i → up i = h → l[i]? = some y → s.2 ≤ y.2) : Heap (l.set h s) := by
  intro i a b hi ha hb
  have hlt := up_lt hi
  by_cases e1 : i = h
  · subst e1
    rw [set_eq hl] at hb
    cases hb
    rw [set_ne (by omega)] at ha
    exact L.let_in hi a ha
  · rw [set_ne e1] at hb
    by_cases e2 : up i = h
    · rw [e2,set_eq hl] at ha
      cases ha
      exact hmin i b hi e2 hb
    · rw [set_ne e2] at ha
      exact L.hole.edge i a b hi e1 e2 ha hb
def soon (l : List En) (h : Nat) : Nat := if h * 2 + 2 < l.length ∧ (l.getD (h * 2 + 2) (0,0)).2 < (l.getD (h * 2 + 1) (0,0)).2 then h * 2 + 2 else h * 2 + 1
theorem soon_up (l : List En) (h : Nat) : 0 < soon l h ∧ up (soon l h) = h := by unfold soon up; split <;> omega
theorem up_two {i h : Nat} (hi : 0 < i) (e : up i = h) : i = h * 2 + 1 ∨ i = h * 2 + 2 := by unfold up at e; omega
theorem soon_min {l : List En} {h : Nat} {b : En} (hb : l[soon l h]? = some b) : ∀ i y,0 < i → up i = h → l[i]? = some y → b.2 ≤ y.2 := by
  intro i y hi hu hy
  unfold soon at hb
  have hyl := get_some hy
  split at hb
  · rename_i hc
    simp only [List.getD_eq_getElem?_getD,hb,Option.getD_some] at hc
    rcases up_two hi hu with rfl | rfl
    · rw [hy] at hc; simp at hc; omega
    · rw [hy] at hb; cases hb; omega
  · rename_i hc
    rcases up_two hi hu with rfl | rfl
    · rw [hy] at hb; cases hb; omega
    · simp only [List.getD_eq_getElem?_getD,hb,hy,Option.getD_some] at hc
      omega
theorem soon_none {l : List En} {h : Nat} (hb : ¬ soon l h < l.length) : ∀ i y,0 < i → up i = h → l[i]? = some y → False := by
  intro i y hi hu hy
  have hyl := get_some hy
  unfold soon at hb
  split at hb
  · rename_i hc; omega
  · rcases up_two hi hu with rfl | rfl <;> omega
theorem set_count (l : List En) (i : Nat) (hi : i < l.length) (a x : En) : (l.set i a).count x + (if l[i] == x then 1 else 0) = l.count x + (if a == x then 1 else 0) := by
  rw [List.count_set hi]
  have := List.count_pos_iff (a := x) (l := l)
  split
  · rename_i h
    have h1 : l[i] = x := by simpa using h
    have : 0 < l.count x := this.2 (h1 ▸ List.getElem_mem hi)
    omega
  · omega
theorem set_swap {l : List En} {i j : Nat} {a s : En} (hij : i ≠ j) (hi : i < l.length) (ha : l[j]? = some a) : ((l.set i a).set j s).Perm (l.set i s) := by
  have hj := get_some ha
  have hja : l[j] = a := by rw [List.getElem?_eq_getElem hj] at ha; exact Option.some.inj ha
  rw [List.perm_iff_count]
  intro x
  have h1 := set_count l i hi a x
  have h2 := set_count l i hi s x
  have h3 := set_count (l.set i a) j (by simpa using hj) s x
  rw [List.getElem_set_ne hij,hja] at h3
  omega
theorem last_swap {l : List En} {i : Nat} {s a : En} (ha : l[i]? = some a) : (l ++ [s]).Perm (a :: l.set i s) := by
  have hi := get_some ha
  have hia : l[i] = a := by rw [List.getElem?_eq_getElem hi] at ha; exact Option.some.inj ha
  rw [List.perm_iff_count]
  intro x
  have h2 := set_count l i hi s x
  rw [List.count_append,List.count_singleton,List.count_cons]
  rw [hia] at h2
  omega
abbrev key (k : Int) : Lit := .int .i64 k
abbrev num (i : Nat) : DataW Unit := .lit (.int .i64 i)
def hasK (D : DataW Unit) (k : Int) : Bool := Maps.has D (key k)
def atK (D : DataW Unit) (k : Int) : DataW Unit := D.atKey (key k) (num 0)
theorem isKey (k : Int) : WideAt.IsKeyLit (key k) := by trivial
theorem key_ne {a b : Int} (h : a ≠ b) : key a ≠ key b := fun e => h (by injection e)
def Apart (l : List En) : Prop := (l.map (·.1)).Nodup
theorem Apart.at {l : List En} (h : Apart l) {i j : Nat} {a b : En} (ha : l[i]? = some a) (hb : l[j]? = some b) (e : a.1 = b.1) : i = j := by
  have hi := get_some ha
  have hj := get_some hb
  refine (List.getElem_inj (h₀ := by simpa using hi) (h₁ := by simpa using hj) h).1 ?_
  rw [List.getElem_map,List.getElem_map]
  rw [List.getElem?_eq_getElem hi] at ha
  rw [List.getElem?_eq_getElem hj] at hb
  rw [Option.some.inj ha,Option.some.inj hb,e]
theorem Apart.perm {l m : List En} (h : Apart l) (p : l.Perm m) : Apart m := ((p.map (fun e : En => e.1)).nodup_iff).1 h
structure Full (D : DataW Unit) (l : List En) : Prop where
  tidy : Tidy D
  place : ∀ (i : Nat) (e : En),l[i]? = some e → hasK D e.1 = true ∧ atK D e.1 = num i
  only : ∀ k,hasK D k = true → ∃ (i : Nat) (e : En),l[i]? = some e ∧ e.1 = k
  size : Maps.size D = l.length
structure Part (D : DataW Unit) (l : List En) (h : Nat) (s : En) : Prop where
  tidy : Tidy D
  place : ∀ (i : Nat) (e : En),i ≠ h → l[i]? = some e → hasK D e.1 = true ∧ atK D e.1 = num i
  only : ∀ k,hasK D k = true → k = s.1 ∨ ∃ (i : Nat) (e : En),i ≠ h ∧ l[i]? = some e ∧ e.1 = k
  size : Maps.size D + (if hasK D s.1 then 0 else 1) = l.length
theorem Full.nil : Full (.map []) [] := ⟨Maps.tidy_empty,fun i e h => by simp at h,fun k h => by simp [hasK,Maps.has] at h,rfl⟩
theorem hasK_put_same {D : DataW Unit} (h : Tidy D) (k : Int) (d : DataW Unit) : hasK (D.put (key k) d) k = true := Maps.has_put_same h.isMap (isKey k) d
theorem hasK_put_other {D : DataW Unit} {k k' : Int} (h : k' ≠ k) (d : DataW Unit) : hasK (D.put (key k) d) k' = hasK D k' := Maps.has_put_other (key_ne h) d
theorem atK_put_same {D : DataW Unit} (h : Tidy D) (k : Int) (d : DataW Unit) : atK (D.put (key k) d) k = d := Maps.atKey_put_same h.isMap (isKey k) d _
theorem atK_put_other {D : DataW Unit} {k k' : Int} (h : k' ≠ k) (d : DataW Unit) : atK (D.put (key k) d) k' = atK D k' := Maps.atKey_put_other (key_ne h) d _
theorem hasK_del_same (D : DataW Unit) (k : Int) : hasK (D.del (key k)) k = false := Maps.has_del_same
theorem hasK_del_other {D : DataW Unit} {k k' : Int} (h : k' ≠ k) : hasK (D.del (key k)) k' = hasK D k' := Maps.has_del_other (key_ne h)
theorem atK_del_other {D : DataW Unit} {k k' : Int} (h : k' ≠ k) : atK (D.del (key k)) k' = atK D k' := Maps.atKey_del_other (key_ne h) _
theorem Part.move {D : DataW Unit} {l : List En} {h p : Nat} {s a : En} (H : Part D l h s) (hA : Apart (l.set h s)) (hl : h < l.length) (hph : p ≠ h) (ha : l[p]? = some a) : Part (D.put (key a.1) (num h)) (l.set h a) p s := by
  have hsa : s.1 ≠ a.1 := fun e => hph (hA.at ((set_ne hph).trans ha) (set_eq hl) e.symm)
  have hoth : ∀ (i : Nat) (e : En),i ≠ h → i ≠ p → l[i]? = some e → e.1 ≠ a.1 := fun i e h1 h2 he e' => h2 (hA.at ((set_ne h1).trans he) ((set_ne hph).trans ha) e')
  refine ⟨H.tidy.put (isKey _) _,fun i e hi he => ?_,fun k hk => ?_,?_⟩
  · by_cases e1 : i = h
    · subst e1
      rw [set_eq hl] at he
      cases he
      exact ⟨hasK_put_same H.tidy _ _,atK_put_same H.tidy _ _⟩
    · rw [set_ne e1] at he
      have := hoth i e e1 hi he
      rw [hasK_put_other this,atK_put_other this]
      exact H.place i e e1 he
  · by_cases e1 : k = a.1
    · exact .inr ⟨h,a,fun e => hph e.symm,set_eq hl,e1.symm⟩
    · rw [hasK_put_other e1] at hk
      rcases H.only k hk with h1 | ⟨i,e,h1,h2,h3⟩
      · exact .inl h1
      · refine .inr ⟨i,e,fun e' => ?_,by rw [set_ne h1]; exact h2,h3⟩
        subst e'
        rw [ha] at h2
        cases h2
        exact e1 h3.symm
  · have h1 : Maps.size (D.put (key a.1) (num h)) = Maps.size D := by
      rw [Maps.size_put H.tidy,if_pos (show Maps.has D (key a.1) = true from (H.place p a hph ha).1)]
    rw [h1,hasK_put_other hsa,List.length_set]
    exact H.size
theorem Part.fill {D : DataW Unit} {l : List En} {h : Nat} {s : En} (H : Part D l h s) (hA : Apart (l.set h s)) (hl : h < l.length) : Full (D.put (key s.1) (num h)) (l.set h s) := by
  refine ⟨H.tidy.put (isKey _) _,fun i e he => ?_,fun k hk => ?_,?_⟩
  · by_cases e1 : i = h
    · subst e1
      rw [set_eq hl] at he
      cases he
      exact ⟨hasK_put_same H.tidy _ _,atK_put_same H.tidy _ _⟩
    · have : e.1 ≠ s.1 := fun e' => e1 (hA.at he (set_eq hl) e')
      rw [set_ne e1] at he
      rw [hasK_put_other this,atK_put_other this]
      exact H.place i e e1 he
  · by_cases e1 : k = s.1
    · exact ⟨h,s,set_eq hl,e1.symm⟩
    · rw [hasK_put_other e1] at hk
      rcases H.only k hk with h1 | ⟨i,e,h1,h2,h3⟩
      · exact absurd h1 e1
      · exact ⟨i,e,by rw [set_ne h1]; exact h2,h3⟩
  · have h1 := H.size
    rw [Maps.size_put H.tidy,List.length_set]
    unfold hasK at h1
    split <;> rename_i h2
    · rw [if_pos h2] at h1; omega
    · rw [if_neg h2] at h1; omega
theorem Full.snoc {D : DataW Unit} {l : List En} (H : Full D l) {s : En} (hs : hasK D s.1 = false) : Part D (l ++ [s]) l.length s := by
  refine ⟨H.tidy,fun i e hi he => ?_,fun k hk => ?_,by rw [hs,List.length_append,H.size]; rfl⟩
  · have := get_some he
    rw [List.length_append,List.length_singleton] at this
    rw [List.getElem?_append_left (by omega)] at he
    exact H.place i e he
  · obtain ⟨i,e,h1,h2⟩ := H.only k hk
    have := get_some h1
    exact .inr ⟨i,e,by omega,by rw [List.getElem?_append_left this]; exact h1,h2⟩
theorem Full.size_del {D : DataW Unit} {l : List En} (H : Full D l) {i : Nat} {a : En} (ha : l[i]? = some a) : Maps.size (D.del (key a.1)) + 1 = l.length := by
  have := Maps.size_del H.tidy (k := key a.1)
  rw [if_pos (show Maps.has D (key a.1) = true from (H.place i a ha).1)] at this
  rw [← H.size]; exact this
theorem Full.last {D : DataW Unit} {l : List En} {s : En} (H : Full D (l ++ [s])) (hA : Apart (l ++ [s])) : Full (D.del (key s.1)) l := by
  have hs : (l ++ [s])[l.length]? = some s := by simp
  have hne : ∀ (i : Nat) (e : En),l[i]? = some e → e.1 ≠ s.1 := fun i e he e' => by
    have hi := get_some he
    have := hA.at (i := i) (by rw [List.getElem?_append_left hi]; exact he) hs e'
    omega
  refine ⟨H.tidy.del _,fun i e he => ?_,fun k hk => ?_,?_⟩
  · rw [hasK_del_other (hne i e he),atK_del_other (hne i e he)]
    exact H.place i e (by rw [List.getElem?_append_left (get_some he)]; exact he)
  · by_cases e1 : k = s.1
    · subst e1; rw [hasK_del_same] at hk; cases hk
    · rw [hasK_del_other e1] at hk
      obtain ⟨i,e,h1,h2⟩ := H.only k hk
      have hi := get_some h1
      rw [List.length_append,List.length_singleton] at hi
      by_cases e2 : i = l.length
      · subst e2
        rw [hs] at h1
        cases h1
        exact absurd h2.symm e1
      · exact ⟨i,e,by rw [List.getElem?_append_left (by omega)] at h1; exact h1,h2⟩
  · have := H.size_del hs
    rw [List.length_append,List.length_singleton] at this
    omega
theorem Full.open {D : DataW Unit} {l : List En} {s a : En} {h : Nat} (H : Full D (l ++ [s])) (hA : Apart (l ++ [s])) (ha : l[h]? = some a) : Part (D.del (key a.1)) l h s := by
  have hs : (l ++ [s])[l.length]? = some s := by simp
  have hl := get_some ha
  have ha' : (l ++ [s])[h]? = some a := by rw [List.getElem?_append_left hl]; exact ha
  have hne : ∀ (i : Nat) (e : En),i ≠ h → (l ++ [s])[i]? = some e → e.1 ≠ a.1 := fun i e hi he e' => hi (hA.at he ha' e')
  refine ⟨H.tidy.del _,fun i e hi he => ?_,fun k hk => ?_,?_⟩
  · have he' : (l ++ [s])[i]? = some e := by rw [List.getElem?_append_left (get_some he)]; exact he
    rw [hasK_del_other (hne i e hi he'),atK_del_other (hne i e hi he')]
    exact H.place i e he'
  · by_cases e1 : k = a.1
    · subst e1; rw [hasK_del_same] at hk; cases hk
    · rw [hasK_del_other e1] at hk
      obtain ⟨i,e,h1,h2⟩ := H.only k hk
      have hi := get_some h1
      rw [List.length_append,List.length_singleton] at hi
      by_cases e2 : i = l.length
      · subst e2
        rw [hs] at h1
        cases h1
        exact .inl h2.symm
      · refine .inr ⟨i,e,fun e3 => ?_,by rw [List.getElem?_append_left (by omega)] at h1; exact h1,h2⟩
        subst e3
        rw [ha'] at h1
        cases h1
        exact e1 h2.symm
  · have h1 := H.size_del ha'
    rw [List.length_append,List.length_singleton] at h1
    rw [hasK_del_other (hne l.length s (by omega) hs),(H.place l.length s hs).1]
    simp only [if_true]
    omega
end Go.Proofs.YtocicffmajbecaaGreatDoor.Ti
