/- Quanta by shares, as data: what is due, rounded down, and one more to the greatest rests. No program is named here. -/
import Derived.WalkKit
import Derived.Test.YtfjhcmpcnnjodaaLib
namespace Go.Proofs.Ytfjhcmpcnnjodaa
open Go.RowKit

def tot : List Int → Int
  | [] => 0
  | x :: l => x + tot l
theorem tot_append : ∀ a b : List Int, tot (a ++ b) = tot a + tot b
  | [], b => by simp [tot]
  | x :: a, b => by simp [tot, tot_append a b]; omega
theorem tot_set : ∀ (l : List Int) (i : Nat) (h : i < l.length) (v : Int), tot (l.set i v) = tot l - l[i] + v
  | [], i, h, _ => by simp at h
  | x :: l, 0, _, v => by simp [tot]; omega
  | x :: l, i + 1, h, v => by simp [tot, tot_set l i (by simpa using h) v]; omega
theorem tot_take : ∀ (l : List Int) (k : Nat) (h : k < l.length), tot (l.take (k + 1)) = tot (l.take k) + l[k] := fun l k h => by
  rw [List.take_succ_eq_append_getElem h, tot_append]; simp [tot]
theorem tot_nonpos : ∀ l : List Int, (∀ x ∈ l, x ≤ 0) → tot l ≤ 0
  | [], _ => by simp [tot]
  | x :: l, h => by have := h x (by simp); have := tot_nonpos l fun y hy => h y (by simp [hy]); simp [tot]; omega
theorem tot_nonneg : ∀ l : List Int, (∀ x ∈ l, 0 ≤ x) → 0 ≤ tot l
  | [], _ => by simp [tot]
  | x :: l, h => by have := h x (by simp); have := tot_nonneg l fun y hy => h y (by simp [hy]); simp [tot]; omega
theorem tot_bound (m : Int) : ∀ l : List Int, (∀ x ∈ l, x ≤ m) → tot l ≤ m * l.length
  | [], _ => by simp [tot]
  | x :: l, h => by
    have := h x (by simp); have := tot_bound m l fun y hy => h y (by simp [hy])
    simp only [tot, List.length_cons, Int.natCast_add, Int.mul_add]; omega
theorem tot_pos : ∀ l : List Int, (∀ x ∈ l, 0 ≤ x) → (0 < tot l ↔ ∃ x ∈ l, 0 < x)
  | [], _ => by simp [tot]
  | x :: l, h => by
    have h1 := h x (by simp)
    have h2 := tot_nonneg l fun y hy => h y (by simp [hy])
    have h3 := tot_pos l fun y hy => h y (by simp [hy])
    simp only [tot, List.mem_cons, exists_eq_or_imp]
    rw [← h3]; omega

/-- The place of the greatest of the first k, the least of several. -/
def amTo (R : List Int) : Nat → Nat
  | 0 => 0
  | k + 1 => if R.getD (amTo R k) 0 < R.getD k 0 then k else amTo R k
def am (R : List Int) : Nat := amTo R R.length
theorem amTo_lt (R : List Int) : ∀ k, 0 < k → amTo R k < k
  | 0, h => by omega
  | k + 1, _ => by
    simp only [amTo]
    split
    · omega
    · cases k with
      | zero => simp [amTo]
      | succ k => have := amTo_lt R (k + 1) (by omega); omega
theorem amTo_max (R : List Int) : ∀ k j, j < k → R.getD j 0 ≤ R.getD (amTo R k) 0
  | 0, j, h => by omega
  | k + 1, j, h => by
    simp only [amTo]
    by_cases hj : j = k
    · subst hj; split <;> omega
    · have := amTo_max R k j (by omega); split <;> omega
theorem amTo_first (R : List Int) : ∀ k j, k ≤ R.length → j < amTo R k → R.getD j 0 < R.getD (amTo R k) 0
  | 0, j, _, h => by simp [amTo] at h
  | k + 1, j, hk, h => by
    simp only [amTo] at h ⊢
    split at h
    · rename_i c
      rw [if_pos c]
      have := amTo_max R k j h
      omega
    · rename_i c
      rw [if_neg c]
      exact amTo_first R k j (by omega) h
theorem am_lt {R : List Int} (h : 0 < R.length) : am R < R.length := amTo_lt R _ h
theorem am_max (R : List Int) {j : Nat} (h : j < R.length) : R.getD j 0 ≤ R.getD (am R) 0 := amTo_max R _ j h
theorem am_first (R : List Int) {j : Nat} (h : j < am R) : R.getD j 0 < R.getD (am R) 0 := amTo_first R _ j (Nat.le_refl _) h
/-- There is one such place. -/
theorem am_of {R : List Int} {m : Nat} (hm : m < R.length) (h1 : ∀ j, j < R.length → R.getD j 0 ≤ R.getD m 0) (h2 : ∀ j, j < m → R.getD j 0 < R.getD m 0) : am R = m := by
  have a1 := am_lt (R := R) (by omega)
  rcases Nat.lt_trichotomy (am R) m with h | h | h
  · have := h2 _ h; have := am_max R hm; omega
  · exact h
  · have := am_first R h; have := h1 _ a1; omega

/-- A part: the quanta that it has, and what is still due to it. -/
abbrev Pr := Int × Int
def cs (P : List Pr) : List Int := P.map (·.1)
def rs (P : List Pr) : List Int := P.map (·.2)
theorem cs_length (P : List Pr) : (cs P).length = P.length := by simp [cs]
theorem rs_length (P : List Pr) : (rs P).length = P.length := by simp [rs]
theorem rs_get (P : List Pr) {i : Nat} (h : i < P.length) : (rs P).getD i 0 = P[i].2 := by simp [rs, List.getD_eq_getElem?_getD, h]
theorem cs_set (P : List Pr) (i : Nat) (p : Pr) : cs (P.set i p) = (cs P).set i p.1 := by simp [cs, List.map_set]
theorem rs_set (P : List Pr) (i : Nat) (p : Pr) : rs (P.set i p) = (rs P).set i p.2 := by simp [rs, List.map_set]

/-- Rounded down: of each f times its share by the sum. -/
def low (f S : Int) (l : List Int) : List Pr := l.map fun x => (f * x / S, f * x % S)
/-- One quantum more to the greatest rest. -/
def stepP (S : Int) (P : List Pr) : List Pr := P.set (am (rs P)) ((P.getD (am (rs P)) (0, 0)).1 + 1, (P.getD (am (rs P)) (0, 0)).2 - S)
def runP (S : Int) : Nat → List Pr → List Pr
  | 0, P => P
  | n + 1, P => runP S n (stepP S P)
/-- How many are left when all is rounded down. -/
def leftN (f S : Int) (l : List Int) : Int := f - tot (cs (low f S l))
def countsL (f : Int) (l : List Int) : List Int := cs (runP (tot l) (leftN f (tot l) l).toNat (low f (tot l) l))

theorem stepP_length (S : Int) (P : List Pr) : (stepP S P).length = P.length := by simp [stepP]
theorem runP_length (S : Int) : ∀ (n : Nat) (P : List Pr), (runP S n P).length = P.length
  | 0, _ => rfl
  | n + 1, P => by rw [runP, runP_length S n, stepP_length]
theorem low_length (f S : Int) (l : List Int) : (low f S l).length = l.length := by simp [low]
theorem countsL_length (f : Int) (l : List Int) : (countsL f l).length = l.length := by rw [countsL, cs_length, runP_length, low_length]
theorem runP_succ (S : Int) : ∀ (n : Nat) (P : List Pr), runP S (n + 1) P = stepP S (runP S n P)
  | 0, _ => rfl
  | n + 1, P => by rw [runP, runP_succ S n, runP]

/-- May frame and shares be? -/
def mayS (f : Int) (l : List Int) : Bool := decide (1 ≤ f) && decide (f ≤ 64) && decide (l.length ≤ 6) && l.all (fun x => decide (0 ≤ x) && decide (x ≤ 1000)) && l.any fun x => decide (0 < x)
structure May (f : Int) (l : List Int) : Prop where
  f1 : 1 ≤ f
  f64 : f ≤ 64
  len : l.length ≤ 6
  pos : 0 < l.length
  lo : ∀ x ∈ l, 0 ≤ x
  hi : ∀ x ∈ l, x ≤ 1000
  S1 : 1 ≤ tot l
  S6 : tot l ≤ 6000
theorem May.of {f : Int} {l : List Int} (h : mayS f l = true) : May f l := by
  simp only [mayS, Bool.and_eq_true, decide_eq_true_eq, List.all_eq_true, List.any_eq_true] at h
  obtain ⟨⟨⟨⟨h1, h2⟩, h3⟩, h4⟩, x, hx, h5⟩ := h
  have hlo : ∀ x ∈ l, 0 ≤ x := fun x hx => (h4 x hx).1
  have hhi : ∀ x ∈ l, x ≤ 1000 := fun x hx => (h4 x hx).2
  have hS := (tot_pos l hlo).2 ⟨x, hx, h5⟩
  have hb := tot_bound 1000 l hhi
  exact ⟨h1, h2, h3, List.length_pos_of_mem hx, hlo, hhi, by omega, by omega⟩
theorem May.may {f : Int} {l : List Int} (h1 : 1 ≤ f) (h2 : f ≤ 64) (h3 : l.length ≤ 6) (hlo : ∀ x ∈ l, 0 ≤ x) (hhi : ∀ x ∈ l, x ≤ 1000) (hS : 0 < tot l) : mayS f l = true := by
  obtain ⟨x, hx, h5⟩ := (tot_pos l hlo).1 hS
  simp only [mayS, Bool.and_eq_true, decide_eq_true_eq, List.all_eq_true, List.any_eq_true]
  exact ⟨⟨⟨⟨h1, h2⟩, h3⟩, fun x hx => ⟨hlo x hx, hhi x hx⟩⟩, x, hx, h5⟩

theorem mayS_tot0 {f : Int} {l : List Int} (hlo : ∀ x ∈ l, 0 ≤ x) (h : ¬ 0 < tot l) : mayS f l = false := by
  have e : (l.any fun x => decide (0 < x)) = false := by
    rw [List.any_eq_false]
    intro x hx h5
    exact h ((tot_pos l hlo).2 ⟨x, hx, by simpa using h5⟩)
  simp [mayS, e]
theorem tot_mul (f : Int) : ∀ l : List Int, tot (l.map fun x => f * x) = f * tot l
  | [] => by simp [tot]
  | x :: l => by simp [tot, tot_mul f l, Int.mul_add]
theorem tot_low (f S : Int) : ∀ l : List Int, S * tot (cs (low f S l)) + tot (rs (low f S l)) = f * tot l
  | [] => by simp [tot, low, cs, rs]
  | x :: l => by
    have h := tot_low f S l
    have e := Int.mul_ediv_add_emod (f * x) S
    simp only [low, cs, rs, List.map_cons, tot, List.map_map, Int.mul_add] at h ⊢
    omega

variable {f : Int} {l : List Int}
theorem rem_bounds (h : May f l) {x : Int} (hx : x ∈ l) : 0 ≤ f * x / tot l ∧ f * x / tot l ≤ 64 ∧ 0 ≤ f * x % tot l ∧ f * x % tot l < tot l := by
  have hS := h.S1
  have h0 : 0 ≤ f * x := Int.mul_nonneg (by have := h.f1; omega) (h.lo x hx)
  have hle : x ≤ tot l := by
    have : ∀ (l : List Int), (∀ x ∈ l, 0 ≤ x) → x ∈ l → x ≤ tot l := by
      intro l
      induction l with
      | nil => intro _ h; simp at h
      | cons y l ih =>
        intro hl hx
        have h1 := hl y (by simp)
        have h2 := tot_nonneg l fun z hz => hl z (by simp [hz])
        rcases List.mem_cons.1 hx with rfl | hx
        · simp [tot]; omega
        · have := ih (fun z hz => hl z (by simp [hz])) hx; simp [tot]; omega
    exact this l h.lo hx
  refine ⟨Int.ediv_nonneg h0 (by omega), ?_, Int.emod_nonneg _ (by omega), Int.emod_lt_of_pos _ (by omega)⟩
  have h1 : f * x ≤ 64 * tot l := by
    calc f * x ≤ 64 * x := Int.mul_le_mul_of_nonneg_right h.f64 (h.lo x hx)
      _ ≤ 64 * tot l := Int.mul_le_mul_of_nonneg_left hle (by omega)
  calc f * x / tot l ≤ 64 * tot l / tot l := Int.ediv_le_ediv (by omega) h1
    _ = 64 := Int.mul_ediv_cancel _ (by omega)

theorem tot_rs_low (f : Int) (l : List Int) : tot (rs (low f (tot l) l)) = tot l * leftN f (tot l) l := by
  have := tot_low f (tot l) l
  unfold leftN
  rw [Int.mul_sub, Int.mul_comm (tot l) f]
  omega
theorem left_nonneg (h : May f l) : 0 ≤ leftN f (tot l) l := by
  have h1 : 0 ≤ tot (rs (low f (tot l) l)) := tot_nonneg _ fun r hr => by
    simp only [rs, low, List.map_map, List.mem_map] at hr
    obtain ⟨x, hx, rfl⟩ := hr
    exact (rem_bounds h hx).2.2.1
  rw [tot_rs_low f l] at h1
  have := h.S1
  apply Decidable.byContradiction
  intro hn
  have : tot l * leftN f (tot l) l < 0 := Int.mul_neg_of_pos_of_neg (by omega) (by omega)
  omega
theorem left_le (h : May f l) : leftN f (tot l) l ≤ 64 := by
  have h1 : 0 ≤ tot (cs (low f (tot l) l)) := tot_nonneg _ fun r hr => by
    simp only [cs, low, List.map_map, List.mem_map] at hr
    obtain ⟨x, hx, rfl⟩ := hr
    exact (rem_bounds h hx).1
  have := h.f64
  unfold leftN
  omega

/-- How the parts stand when so many quanta are still to be shared out. -/
structure Inv (f : Int) (l : List Int) (n : Nat) (P : List Pr) : Prop where
  len : P.length = l.length
  due : ∀ (i : Nat) (x : Int) (p : Pr), l[i]? = some x → P[i]? = some p → p = (f * x / tot l, f * x % tot l) ∨ (p = (f * x / tot l + 1, f * x % tot l - tot l) ∧ 0 < f * x % tot l)
  lex : ∀ (i j : Nat) (x y : Int) (p q : Pr), l[i]? = some x → l[j]? = some y → P[i]? = some p → P[j]? = some q → p.2 < 0 → 0 ≤ q.2 → f * y % tot l < f * x % tot l ∨ (f * y % tot l = f * x % tot l ∧ i < j)
  sum : tot (rs P) = tot l * n
  cnt : tot (cs P) = f - n
theorem Inv.start (h : May f l) : Inv f l (leftN f (tot l) l).toNat (low f (tot l) l) := by
  have h0 := left_nonneg h
  refine ⟨low_length _ _ _, ?_, ?_, ?_, ?_⟩
  · intro i x p hx hp
    simp only [low, List.getElem?_map, hx, Option.map_some, Option.some.injEq] at hp
    exact .inl hp.symm
  · intro i j x y p q hx hy hp hq hp2 hq2
    simp only [low, List.getElem?_map, hx, Option.map_some, Option.some.injEq] at hp
    subst hp
    have := (rem_bounds h (List.mem_of_getElem? hx)).2.2.1
    simp only at hp2
    omega
  · rw [tot_rs_low f l]; congr 1; omega
  · unfold leftN at h0 ⊢; omega
/-- Somebody has something due while something is left. -/
theorem Inv.top (h : May f l) {n : Nat} {P : List Pr} (hI : Inv f l (n + 1) P) : ∃ (hm : am (rs P) < P.length), 0 < (P[am (rs P)]).2 := by
  have hl : 0 < (rs P).length := by rw [rs_length, hI.len]; exact h.pos
  have hm : am (rs P) < P.length := by have := am_lt hl; rwa [rs_length] at this
  refine ⟨hm, ?_⟩
  apply Decidable.byContradiction
  intro hn
  have : tot (rs P) ≤ 0 := tot_nonpos _ fun r hr => by
    obtain ⟨j, hj, rfl⟩ := List.getElem_of_mem hr
    have h1 := am_max (rs P) hj
    rw [rs_get P hm, rs_get P (by rwa [rs_length] at hj)] at h1
    simp only [rs, List.getElem_map]
    omega
  rw [hI.sum] at this
  have : 0 < tot l * ((n + 1 : Nat) : Int) := Int.mul_pos (by have := h.S1; omega) (by omega)
  omega
theorem getD_of {α : Type} {L : List α} {i : Nat} (h : i < L.length) (d : α) : L.getD i d = L[i] := by simp [List.getD_eq_getElem?_getD, h]
theorem Inv.step (h : May f l) {n : Nat} {P : List Pr} (hI : Inv f l (n + 1) P) : Inv f l n (stepP (tot l) P) := by
  obtain ⟨hm, hpos⟩ := hI.top h
  have hS := h.S1
  have hml : am (rs P) < l.length := by rw [← hI.len]; exact hm
  have hmax : ∀ j (hj : j < P.length), P[j].2 ≤ P[am (rs P)].2 := fun j hj => by
    have := am_max (rs P) (j := j) (by rw [rs_length]; exact hj)
    rwa [rs_get P hm, rs_get P hj] at this
  have hfirst : ∀ j (hj : j < P.length), j < am (rs P) → P[j].2 < P[am (rs P)].2 := fun j hj hlt => by
    have := am_first (rs P) hlt
    rwa [rs_get P hm, rs_get P hj] at this
  have hP : stepP (tot l) P = P.set (am (rs P)) ((P[am (rs P)]).1 + 1, (P[am (rs P)]).2 - tot l) := by unfold stepP; rw [getD_of hm]
  generalize am (rs P) = m at *
  have hdm := hI.due m l[m] P[m] (List.getElem?_eq_getElem hml) (List.getElem?_eq_getElem hm)
  have hrm := (rem_bounds h (List.getElem_mem hml)).2.2
  have hdm1 : P[m] = (f * l[m] / tot l, f * l[m] % tot l) := by
    rcases hdm with e | ⟨e, -⟩
    · exact e
    · rw [e] at hpos; simp only at hpos; omega
  have hget : ∀ (i : Nat) (p : Pr), (stepP (tot l) P)[i]? = some p → (i = m ∧ p = (f * l[m] / tot l + 1, f * l[m] % tot l - tot l)) ∨ (i ≠ m ∧ P[i]? = some p) := fun i p hp => by
    rw [hP, List.getElem?_set] at hp
    by_cases hi : m = i
    · subst hi
      rw [if_pos rfl, if_pos hm, hdm1] at hp
      exact .inl ⟨rfl, (Option.some.inj hp).symm⟩
    · rw [if_neg hi] at hp
      exact .inr ⟨fun e => hi e.symm, hp⟩
  refine ⟨by rw [stepP_length, hI.len], ?_, ?_, ?_, ?_⟩
  · intro i x p hx hp
    rcases hget i p hp with ⟨rfl, rfl⟩ | ⟨-, hp⟩
    · obtain ⟨_, rfl⟩ := List.getElem?_eq_some_iff.1 hx
      refine .inr ⟨rfl, ?_⟩
      rw [hdm1] at hpos; exact hpos
    · exact hI.due i x p hx hp
  · intro i j x y p q hx hy hp hq hp2 hq2
    rcases hget i p hp with ⟨rfl, rfl⟩ | ⟨hi, hp⟩
    · obtain ⟨_, rfl⟩ := List.getElem?_eq_some_iff.1 hx
      rcases hget j q hq with ⟨rfl, rfl⟩ | ⟨hj, hq⟩
      · simp only at hq2; omega
      · obtain ⟨hjl, rfl⟩ := List.getElem?_eq_some_iff.1 hq
        have hry := (rem_bounds h (List.mem_of_getElem? hy)).2.2
        have hjd := hI.due j y _ hy hq
        have hj1 : P[j].2 = f * y % tot l := by
          rcases hjd with e | ⟨e, -⟩
          · rw [e]
          · rw [e] at hq2; simp only at hq2; omega
        have h1 := hmax j hjl
        rw [hj1, hdm1] at h1
        simp only at h1
        rcases Nat.lt_or_ge j i with hlt | hge
        · have h2 := hfirst j hjl hlt
          rw [hj1, hdm1] at h2
          simp only at h2
          exact .inl h2
        · omega
    · rcases hget j q hq with ⟨rfl, rfl⟩ | ⟨hj, hq⟩
      · obtain ⟨_, rfl⟩ := List.getElem?_eq_some_iff.1 hy
        simp only at hq2; omega
      · exact hI.lex i j x y p q hx hy hp hq hp2 hq2
  · rw [hP, rs_set, tot_set _ _ (by rw [rs_length]; exact hm), hI.sum]
    have : (rs P)[m]'(by rw [rs_length]; exact hm) = P[m].2 := by simp [rs]
    rw [this]
    rw [show ((n + 1 : Nat) : Int) = n + 1 by omega, Int.mul_add]
    omega
  · rw [hP, cs_set, tot_set _ _ (by rw [cs_length]; exact hm), hI.cnt]
    have : (cs P)[m]'(by rw [cs_length]; exact hm) = P[m].1 := by simp [cs]
    rw [this]
    omega
theorem Inv.run (h : May f l) : ∀ (k n : Nat) {P : List Pr}, Inv f l (n + k) P → Inv f l n (runP (tot l) k P)
  | 0, _, _, hI => hI
  | k + 1, n, P, hI => by rw [runP]; exact Inv.run h k n (hI.step h)
theorem Inv.fin (h : May f l) : Inv f l 0 (runP (tot l) (leftN f (tot l) l).toNat (low f (tot l) l)) := Inv.run h _ 0 (by rw [Nat.zero_add]; exact Inv.start h)

/-- How great the numbers of the parts may be. -/
theorem Inv.bound (h : May f l) {n : Nat} {P : List Pr} (hI : Inv f l n P) {p : Pr} (hp : p ∈ P) : 0 ≤ p.1 ∧ p.1 ≤ 65 ∧ -6000 ≤ p.2 ∧ p.2 ≤ 6000 := by
  obtain ⟨i, hi, rfl⟩ := List.getElem_of_mem hp
  have hl : i < l.length := by rw [← hI.len]; exact hi
  have hd := hI.due i l[i] P[i] (List.getElem?_eq_getElem hl) (List.getElem?_eq_getElem hi)
  have hr := rem_bounds h (List.getElem_mem hl)
  have := h.S1; have := h.S6
  rcases hd with e | ⟨e, -⟩ <;> rw [e] <;> simp only <;> omega
end Go.Proofs.Ytfjhcmpcnnjodaa
