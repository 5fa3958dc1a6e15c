/- Of the counts, as data: they are exact; who has more of a share hasn't less of the frame; whole shares; shares so many times greater; a greater share of one. No program is named here. -/
import Derived.Test.YtfjhcmpcnnjodaaShM
import Derived.Test.YtfjhcmpcnnjodaaShX
namespace Go.Proofs.Ytfjhcmpcnnjodaa
open Go.RowKit

/-- Who has how much: rounded down, or one more where there was a rest. -/
structure Has (f : Int) (l : List Int) (i : Nat) (x c r : Int) (taken : Bool) : Prop where
  at_ : (countsL f l)[i]? = some c
  low : taken = false → c = f * x / tot l ∧ 0 ≤ r
  up : taken = true → c = f * x / tot l + 1 ∧ 0 < r
  rest : r = f * x % tot l
variable {f : Int} {l : List Int}
theorem has (h : May f l) {i : Nat} {x : Int} (hx : l[i]? = some x) : ∃ c t, Has f l i x c (f * x % tot l) t ∧
    ∃ p : Pr, (runP (tot l) (leftN f (tot l) l).toNat (Go.Proofs.Ytfjhcmpcnnjodaa.low f (tot l) l))[i]? = some p ∧ (t = true → p.2 < 0) ∧ (t = false → 0 ≤ p.2) := by
  have hI := Inv.fin h
  have hil : i < l.length := (List.getElem?_eq_some_iff.1 hx).1
  have hp : ∃ p, (runP (tot l) (leftN f (tot l) l).toNat (Go.Proofs.Ytfjhcmpcnnjodaa.low f (tot l) l))[i]? = some p := ⟨_, List.getElem?_eq_getElem (by rw [hI.len]; exact hil)⟩
  obtain ⟨p, hp⟩ := hp
  have hc : (countsL f l)[i]? = some p.1 := by unfold countsL cs; rw [List.getElem?_map, hp]; rfl
  have hr := rem_bounds h (List.mem_of_getElem? hx)
  rcases hI.due i x p hx hp with e | ⟨e, h0⟩
  · subst e
    exact ⟨_, false, ⟨hc, fun _ => ⟨rfl, hr.2.2.1⟩, (fun e => by cases e), rfl⟩, _, hp, (fun e => by cases e), fun _ => hr.2.2.1⟩
  · subst e
    exact ⟨_, true, ⟨hc, (fun e => by cases e), fun _ => ⟨rfl, h0⟩, rfl⟩, _, hp, (fun _ => by simp only; omega), fun e => by cases e⟩
theorem has_lex (h : May f l) {i j : Nat} {x y : Int} (hx : l[i]? = some x) (hy : l[j]? = some y) {c d : Int} {tc : (countsL f l)[i]? = some c} {td : (countsL f l)[j]? = some d}
    (h1 : c = f * x / tot l + 1) (h2 : d = f * y / tot l) : f * y % tot l < f * x % tot l ∨ (f * y % tot l = f * x % tot l ∧ i < j) := by
  obtain ⟨c', t1, a1, p1, e1, u1, v1⟩ := has h hx
  obtain ⟨d', t2, a2, p2, e2, u2, v2⟩ := has h hy
  have ec : c' = c := by have := a1.at_; rw [tc] at this; exact (Option.some.inj this).symm
  have ed : d' = d := by have := a2.at_; rw [td] at this; exact (Option.some.inj this).symm
  subst ec ed
  have ht1 : t1 = true := by
    cases t1 with
    | true => rfl
    | false => have := (a1.low rfl).1; omega
  have ht2 : t2 = false := by
    cases t2 with
    | false => rfl
    | true => have := (a2.up rfl).1; omega
  exact (Inv.fin h).lex i j x y p1 p2 hx hy e1 e2 (u1 ht1) (v2 ht2)
theorem counts_tot (h : May f l) : tot (countsL f l) = f := by have := (Inv.fin h).cnt; unfold countsL; omega
/-- The counts are exact. -/
theorem counts_exact (h : May f l) (hm : mayS f l = true) : exactL f l (countsL f l) = true := by
  have hS := h.S1
  unfold exactL
  rw [hm, countsL_length, counts_tot h, decide_eq_true rfl, decide_eq_true rfl, Bool.true_and, Bool.true_and, Bool.and_true, nearL_iff _ _ _ _ (countsL_length f l)]
  intro i x y hx hy
  obtain ⟨c, t, a, -⟩ := has h hx
  have ec : c = y := by have := a.at_; rw [hy] at this; exact (Option.some.inj this).symm
  subst ec
  have hr := rem_bounds h (List.mem_of_getElem? hx)
  have e := Int.mul_ediv_add_emod (f * x) (tot l)
  rw [Int.mul_comm] at e
  simp only [nearB, Bool.and_eq_true, decide_eq_true_eq]
  cases t with
  | false => rw [(a.low rfl).1]; omega
  | true =>
    have h0 := (a.up rfl).2
    rw [(a.up rfl).1, Int.add_mul, Int.one_mul]; omega
theorem counts_zero (h : May f l) {i : Nat} {c : Int} (hx : l[i]? = some 0) (hc : (countsL f l)[i]? = some c) : c = 0 := by
  obtain ⟨c', t, a, -⟩ := has h hx
  have ec : c' = c := by have := a.at_; rw [hc] at this; exact (Option.some.inj this).symm
  subst ec
  cases t with
  | false => have := (a.low rfl).1; rw [Int.mul_zero, Int.zero_ediv] at this; exact this
  | true => have := (a.up rfl).2; rw [Int.mul_zero, Int.zero_emod] at this; omega
/-- Who has more of a share, or as much and is ahead, hasn't less of the frame. -/
theorem counts_mono (h : May f l) {i k : Nat} {x y c d : Int} (hx : l[i]? = some x) (hy : l[k]? = some y) (hc : (countsL f l)[i]? = some c) (hd : (countsL f l)[k]? = some d) (hxy : x < y ∨ (x = y ∧ k < i)) : c ≤ d := by
  have hS := h.S1
  have hf := h.f1
  obtain ⟨c', t1, a1, -⟩ := has h hx
  obtain ⟨d', t2, a2, -⟩ := has h hy
  have ec : c' = c := by have := a1.at_; rw [hc] at this; exact (Option.some.inj this).symm
  have ed : d' = d := by have := a2.at_; rw [hd] at this; exact (Option.some.inj this).symm
  subst ec ed
  have hq : f * x / tot l ≤ f * y / tot l := Int.ediv_le_ediv (by omega) (Int.mul_le_mul_of_nonneg_left (by omega) (by omega))
  apply Decidable.byContradiction
  intro hlt
  have c1 : c' = f * x / tot l + 1 ∧ d' = f * y / tot l ∧ f * y / tot l = f * x / tot l := by
    cases t1 with
    | false =>
      have := (a1.low rfl).1
      cases t2 with
      | false => have := (a2.low rfl).1; omega
      | true => have := (a2.up rfl).1; omega
    | true =>
      have := (a1.up rfl).1
      cases t2 with
      | false => have := (a2.low rfl).1; omega
      | true => have := (a2.up rfl).1; omega
  have hl := has_lex h hx hy (tc := hc) (td := hd) c1.1 c1.2.1
  have e1 := Int.mul_ediv_add_emod (f * x) (tot l)
  have e2 := Int.mul_ediv_add_emod (f * y) (tot l)
  rw [c1.2.2] at e2
  rcases hxy with hxy | ⟨rfl, hki⟩
  · have : f * x < f * y := Int.mul_lt_mul_of_pos_left hxy (by omega)
    omega
  · omega

/-- Whole shares. -/
theorem counts_whole (l : List Int) (h1 : 1 ≤ tot l) : countsL (tot l) l = l := by
  have e : low (tot l) (tot l) l = l.map fun x => (x, 0) := by
    unfold low
    apply List.map_congr_left
    intro x _
    rw [Int.mul_ediv_cancel_left _ (by omega), Int.mul_emod_right]
  have ec : cs (low (tot l) (tot l) l) = l := by rw [e]; simp [cs, Function.comp_def]
  unfold countsL leftN
  rw [ec, Int.sub_self]
  exact ec

theorem getD_map_mul (m : Int) (R : List Int) (i : Nat) : (R.map fun r => m * r).getD i 0 = m * R.getD i 0 := by
  simp only [List.getD_eq_getElem?_getD, List.getElem?_map]
  cases R[i]? <;> simp
theorem amTo_mul {m : Int} (hm : 0 < m) (R : List Int) : ∀ k, amTo (R.map fun r => m * r) k = amTo R k
  | 0 => rfl
  | k + 1 => by
    simp only [amTo, amTo_mul hm R k, getD_map_mul]
    by_cases h : R.getD (amTo R k) 0 < R.getD k 0
    · rw [if_pos h, if_pos (Int.mul_lt_mul_of_pos_left h hm)]
    · rw [if_neg h, if_neg (by intro h2; exact h (Int.lt_of_mul_lt_mul_left h2 (by omega)))]
theorem am_mul {m : Int} (hm : 0 < m) (R : List Int) : am (R.map fun r => m * r) = am R := by
  unfold am
  rw [List.length_map, amTo_mul hm]
def scl (m : Int) (P : List Pr) : List Pr := P.map fun p => (p.1, m * p.2)
theorem cs_scl (m : Int) (P : List Pr) : cs (scl m P) = cs P := by simp [cs, scl]
theorem rs_scl (m : Int) (P : List Pr) : rs (scl m P) = (rs P).map fun r => m * r := by simp [rs, scl]
theorem stepP_scl {m : Int} (hm : 0 < m) (S : Int) (P : List Pr) : stepP (m * S) (scl m P) = scl m (stepP S P) := by
  unfold stepP
  rw [rs_scl, am_mul hm]
  have e : (scl m P).getD (am (rs P)) (0, 0) = ((P.getD (am (rs P)) (0, 0)).1, m * (P.getD (am (rs P)) (0, 0)).2) := by
    simp only [List.getD_eq_getElem?_getD, scl, List.getElem?_map]
    cases P[am (rs P)]? <;> simp
  rw [e]
  simp only [scl, List.map_set, Int.mul_sub]
theorem runP_scl {m : Int} (hm : 0 < m) (S : Int) : ∀ (n : Nat) (P : List Pr), runP (m * S) n (scl m P) = scl m (runP S n P)
  | 0, _ => rfl
  | n + 1, P => by rw [runP, runP, stepP_scl hm, runP_scl hm S n]
theorem low_scl {m : Int} (hm : 0 < m) (f S : Int) (l : List Int) : low f (m * S) (l.map fun x => m * x) = scl m (low f S l) := by
  unfold low scl
  rw [List.map_map, List.map_map]
  apply List.map_congr_left
  intro x _
  simp only [Function.comp]
  rw [show f * (m * x) = m * (f * x) by rw [← Int.mul_assoc, Int.mul_comm f m, Int.mul_assoc], Int.mul_ediv_mul_of_pos _ _ hm, Int.mul_emod_mul_of_pos _ _ hm]
theorem tot_scl (m : Int) : ∀ l : List Int, tot (l.map fun x => m * x) = m * tot l := fun l => tot_mul m l
/-- Shares so many times greater. -/
theorem counts_scl {m : Int} (hm : 0 < m) (f : Int) (l : List Int) : countsL f (l.map fun x => m * x) = countsL f l := by
  unfold countsL leftN
  rw [tot_scl, low_scl hm, cs_scl, runP_scl hm, cs_scl]

theorem tot_lt : ∀ (a b : List Int), a.length = b.length → (∀ (j : Nat) (x y : Int), a[j]? = some x → b[j]? = some y → x ≤ y) → (∃ (k : Nat) (x y : Int), a[k]? = some x ∧ b[k]? = some y ∧ x < y) → tot a < tot b
  | [], b, _, _, ⟨k, x, y, h, _⟩ => by simp at h
  | _ :: _, [], h, _, _ => by simp at h
  | x :: a, y :: b, hl, hle, ⟨k, x', y', h1, h2, h3⟩ => by
    have h0 := hle 0 x y rfl rfl
    have hle' : ∀ (j : Nat) (x y : Int), a[j]? = some x → b[j]? = some y → x ≤ y := fun j x y hx hy => hle (j + 1) x y (by simpa using hx) (by simpa using hy)
    cases k with
    | zero =>
      simp at h1 h2
      subst h1 h2
      have : ∀ (a b : List Int), a.length = b.length → (∀ (j : Nat) (x y : Int), a[j]? = some x → b[j]? = some y → x ≤ y) → tot a ≤ tot b := by
        intro a
        induction a with
        | nil => intro b hb _; cases b with
          | nil => simp
          | cons _ _ => simp at hb
        | cons x a ih => intro b hb h; cases b with
          | nil => simp at hb
          | cons y b =>
            have := ih b (by simpa using hb) fun j x y hx hy => h (j + 1) x y (by simpa using hx) (by simpa using hy)
            have := h 0 x y rfl rfl
            simp [tot]; omega
      have := this a b (by simpa using hl) hle'
      simp [tot]; omega
    | succ k =>
      have := tot_lt a b (by simpa using hl) hle' ⟨k, x', y', by simpa using h1, by simpa using h2, h3⟩
      simp [tot]; omega

/-- A greater share of one. -/
theorem counts_more (h : May f l) {k : Nat} {x e : Int} (hx : l[k]? = some x) (he : 0 ≤ e) (h' : May f (l.set k (x + e))) {c d : Int} (hc : (countsL f l)[k]? = some c) (hd : (countsL f (l.set k (x + e)))[k]? = some d) : c ≤ d := by
  have hkl := (List.getElem?_eq_some_iff.1 hx).1
  have hxe := (List.getElem?_eq_some_iff.1 hx).2
  have hS := h.S1
  have hf := h.f1
  have hT : tot (l.set k (x + e)) = tot l + e := by rw [tot_set l k hkl, hxe]; omega
  have hxk : (l.set k (x + e))[k]? = some (x + e) := List.getElem?_set_self hkl
  obtain ⟨c', t1, a1, -⟩ := has h hx
  obtain ⟨d', t2, a2, -⟩ := has h' hxk
  have ec : c' = c := by have := a1.at_; rw [hc] at this; exact (Option.some.inj this).symm
  have ed : d' = d := by have := a2.at_; rw [hd] at this; exact (Option.some.inj this).symm
  subst ec ed
  have hx0 := h.lo x (List.mem_of_getElem? hx)
  have hqf : f * x / tot l ≤ f := by
    have hxt : x ≤ tot l := by
      have : ∀ (l : List Int), (∀ x ∈ l, 0 ≤ x) → x ∈ l → x ≤ tot l := by
        intro l
        induction l with
        | nil => intro _ h; simp at h
        | cons y l ih =>
          intro hl hx
          have h1 := hl y (by simp)
          have h2 := tot_nonneg l fun z hz => hl z (by simp [hz])
          rcases List.mem_cons.1 hx with rfl | hx
          · simp [tot]; omega
          · have := ih (fun z hz => hl z (by simp [hz])) hx; simp [tot]; omega
      exact this l h.lo (List.mem_of_getElem? hx)
    calc f * x / tot l ≤ f * tot l / tot l := Int.ediv_le_ediv (by omega) (Int.mul_le_mul_of_nonneg_left hxt (by omega))
      _ = f := Int.mul_ediv_cancel _ (by omega)
  have ek := Int.mul_ediv_add_emod (f * x) (tot l)
  have ek' := Int.mul_ediv_add_emod (f * (x + e)) (tot l + e)
  have rk := Int.emod_nonneg (f * x) (show tot l ≠ 0 by omega)
  have hfe : f * x / tot l * e ≤ f * e := Int.mul_le_mul_of_nonneg_right hqf he
  have hqq : f * x / tot l ≤ f * (x + e) / (tot l + e) := by
    rw [Int.le_ediv_iff_mul_le (by omega), Int.mul_add, Int.mul_add, Int.mul_comm _ (tot l)]
    omega
  rw [hT] at a2
  apply Decidable.byContradiction
  intro hlt
  have k1 : c' = f * x / tot l + 1 ∧ d' = f * (x + e) / (tot l + e) ∧ f * (x + e) / (tot l + e) = f * x / tot l := by
    have l1 := a1.low; have u1 := a1.up; have l2 := a2.low; have u2 := a2.up
    rw [hT] at l2 u2
    cases t1 with
    | false =>
      have := (l1 rfl).1
      cases t2 with
      | false => have := (l2 rfl).1; omega
      | true => have := (u2 rfl).1; omega
    | true =>
      have := (u1 rfl).1
      cases t2 with
      | false => have := (l2 rfl).1; omega
      | true => have := (u2 rfl).1; omega
  -- somebody else has more then
  obtain ⟨j, cj, dj, hcj, hdj, hj⟩ : ∃ (j : Nat) (cj dj : Int), (countsL f l)[j]? = some cj ∧ (countsL f (l.set k (x + e)))[j]? = some dj ∧ cj < dj := by
    apply Classical.byContradiction
    intro hno
    have := tot_lt (countsL f (l.set k (x + e))) (countsL f l) (by rw [countsL_length, countsL_length, List.length_set]) (fun j y z hy hz => by
      apply Decidable.byContradiction
      intro hyz
      exact hno ⟨j, z, y, hz, hy, by omega⟩) ⟨k, d', c', hd, hc, by omega⟩
    rw [counts_tot h, counts_tot h'] at this
    omega
  have hjk : j ≠ k := by
    rintro rfl
    rw [hc] at hcj; rw [hd] at hdj
    obtain rfl := Option.some.inj hcj
    obtain rfl := Option.some.inj hdj
    omega
  have hjl : j < l.length := by have := (List.getElem?_eq_some_iff.1 hcj).1; rwa [countsL_length] at this
  obtain ⟨y, hy⟩ : ∃ y, l[j]? = some y := ⟨_, List.getElem?_eq_getElem hjl⟩
  have hy' : (l.set k (x + e))[j]? = some y := by rw [List.getElem?_set_ne (fun e => hjk e.symm)]; exact hy
  have hy0 := h.lo y (List.mem_of_getElem? hy)
  obtain ⟨cj', t3, a3, -⟩ := has h hy
  obtain ⟨dj', t4, a4, -⟩ := has h' hy'
  have ecj : cj' = cj := by have := a3.at_; rw [hcj] at this; exact (Option.some.inj this).symm
  have edj : dj' = dj := by have := a4.at_; rw [hdj] at this; exact (Option.some.inj this).symm
  subst ecj edj
  have hfy : 0 ≤ f * y := Int.mul_nonneg (by omega) hy0
  have ej := Int.mul_ediv_add_emod (f * y) (tot l)
  have ej' := Int.mul_ediv_add_emod (f * y) (tot l + e)
  have rj := Int.emod_nonneg (f * y) (show tot l ≠ 0 by omega)
  have rj2 := Int.emod_nonneg (f * y) (show tot l + e ≠ 0 by omega)
  have q0 : 0 ≤ f * y / (tot l + e) := Int.ediv_nonneg hfy (by omega)
  have hjq : f * y / (tot l + e) ≤ f * y / tot l := by
    rw [Int.le_ediv_iff_mul_le (by omega)]
    have : f * y / (tot l + e) * tot l ≤ f * y / (tot l + e) * (tot l + e) := Int.mul_le_mul_of_nonneg_left (by omega) q0
    rw [Int.mul_comm (f * y / (tot l + e)) (tot l + e)] at this
    omega
  have k2 : dj' = f * y / (tot l + e) + 1 ∧ cj' = f * y / tot l ∧ f * y / (tot l + e) = f * y / tot l := by
    have l1 := a3.low; have u1 := a3.up; have l2 := a4.low; have u2 := a4.up
    rw [hT] at l2 u2
    cases t3 with
    | false =>
      have := (l1 rfl).1
      cases t4 with
      | false => have := (l2 rfl).1; omega
      | true => have := (u2 rfl).1; omega
    | true =>
      have := (u1 rfl).1
      cases t4 with
      | false => have := (l2 rfl).1; omega
      | true => have := (u2 rfl).1; omega
  have x1 := has_lex h hx hy (tc := hc) (td := hcj) k1.1 k2.2.1
  have x2 := has_lex h' hy' hxk (tc := hdj) (td := hd) (by rw [hT]; exact k2.1) (by rw [hT]; exact k1.2.1)
  rw [hT] at x2
  rw [k1.2.2] at ek'
  rw [k2.2.2] at ej'
  have qj0 : 0 ≤ f * y / tot l * e := Int.mul_nonneg (by omega) he
  rw [Int.add_mul] at ek' ej'
  have hfxe := Int.mul_add f x e
  rw [Int.mul_comm e] at ek' ej'
  omega
end Go.Proofs.Ytfjhcmpcnnjodaa
