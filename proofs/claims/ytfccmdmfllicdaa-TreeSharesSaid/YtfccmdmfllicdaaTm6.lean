/- Threads in the root, of a row of weights: laid, and counted round by round. -/
import Derived.Test.YtfccmdmfllicdaaTm4
namespace Go.Proofs.Ytfccmdmfllicdaa
open Go.RowKit

/-- The weight of the j-th. -/
def wtL (L : List Int) (j : Nat) : Int := L.getD j 0 % 16 + 1
theorem wtL_is (L : List Int) (j : Nat) : isW (wtL L j) = true := isW_iff.2 (by unfold wtL; omega)
theorem wtL_bounds (L : List Int) (j : Nat) : 1 ≤ wtL L j ∧ wtL L j ≤ 16 := by unfold wtL; omega
theorem wtL_get {L : List Int} {j : Nat} (h : j < L.length) : wtL L j = L[j] % 16 + 1 := by
  unfold wtL; rw [List.getD_eq_getElem?_getD, List.getElem?_eq_getElem h]; rfl
def sumF (f : Nat → Int) : Nat → Int
  | 0 => 0
  | k + 1 => sumF f k + f k
theorem sumF_le {f g : Nat → Int} : ∀ {k : Nat}, (∀ j, j < k → f j ≤ g j) → sumF f k ≤ sumF g k
  | 0, _ => Int.le_refl _
  | k + 1, h => by
    have h1 := sumF_le (k := k) fun j hj => h j (by omega)
    have h2 := h k (by omega)
    simp only [sumF]; omega
theorem sumF_eq {f g : Nat → Int} : ∀ {k : Nat}, (∀ j, j < k → f j ≤ g j) → sumF f k = sumF g k → ∀ j, j < k → f j = g j
  | 0, _, _, j, hj => absurd hj (Nat.not_lt_zero j)
  | k + 1, h, e, j, hj => by
    have h1 := sumF_le (k := k) fun j hj => h j (by omega)
    have h2 := h k (by omega)
    simp only [sumF] at e
    by_cases hjk : j = k
    · subst hjk; omega
    · exact sumF_eq (k := k) (fun j hj => h j (by omega)) (by omega) j (by omega)
theorem sumF_congr {f g : Nat → Int} : ∀ {k : Nat}, (∀ j, j < k → f j = g j) → sumF f k = sumF g k
  | 0, _ => rfl
  | k + 1, h => by simp only [sumF]; rw [sumF_congr (k := k) fun j hj => h j (by omega), h k (by omega)]
theorem sumF_step {f : Nat → Int} {i : Nat} : ∀ {k : Nat}, i < k → sumF (fun j => if j = i then f j + 1 else f j) k = sumF f k + 1
  | 0, h => absurd h (Nat.not_lt_zero _)
  | k + 1, h => by
    simp only [sumF]
    by_cases hik : i = k
    · subst hik
      rw [if_pos rfl, sumF_congr (g := f) fun j hj => by rw [if_neg (by omega)]]
      omega
    · rw [if_neg (fun e => hik e.symm), sumF_step (k := k) (by omega)]
      omega
theorem sumW_bounds (L : List Int) : ∀ k : Nat, 0 ≤ sumF (wtL L) k ∧ sumF (wtL L) k ≤ 16 * k
  | 0 => by simp [sumF]
  | k + 1 => by
    have h1 := sumW_bounds L k
    have h2 := wtL_bounds L k
    simp only [sumF]; omega
theorem whole_fin : ∀ x : Fin 16, ((x.val : Int) + 1) * ofW ((x.val : Int) + 1) = 720720 := by decide
theorem whole_of {x : Int} (hx : 1 ≤ x ∧ x ≤ 16) : x * ofW x = 720720 := by
  have h := whole_fin ⟨(x - 1).toNat, by omega⟩
  have e1 : (((x - 1).toNat : Nat) : Int) + 1 = x := by omega
  simp only [e1] at h
  exact h

/-- Waking leaves all times. -/
def keyN (n : Nd) : Int × Int := (n.id, n.now)
theorem upd_keyN {id : Int} {f : Nd → Nd} (hf : ∀ m, keyN (f m) = keyN m) (l : List Nd) : (upd id f l).map keyN = l.map keyN := by
  unfold upd
  rw [List.map_map]
  refine List.map_congr_left fun m _ => ?_
  simp only [Function.comp]
  split
  · exact hf m
  · rfl
theorem wake_keyN : ∀ (f : Nat) (l : List Nd) (id : Int), (wakeU f l id).map keyN = l.map keyN
  | 0, _, _ => rfl
  | f + 1, l, id => by
    simp only [wakeU]
    split
    · rfl
    · split
      · rfl
      · split
        · exact upd_keyN (f := onF) (fun _ => rfl) l
        · rw [wake_keyN f]; exact upd_keyN (f := rdyF _) (fun _ => rfl) l
theorem wake_now0 {l : List Nd} (h : ∀ m ∈ l, m.now = 0) (f : Nat) (id : Int) : ∀ m ∈ wakeU f l id, m.now = 0 := fun m hm => by
  have h1 : keyN m ∈ (wakeU f l id).map keyN := List.mem_map.2 ⟨m, hm, rfl⟩
  rw [wake_keyN] at h1
  obtain ⟨n, hn, e⟩ := List.mem_map.1 h1
  have := h n hn
  simp only [keyN, Prod.mk.injEq] at e
  omega

/-- So many are laid, ready. -/
structure Grw (l : List Nd) (L : List Int) (i : Nat) : Prop where
  wf : Wf l
  len : l.length = i + 1
  ids : ∀ n ∈ l, n.id ≤ i
  zero : ∀ n ∈ l, n.now = 0
  cnt : ∀ j, j < i → CntT l ((j : Int) + 1) (wtL L j) 0 0 0
theorem grw_start (L : List Int) : Grw [rootN] L 0 :=
  ⟨rootN_wf, rfl, fun n hn => by rw [List.mem_singleton.1 hn]; exact Int.le_refl 0, fun n hn => by rw [List.mem_singleton.1 hn]; rfl, fun j hj => absurd hj (Nat.not_lt_zero j)⟩
theorem Grw.add {l : List Nd} {L : List Int} {i : Nat} (g : Grw l L i) (hi : i < 59) : addC l 1 0 ((i : Int) + 1) (wtL L i) true = 0 := by
  obtain ⟨r, hr, hr0, -, hrt⟩ := g.wf.root
  exact addC_zero (wtL_is L i) (by omega) g.wf.sk.ids hr hr0 hrt (getU_none.2 fun n hn e => by have := g.ids n hn; omega) (fun h => by cases h) (by have := g.len; omega)
theorem Grw.next {l : List Nd} {L : List Int} {i : Nat} (g : Grw l L i) (hi : i < 59) :
    Wf (insT (newN l 0 ((i : Int) + 1) (wtL L i) true) l) ∧ (∃ n ∈ insT (newN l 0 ((i : Int) + 1) (wtL L i) true) l, n.id = (i : Int) + 1 ∧ n.thr = true) ∧ Grw (rdyU true (insT (newN l 0 ((i : Int) + 1) (wtL L i) true) l) ((i : Int) + 1)) L (i + 1) := by
  have hac := g.add hi
  have hwf := g.wf.add hac g.wf.up0
  obtain ⟨r, hr, hr0, hrp, hrt⟩ := g.wf.root
  have hnow : nowU l 0 = 0 := by
    have := nowU_of g.wf.sk.ids hr
    rw [hr0] at this
    rw [this]; exact g.zero r hr
  generalize hd : newN l 0 ((i : Int) + 1) (wtL L i) true = d at *
  have d0 : d.id = (i : Int) + 1 ∧ d.par = 0 ∧ d.wt = wtL L i ∧ d.pass = 0 ∧ d.thr = true ∧ d.rdy = false ∧ d.now = 0 := by
    rw [← hd]; exact ⟨rfl, rfl, rfl, hnow, rfl, rfl, rfl⟩
  obtain ⟨d1, d2, d3, d4, d5, d6, d7⟩ := d0
  have hdm : d ∈ insT d l := mem_insT.2 (.inl rfl)
  have hz : ∀ n ∈ insT d l, n.now = 0 := fun n hn => by
    rcases mem_insT.1 hn with rfl | hn
    · exact d7
    · exact g.zero n hn
  have hrm : r ∈ insT d l := mem_insT.2 (.inr hr)
  refine ⟨hwf, ⟨d, hdm, d1, d5⟩, ?_, ?_, fun n hn => ?_, ?_, fun j hj => ?_⟩
  · have := hwf.rdyU hdm d5 true
    rwa [d1] at this
  · rw [(rdyU_sim true (insT d l) ((i : Int) + 1)).len, insT_length, g.len]
  · obtain ⟨n0, hn0, ek⟩ := (rdyU_sim true (insT d l) ((i : Int) + 1)).back hn
    obtain ⟨k1, -⟩ := keyS_eq ek
    rw [← k1]
    rcases mem_insT.1 hn0 with rfl | hn0
    · rw [d1]; omega
    · have := g.ids n0 hn0; omega
  · exact wake_now0 hz 5 _
  · by_cases e : j = i
    · subst e
      have := wake_self (f := 4) hwf.sk.ids hwf.sk.clo hdm d5 (by omega) hrm (hr0.trans d2.symm) hrt d6
      rw [d1] at this
      exact ⟨_, this, d1, d2, rfl, d3, by simp only [rdyF]; rw [d4, g.zero r hr]; simp, d5⟩
    · have hc := g.cnt j (by omega)
      obtain ⟨m, hm, e1, e2, e3, e4, e5, e6⟩ := hc
      have hc2 : CntT (insT d l) ((j : Int) + 1) (wtL L j) 0 0 0 := ⟨m, mem_insT.2 (.inr hm), e1, e2, e3, e4, e5, e6⟩
      exact hc2.rdyU hwf (by omega) true

/-- In a round. -/
structure Rnd (l : List Nd) (L : List Int) (k : Nat) (h : Nat → Int) (P : Int) : Prop where
  wf : Wf l
  only : ∀ n ∈ l, n.thr = true → 1 ≤ n.id ∧ n.id ≤ k
  cnt : ∃ B, ∀ j, j < k → CntT l ((j : Int) + 1) (wtL L j) P (h (j + 1)) B
  le : ∀ j, j < k → 0 ≤ h (j + 1) ∧ h (j + 1) ≤ wtL L j
theorem Grw.rnd {l : List Nd} {L : List Int} {k : Nat} (g : Grw l L k) : Rnd l L k (fun _ => 0) 0 :=
  ⟨g.wf, fun n hn ht => ⟨by
    have h0 := (g.wf.sk.clo n hn).1
    by_cases e : n.id = 0
    · have h1 := (g.wf.rz n hn).2 e
      have := (g.wf.sk.clo n hn).2.1 (by omega)
      rw [ht] at this; cases this
    · omega, g.ids n hn⟩, ⟨0, g.cnt⟩, fun j _ => by have := wtL_bounds L j; omega⟩
theorem Rnd.run {l : List Nd} {L : List Int} {k : Nat} {h : Nat → Int} {P : Int} (t : Rnd l L k h P) (hk : 0 < k) (hs : sumF (fun j => h (j + 1)) k < sumF (wtL L) k) :
    ∃ r R, r ∈ l ∧ r.id = 0 ∧ r.rdy = true ∧ runU 6 l 0 = some R ∧ ∃ i, i < k ∧ R.1 = ((i + 1 : Nat) : Int) ∧ Rnd (upR 6 R.2 R.1) L k (fun j => if j = i + 1 then h j + 1 else h j) P ∧ sumF (fun j => if j + 1 = i + 1 then h (j + 1) + 1 else h (j + 1)) k = sumF (fun j => h (j + 1)) k + 1 := by
  obtain ⟨hw, honly, ⟨B, hc⟩, hle⟩ := t
  obtain ⟨m, hm, -, -, hr, -⟩ := (hc 0 hk).cnt
  obtain ⟨r, R, s, q1, q2, q3, q4, q5, q6, ⟨m', hm', e1, e2, e3⟩, q8, q9⟩ := hw.thr_quantum hm hr
  have hb := honly m' hm' e2
  obtain ⟨i, hi⟩ : ∃ i : Nat, R.1 = (i : Int) + 1 := ⟨(R.1 - 1).toNat, by omega⟩
  have hik : i < k := by omega
  -- he hasn't had his share
  have hlt : h (i + 1) < wtL L i := by
    apply Decidable.byContradiction
    intro hn
    have hfull : h (i + 1) = wtL L i := by have := hle i hik; omega
    have hall : ∀ j, j < k → wtL L j ≤ h (j + 1) := fun j hj => by
      have h1 := q9 _ _ _ _ _ _ _ _ _ _ (hc i hik) hi.symm (hc j hj)
      rw [hfull] at h1
      have w1 := whole_of (wtL_bounds L i)
      have w2 := whole_of (wtL_bounds L j)
      have hp : 0 < ofW (wtL L j) := by have := ofW_pos (wtL_is L j); omega
      have h2 : wtL L j * ofW (wtL L j) ≤ h (j + 1) * ofW (wtL L j) := by omega
      exact Int.le_of_mul_le_mul_right h2 hp
    have := sumF_le (k := k) hall
    omega
  refine ⟨r, R, q1, q2, q3, q4, i, hik, by omega, ⟨q5, fun n hn ht => ?_, ⟨B + s, fun j hj => ?_⟩, fun j hj => ?_⟩, ?_⟩
  · obtain ⟨n0, hn0, ek⟩ := q6.back hn
    obtain ⟨k1, k2, k3, -⟩ := keyR_eq ek
    rw [← k1]; exact honly n0 hn0 (k3.trans ht)
  · have := q8 _ _ _ _ _ (hc j hj)
    rw [hi] at this
    by_cases e : j = i
    · subst e
      rw [if_pos rfl] at this
      simp only [if_true]
      rw [hi]
      exact this
    · rw [if_neg (by omega)] at this
      rw [if_neg (by omega), hi]
      exact this
  · have h1 := hle j hj
    by_cases e : j = i
    · subst e; rw [if_pos rfl]; omega
    · rw [if_neg (by omega)]; exact h1
  · have := sumF_step (f := fun j => h (j + 1)) (i := i) (k := k) hik
    rw [← this]
    refine sumF_congr fun j _ => ?_
    by_cases e : j = i
    · subst e; rw [if_pos rfl, if_pos rfl]
    · rw [if_neg (by omega), if_neg e]
/-- A whole round. -/
theorem Rnd.whole {l : List Nd} {L : List Int} {k : Nat} {h : Nat → Int} {P : Int} (t : Rnd l L k h P) (hs : sumF (fun j => h (j + 1)) k = sumF (wtL L) k) : (∀ j, j < k → h (j + 1) = wtL L j) ∧ Rnd l L k (fun _ => 0) (P + 720720) := by
  have he := sumF_eq (k := k) (fun j hj => (t.le j hj).2) hs
  refine ⟨he, t.wf, t.only, ?_, fun j _ => by have := wtL_bounds L j; omega⟩
  obtain ⟨B, hc⟩ := t.cnt
  refine ⟨B, fun j hj => ?_⟩
  obtain ⟨m, hm, e1, e2, e3, e4, e5, e6⟩ := hc j hj
  refine ⟨m, hm, e1, e2, e3, e4, ?_, e6⟩
  rw [e5, he j hj, whole_of (wtL_bounds L j)]
  omega
end Go.Proofs.Ytfccmdmfllicdaa
