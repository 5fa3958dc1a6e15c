/- Two groups of the root's, with threads in them; threads of the root's, with others beside them: what a quantum does. -/
import Derived.Test.YtfccmdmfllicdaaTm6
namespace Go.Proofs.Ytfccmdmfllicdaa
open Go.RowKit

/-! ### Two groups -/
/-- So many threads are laid in the two groups by turns, ready. -/
structure Gs (l : List Nd) (x y : Int) (i : Nat) : Prop where
  wf : Wf l
  len : l.length = i + 3
  thr : ∀ n ∈ l, n.thr = true → (∃ j : Nat, j < i ∧ n.id = 10 + j ∧ n.par = 1 + (j : Int) % 2) ∧ n.rdy = true
  grp : ∀ n ∈ l, n.thr = false → n.id = 0 ∨ (n.id = 1 ∧ n.par = 0 ∧ n.wt = x) ∨ (n.id = 2 ∧ n.par = 0 ∧ n.wt = y)
  one : ∃ n ∈ l, n.id = 1 ∧ n.par = 0 ∧ n.wt = x ∧ n.thr = false
  two : ∃ n ∈ l, n.id = 2 ∧ n.par = 0 ∧ n.wt = y ∧ n.thr = false
  has : ∀ j : Nat, j < i → ∃ n ∈ l, n.id = 10 + j ∧ n.par = 1 + (j : Int) % 2 ∧ n.thr = true
def grN (i wt : Int) : Nd := ⟨i, 0, wt, 0, false, false, 0⟩
def rt0 : Nd := ⟨0, -1, 1, 0, false, false, 0⟩
theorem gs_add1 {x : Int} (hx : isW x = true) : addC [rootN] 1 0 1 x false = 0 ∧ insT (newN [rootN] 0 1 x false) [rootN] = [rt0, grN 1 x] ∧ Up [rootN] 1 0 :=
  ⟨addC_zero hx (by omega) rootN_wf.sk.ids (p := rootN) (by simp) rfl rfl rfl (fun _ => by decide) (by decide), rfl, rootN_wf.up0⟩
theorem gs_wf1 {x : Int} (hx : isW x = true) : Wf [rt0, grN 1 x] := by
  have h := gs_add1 hx
  rw [← h.2.1]; exact rootN_wf.add h.1 h.2.2
theorem gs_add2 {x y : Int} (hx : isW x = true) (hy : isW y = true) : addC [rt0, grN 1 x] 1 0 2 y false = 0 ∧ insT (newN [rt0, grN 1 x] 0 2 y false) [rt0, grN 1 x] = [rt0, grN 1 x, grN 2 y] :=
  ⟨addC_zero hy (by omega) (gs_wf1 hx).sk.ids (p := rt0) (by simp) rfl rfl rfl (fun _ => by decide) (by simp), rfl⟩
theorem gs_start {x y : Int} (hx : isW x = true) (hy : isW y = true) : Gs [rt0, grN 1 x, grN 2 y] x y 0 where
  wf := by
    have h := gs_add2 hx hy
    rw [← h.2]; exact (gs_wf1 hx).add h.1 (gs_wf1 hx).up0
  len := rfl
  thr := fun n hn ht => by
    simp only [List.mem_cons, List.not_mem_nil, or_false] at hn
    rcases hn with rfl | rfl | rfl <;> cases ht
  grp := fun n hn ht => by
    simp only [List.mem_cons, List.not_mem_nil, or_false] at hn
    rcases hn with rfl | rfl | rfl
    · exact .inl rfl
    · exact .inr (.inl ⟨rfl, rfl, rfl⟩)
    · exact .inr (.inr ⟨rfl, rfl, rfl⟩)
  one := ⟨grN 1 x, by simp, rfl, rfl, rfl, rfl⟩
  two := ⟨grN 2 y, by simp, rfl, rfl, rfl, rfl⟩
  has := fun j hj => absurd hj (Nat.not_lt_zero j)
theorem Gs.up {l : List Nd} {x y : Int} {i : Nat} (g : Gs l x y i) (a : Int) (ha : a = 1 ∨ a = 2) : Up l 2 a ∧ ∃ p ∈ l, p.id = a ∧ p.thr = false := by
  have h0 := g.wf.up0
  rcases ha with rfl | rfl
  · obtain ⟨n, hn, e1, e2, -, e3⟩ := g.one
    exact ⟨⟨n, hn, e1, by rw [e2]; exact h0⟩, n, hn, e1, e3⟩
  · obtain ⟨n, hn, e1, e2, -, e3⟩ := g.two
    exact ⟨⟨n, hn, e1, by rw [e2]; exact h0⟩, n, hn, e1, e3⟩
theorem Gs.add {l : List Nd} {x y : Int} {i : Nat} (g : Gs l x y i) (hi : i < 50) {wt : Int} (hw : isW wt = true) : addC l 2 (1 + (i : Int) % 2) (10 + (i : Int)) wt true = 0 := by
  obtain ⟨-, p, hp, e, ht⟩ := g.up (1 + (i : Int) % 2) (by omega)
  refine addC_zero hw (by omega) g.wf.sk.ids hp e ht (getU_none.2 fun n hn e => ?_) (fun h => by cases h) (by have := g.len; omega)
  cases h : n.thr with
  | true =>
    obtain ⟨⟨j, h1, h2, -⟩, -⟩ := g.thr n hn h
    omega
  | false => have := g.grp n hn h; omega
theorem Gs.next {l : List Nd} {x y : Int} {i : Nat} (g : Gs l x y i) (hi : i < 50) {wt : Int} (hw : isW wt = true) :
    Wf (insT (newN l (1 + (i : Int) % 2) (10 + (i : Int)) wt true) l) ∧ (∃ n ∈ insT (newN l (1 + (i : Int) % 2) (10 + (i : Int)) wt true) l, n.id = 10 + (i : Int) ∧ n.thr = true) ∧ Gs (rdyU true (insT (newN l (1 + (i : Int) % 2) (10 + (i : Int)) wt true) l) (10 + (i : Int))) x y (i + 1) := by
  have hac := g.add hi hw
  have hwf := g.wf.add hac (g.up (1 + (i : Int) % 2) (by omega)).1
  generalize hd : newN l (1 + (i : Int) % 2) (10 + (i : Int)) wt true = d at *
  have d0 : d.id = 10 + (i : Int) ∧ d.par = 1 + (i : Int) % 2 ∧ d.thr = true ∧ d.rdy = false := by
    rw [← hd]; exact ⟨rfl, rfl, rfl, rfl⟩
  obtain ⟨d1, d2, d5, d6⟩ := d0
  have hdm : d ∈ insT d l := mem_insT.2 (.inl rfl)
  obtain ⟨p, hp, he, hpt⟩ := (hwf.sk.clo d hdm).2.2 (by omega)
  have hself := wake_self (f := 4) hwf.sk.ids hwf.sk.clo hdm d5 (by omega) hp he hpt d6
  rw [d1] at hself
  have hids := (hwf.rdyU hdm d5 true).sk.ids
  rw [d1] at hids
  have back := fun {n : Nd} hn => (rdyU_sim true (insT d l) (10 + (i : Int))).back (m' := n) hn
  have fwd := fun {n : Nd} hn => (rdyU_sim true (insT d l) (10 + (i : Int))).fwd (m := n) hn
  refine ⟨hwf, ⟨d, hdm, d1, d5⟩, ?_, ?_, fun n hn ht => ?_, fun n hn ht => ?_, ?_, ?_, fun j hj => ?_⟩
  · have := hwf.rdyU hdm d5 true
    rwa [d1] at this
  · rw [(rdyU_sim true (insT d l) (10 + (i : Int))).len, insT_length, g.len]
  · obtain ⟨n0, hn0, ek⟩ := back hn
    obtain ⟨k1, k2, k3, k4⟩ := keyS_eq ek
    rw [← k1, ← k2]
    rcases mem_insT.1 hn0 with e0 | hn1
    · rw [e0, d1, d2]
      refine ⟨⟨i, Nat.lt_succ_self i, rfl, rfl⟩, ?_⟩
      rw [uniqU hids hn hself (by rw [← k1, e0]; rfl)]; rfl
    · obtain ⟨⟨j, h1, h2, h3⟩, h4⟩ := g.thr n0 hn1 (k3.trans ht)
      refine ⟨⟨j, by omega, h2, h3⟩, ?_⟩
      have hkeep := wake_keep 5 hwf.sk.ids hwf.sk.clo hn0 (k3.trans ht) (id := 10 + (i : Int)) (by omega)
      rw [uniqU hids hn hkeep k1.symm]; exact h4
  · obtain ⟨n0, hn0, ek⟩ := back hn
    obtain ⟨k1, k2, k3, k4⟩ := keyS_eq ek
    rw [← k1, ← k2, ← k4]
    rcases mem_insT.1 hn0 with e0 | hn1
    · have := k3.trans ht
      rw [e0, d5] at this; cases this
    · exact g.grp n0 hn1 (k3.trans ht)
  · obtain ⟨n, hn, e1, e2, e3, e4⟩ := g.one
    obtain ⟨m, hm, ek⟩ := fwd (mem_insT.2 (.inr hn))
    obtain ⟨k1, k2, k3, k4⟩ := keyS_eq ek
    exact ⟨m, hm, k1.trans e1, k2.trans e2, k4.trans e3, k3.trans e4⟩
  · obtain ⟨n, hn, e1, e2, e3, e4⟩ := g.two
    obtain ⟨m, hm, ek⟩ := fwd (mem_insT.2 (.inr hn))
    obtain ⟨k1, k2, k3, k4⟩ := keyS_eq ek
    exact ⟨m, hm, k1.trans e1, k2.trans e2, k4.trans e3, k3.trans e4⟩
  · by_cases e : j = i
    · subst e
      exact ⟨_, hself, d1, d2, d5⟩
    · obtain ⟨n, hn, e1, e2, e3⟩ := g.has j (by omega)
      obtain ⟨m, hm, ek⟩ := fwd (mem_insT.2 (.inr hn))
      obtain ⟨k1, k2, k3, k4⟩ := keyS_eq ek
      exact ⟨m, hm, k1.trans e1, k2.trans e2, k3.trans e3⟩

/-- Both groups are counted. -/
structure Shr (l : List Nd) (x y : Int) (N : Nat) (P Q h k : Int) : Prop where
  wf : Wf l
  thr : ∀ n ∈ l, n.thr = true → ∃ j : Nat, j < N ∧ n.id = 10 + j ∧ n.par = 1 + (j : Int) % 2
  grp : ∀ n ∈ l, n.thr = false → n.id = 0 ∨ n.par = 0
  cnt : ∃ B, Cnt l 1 x P h B ∧ Cnt l 2 y Q k B
  near : -(ofW y) ≤ P - Q ∧ P - Q ≤ ofW x
theorem Gs.shr {l : List Nd} {x y : Int} {i : Nat} (g : Gs l x y i) (hi : 2 ≤ i) : ∃ P Q, Shr l x y i P Q 0 0 := by
  obtain ⟨m, hm, a1, a2, a3, a4⟩ := g.one
  obtain ⟨n, hn, b1, b2, b3, b4⟩ := g.two
  have hmr : m.rdy = true := by
    obtain ⟨t, ht, e1, e2, e3⟩ := g.has 0 (by omega)
    rw [g.wf.rd m hm a4, someT_iff]
    exact ⟨t, ht, by rw [e2, a1]; rfl, (g.thr t ht e3).2⟩
  have hnr : n.rdy = true := by
    obtain ⟨t, ht, e1, e2, e3⟩ := g.has 1 (by omega)
    rw [g.wf.rd n hn b4, someT_iff]
    exact ⟨t, ht, by rw [e2, b1]; rfl, (g.thr t ht e3).2⟩
  have hd := g.wf.near hm hn (a2.trans b2.symm) (by omega) hmr hnr
  rw [a3, b3] at hd
  exact ⟨m.pass, n.pass, g.wf, fun q hq ht => (g.thr q hq ht).1, fun q hq ht => by rcases g.grp q hq ht with h | h | h <;> omega, ⟨0, ⟨m, hm, a1, a2, hmr, a3, by omega⟩, ⟨n, hn, b1, b2, hnr, b3, by omega⟩⟩, by omega, hd.1⟩
theorem Shr.run {l : List Nd} {x y : Int} {N : Nat} {P Q h k : Int} (t : Shr l x y N P Q h k) :
    ∃ r R, r ∈ l ∧ r.id = 0 ∧ r.rdy = true ∧ runU 6 l 0 = some R ∧ ∃ j : Nat, j < N ∧ R.1 = 10 + (j : Int) ∧ ((j : Int) % 2 = 0 ∧ Shr (upR 6 R.2 R.1) x y N P Q (h + 1) k ∨ (j : Int) % 2 = 1 ∧ Shr (upR 6 R.2 R.1) x y N P Q h (k + 1)) := by
  obtain ⟨hw, hthr, hgrp, ⟨B, c1, c2⟩, hn⟩ := t
  obtain ⟨r, hr, hr0, hrr⟩ := c1.rdy hw
  obtain ⟨R, b, s, q1, q2, q3, q4, q5, q6, q7, q8, q9, q10, q11, m, hm, e1, e2, e3⟩ := hw.root_quantum hr hr0 hrr
  obtain ⟨j, hj, hj1, hj2⟩ := hthr m hm e2
  have hbt : b.thr = false := by
    cases hb : b.thr with
    | false => rfl
    | true =>
      obtain ⟨j', -, -, h3⟩ := hthr b q4 hb
      omega
  have hpar : m.par = b.id := by
    rcases q10 with h1 | h1
    · have : m = b := uniqU hw.sk.ids hm q4 (e1.trans h1)
      rw [this, hbt] at e2; cases e2
    · rw [← e1] at h1
      generalize hi : m.id = i at h1
      generalize hb0 : b.id = b0 at h1
      cases h1 with
      | @one m' hm' =>
        obtain rfl := uniqU hw.sk.ids hm hm' hi
        rfl
      | @more m' _ hm' h2 =>
        obtain rfl := uniqU hw.sk.ids hm hm' hi
        obtain ⟨p, hp, he, hpt⟩ := (hw.sk.clo m hm).2.2 (by omega)
        rcases hgrp p hp hpt with h3 | h3
        · omega
        · rw [← he] at h2
          have h4 := h2.low hw hp h3
          have h5 := (hw.rz b q4).1
          have h6 : b.id = 0 := by omega
          have := (hw.rz b q4).2 h6
          omega
  have hthr2 : ∀ n ∈ upR 6 R.2 R.1, n.thr = true → ∃ j : Nat, j < N ∧ n.id = 10 + j ∧ n.par = 1 + (j : Int) % 2 := fun n hn ht => by
    obtain ⟨n0, hn0, ek⟩ := q3.back hn
    obtain ⟨k1, k2, k3, -⟩ := keyR_eq ek
    rw [← k1, ← k2]; exact hthr n0 hn0 (k3.trans ht)
  have hgrp2 : ∀ n ∈ upR 6 R.2 R.1, n.thr = false → n.id = 0 ∨ n.par = 0 := fun n hn ht => by
    obtain ⟨n0, hn0, ek⟩ := q3.back hn
    obtain ⟨k1, k2, k3, -⟩ := keyR_eq ek
    rw [← k1, ← k2]; exact hgrp n0 hn0 (k3.trans ht)
  have d1 := c1.step q9
  have d2 := c2.step q9
  refine ⟨r, R, hr, hr0, hrr, q1, j, hj, by omega, ?_⟩
  by_cases ej : (j : Int) % 2 = 0
  · rw [if_pos (by omega)] at d1
    rw [if_neg (by omega)] at d2
    exact .inl ⟨ej, q2, hthr2, hgrp2, ⟨_, d1, d2⟩, hn⟩
  · rw [if_neg (by omega)] at d1
    rw [if_pos (by omega)] at d2
    exact .inr ⟨by omega, q2, hthr2, hgrp2, ⟨_, d1, d2⟩, hn⟩
theorem Shr.fair {l : List Nd} {x y : Int} {N : Nat} {P Q h k : Int} (t : Shr l x y N P Q h k) (hh : 0 ≤ h ∧ h ≤ 1048576) (hk : 0 ≤ k ∧ k ≤ 1048576) : fairW h x k y = true := by
  obtain ⟨B, c1, c2⟩ := t.cnt
  exact c1.fair t.wf c2 t.near hh hk

/-! ### Threads of the root's, and others -/
structure Far (l : List Nd) (L : List Int) (k : Nat) (h : Nat → Int) : Prop where
  wf : Wf l
  cnt : ∃ B, ∀ j, j < k → CntT l ((j : Int) + 1) (wtL L j) 0 (h (j + 1)) B
theorem Grw.far {l : List Nd} {L : List Int} {k : Nat} (g : Grw l L k) : Far l L k fun _ => 0 := ⟨g.wf, 0, g.cnt⟩
theorem Far.ins {l : List Nd} {L : List Int} {k : Nat} {h : Nat → Int} (t : Far l L k h) {dn : Nat} {parent id wt : Int} {thr : Bool} (hk : addC l dn parent id wt thr = 0) (hu : Up l dn parent) : Far (insT (newN l parent id wt thr) l) L k h := by
  obtain ⟨B, hc⟩ := t.cnt
  refine ⟨t.wf.add hk hu, B, fun j hj => ?_⟩
  obtain ⟨m, hm, r⟩ := hc j hj
  exact ⟨m, mem_insT.2 (.inr hm), r⟩
theorem Far.rdy {l : List Nd} {L : List Int} {k : Nat} {h : Nat → Int} (t : Far l L k h) {n : Nd} (hn : n ∈ l) (ht : n.thr = true) (hk : (k : Int) < n.id) (r : Bool) : Far (rdyU r l n.id) L k h := by
  obtain ⟨B, hc⟩ := t.cnt
  exact ⟨t.wf.rdyU hn ht r, B, fun j hj => (hc j hj).rdyU t.wf (by omega) r⟩
theorem Far.weigh {l : List Nd} {L : List Int} {k : Nat} {h : Nat → Int} (t : Far l L k h) {n p : Nd} (hn : n ∈ l) (h0 : 0 ≤ n.par) (hp : p ∈ l) (he : p.id = n.par) (hk : (k : Int) < n.id) {wt : Int} (hw : isW wt = true) : Far (upd n.id (wtF p.now wt) l) L k h := by
  obtain ⟨B, hc⟩ := t.cnt
  exact ⟨t.wf.weight hn h0 hp he hw, B, fun j hj => (hc j hj).upd (by omega)⟩
theorem Far.run {l : List Nd} {L : List Int} {k : Nat} {h : Nat → Int} (t : Far l L k h) (hk : 0 < k) :
    ∃ r R, r ∈ l ∧ r.id = 0 ∧ r.rdy = true ∧ runU 6 l 0 = some R ∧ ∃ q : Nat, 1 ≤ q ∧ R.1 = (q : Int) ∧ Far (upR 6 R.2 R.1) L k (fun j => if j = q then h j + 1 else h j) := by
  obtain ⟨hw, ⟨B, hc⟩⟩ := t
  obtain ⟨m, hm, -, -, hr, -⟩ := (hc 0 hk).cnt
  obtain ⟨r, R, s, q1, q2, q3, q4, q5, q6, ⟨m', hm', e1, e2, e3⟩, q8, -⟩ := hw.thr_quantum hm hr
  have h0 := (hw.rz m' hm').1
  have hne : m'.id ≠ 0 := fun e => by
    have h1 := (hw.rz m' hm').2 e
    have := (hw.sk.clo m' hm').2.1 (by omega)
    rw [e2] at this; cases this
  obtain ⟨q, hq⟩ : ∃ q : Nat, R.1 = (q : Int) := ⟨R.1.toNat, by omega⟩
  refine ⟨r, R, q1, q2, q3, q4, q, by omega, hq, q5, B + s, fun j hj => ?_⟩
  have := q8 _ _ _ _ _ (hc j hj)
  rw [hq] at this ⊢
  by_cases e : j + 1 = q
  · rw [if_pos (by omega)] at this
    rw [if_pos e]; exact this
  · rw [if_neg (by omega)] at this
    rw [if_neg e]; exact this
theorem Far.fair {l : List Nd} {L : List Int} {k : Nat} {h : Nat → Int} (t : Far l L k h) {a b : Nat} (ha : a < k) (hb : b < k) (h1 : 0 ≤ h (a + 1) ∧ h (a + 1) ≤ 1048576) (h2 : 0 ≤ h (b + 1) ∧ h (b + 1) ≤ 1048576) : fairW (h (a + 1)) (wtL L a) (h (b + 1)) (wtL L b) = true := by
  obtain ⟨B, hc⟩ := t.cnt
  have w1 := ofW_bounds (wtL L a)
  have w2 := ofW_bounds (wtL L b)
  exact (hc a ha).cnt.fair t.wf (hc b hb).cnt (by omega) h1 h2
end Go.Proofs.Ytfccmdmfllicdaa
