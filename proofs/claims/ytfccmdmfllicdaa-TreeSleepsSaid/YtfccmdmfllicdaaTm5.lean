/- Two threads in the root, of whatever weights: both counted from some time on. -/
import Derived.Test.YtfccmdmfllicdaaTm4
namespace Go.Proofs.Ytfccmdmfllicdaa
open Go.RowKit

structure Two (l : List Nd) (x y P Q h k : Int) : Prop where
  wf : Wf l
  only : ∀ n ∈ l, n.thr = true → n.id = 1 ∨ n.id = 2
  cnt : ∃ B, CntT l 1 x P h B ∧ CntT l 2 y Q k B
  near : -(ofW y) ≤ P - Q ∧ P - Q ≤ ofW x
theorem Two.run {l : List Nd} {x y P Q h k : Int} (t : Two l x y P Q h k) :
    ∃ r R, r ∈ l ∧ r.id = 0 ∧ r.rdy = true ∧ runU 6 l 0 = some R ∧ (R.1 = 1 ∧ Two (upR 6 R.2 R.1) x y P Q (h + 1) k ∨ R.1 = 2 ∧ Two (upR 6 R.2 R.1) x y P Q h (k + 1)) := by
  obtain ⟨hw, honly, ⟨B, c1, c2⟩, hn⟩ := t
  obtain ⟨m, hm, -, -, hr, -⟩ := c1.cnt
  obtain ⟨r, R, s, q1, q2, q3, q4, q5, q6, ⟨m', hm', e1, e2, e3⟩, q8, -⟩ := hw.thr_quantum hm hr
  have hon : ∀ n ∈ upR 6 R.2 R.1, n.thr = true → n.id = 1 ∨ n.id = 2 := fun n hn ht => by
    obtain ⟨n0, hn0, ek⟩ := q6.back hn
    obtain ⟨k1, k2, k3, -⟩ := keyR_eq ek
    rw [← k1]; exact honly n0 hn0 (k3.trans ht)
  have d1 := q8 _ _ _ _ _ c1
  have d2 := q8 _ _ _ _ _ c2
  refine ⟨r, R, q1, q2, q3, q4, ?_⟩
  rcases honly m' hm' e2 with e | e
  · have e : R.1 = 1 := by omega
    rw [if_pos e.symm] at d1
    rw [if_neg (by omega)] at d2
    exact .inl ⟨e, q5, hon, ⟨_, d1, d2⟩, hn⟩
  · have e : R.1 = 2 := by omega
    rw [if_neg (by omega)] at d1
    rw [if_pos e.symm] at d2
    exact .inr ⟨e, q5, hon, ⟨_, d1, d2⟩, hn⟩
theorem Two.fair {l : List Nd} {x y P Q h k : Int} (t : Two l x y P Q h k) (hh : 0 ≤ h ∧ h ≤ 1048576) (hk : 0 ≤ k ∧ k ≤ 1048576) : fairW h x k y = true := by
  obtain ⟨hw, honly, ⟨B, c1, c2⟩, hn⟩ := t
  exact c1.cnt.fair hw c2.cnt hn hh hk
/-- Both ready: they are counted from here on. -/
theorem Two.start {l : List Nd} (hw : Wf l) (honly : ∀ n ∈ l, n.thr = true → n.id = 1 ∨ n.id = 2) {m n : Nd} (hm : m ∈ l) (hn : n ∈ l) (m1 : m.id = 1 ∧ m.par = 0 ∧ m.rdy = true ∧ m.thr = true) (n1 : n.id = 2 ∧ n.par = 0 ∧ n.rdy = true ∧ n.thr = true) : ∃ P Q, Two l m.wt n.wt P Q 0 0 := by
  have hd := hw.near hm hn (m1.2.1.trans n1.2.1.symm) (by omega) m1.2.2.1 n1.2.2.1
  exact ⟨m.pass, n.pass, hw, honly, ⟨0, ⟨m, hm, m1.1, m1.2.1, m1.2.2.1, rfl, by omega, m1.2.2.2⟩, ⟨n, hn, n1.1, n1.2.1, n1.2.2.1, rfl, by omega, n1.2.2.2⟩⟩, by omega, hd.1⟩

/-- The first alone is ready. -/
structure Fst (l : List Nd) (x y : Int) : Prop where
  wf : Wf l
  only : ∀ n ∈ l, n.thr = true → n.id = 1 ∨ n.id = 2
  one : ∃ m ∈ l, m.id = 1 ∧ m.par = 0 ∧ m.rdy = true ∧ m.thr = true ∧ m.wt = x
  two : ∃ m ∈ l, m.id = 2 ∧ m.par = 0 ∧ m.rdy = false ∧ m.thr = true ∧ m.wt = y
theorem Fst.run {l : List Nd} {x y : Int} (t : Fst l x y) : ∃ r R, r ∈ l ∧ r.id = 0 ∧ r.rdy = true ∧ runU 6 l 0 = some R ∧ R.1 = 1 ∧ Fst (upR 6 R.2 R.1) x y := by
  obtain ⟨hw, honly, ⟨m, hm, a1, a2, a3, a4, a5⟩, ⟨n, hn, b1, b2, b3, b4, b5⟩⟩ := t
  obtain ⟨r, R, q1, q2, q3, q4, q5, q6, ⟨m', hm', e1, e2, e3⟩⟩ := hw.quantum hm a3
  refine ⟨r, R, q1, q2, q3, q4, ?_, q5, fun z hz ht => ?_, ?_, ?_⟩
  · rcases honly m' hm' e2 with e | e
    · omega
    · rw [uniqU hw.sk.ids hm' hn (e.trans b1.symm), b3] at e3; cases e3
  · obtain ⟨n0, hn0, ek⟩ := q6.back hz
    obtain ⟨k1, k2, k3, -⟩ := keyR_eq ek
    rw [← k1]; exact honly n0 hn0 (k3.trans ht)
  · obtain ⟨m2, hm2, ek⟩ := q6.fwd hm
    obtain ⟨k1, k2, k3, k4, k5⟩ := keyR_eq ek
    exact ⟨m2, hm2, k1.trans a1, k2.trans a2, k5.trans a3, k3.trans a4, k4.trans a5⟩
  · obtain ⟨m2, hm2, ek⟩ := q6.fwd hn
    obtain ⟨k1, k2, k3, k4, k5⟩ := keyR_eq ek
    exact ⟨m2, hm2, k1.trans b1, k2.trans b2, k5.trans b3, k3.trans b4, k4.trans b5⟩
theorem Fst.wake {l : List Nd} {x y : Int} (t : Fst l x y) : (∃ n ∈ l, n.id = 2 ∧ n.thr = true) ∧ ∃ P Q, Two (rdyU true l 2) x y P Q 0 0 := by
  obtain ⟨hw, honly, ⟨m, hm, a1, a2, a3, a4, a5⟩, ⟨n, hn, b1, b2, b3, b4, b5⟩⟩ := t
  refine ⟨⟨n, hn, b1, b4⟩, ?_⟩
  have hw2 : Wf (rdyU true l 2) := by rw [← b1]; exact hw.rdyU hn b4 true
  obtain ⟨p, hp, he, hpt⟩ := (hw.sk.clo n hn).2.2 (by omega)
  have hn2 : rdyF p.now n ∈ rdyU true l 2 := by
    have := wake_self (f := 4) hw.sk.ids hw.sk.clo hn b4 (by omega) hp he hpt b3
    rw [b1] at this
    exact this
  have hm2 : m ∈ rdyU true l 2 := wake_keep 5 hw.sk.ids hw.sk.clo hm a4 (by omega)
  have := Two.start hw2 (fun z hz ht => by
    obtain ⟨n0, hn0, ek⟩ := (rdyU_sim true l 2).back hz
    obtain ⟨k1, k2, k3, k4⟩ := keyS_eq ek
    rw [← k1]; exact honly n0 hn0 (k3.trans ht)) hm2 hn2 ⟨a1, a2, a3, a4⟩ ⟨b1, b2, rfl, b4⟩
  rw [a5, show (rdyF p.now n).wt = y from b5] at this
  exact this

/-- Two threads let in, the first made ready. -/
def thN (i wt : Int) (r : Bool) : Nd := ⟨i, 0, wt, 0, true, r, 0⟩
def rtN (r : Bool) : Nd := ⟨0, -1, 1, 0, false, r, 0⟩
theorem two_add1 {x : Int} (hx : isW x = true) : addC [rootN] 1 0 1 x true = 0 ∧ insT (newN [rootN] 0 1 x true) [rootN] = [rtN false, thN 1 x false] ∧ Up [rootN] 1 0 :=
  ⟨addC_zero hx (by omega) rootN_wf.sk.ids (p := rootN) (by simp) rfl rfl rfl (fun h => by cases h) (by decide), rfl, rootN_wf.up0⟩
theorem two_wf1 {x : Int} (hx : isW x = true) : Wf [rtN false, thN 1 x false] := by
  have h := two_add1 hx
  rw [← h.2.1]; exact rootN_wf.add h.1 h.2.2
theorem two_add2 {x y : Int} (hx : isW x = true) (hy : isW y = true) : addC [rtN false, thN 1 x false] 1 0 2 y true = 0 ∧ insT (newN [rtN false, thN 1 x false] 0 2 y true) [rtN false, thN 1 x false] = [rtN false, thN 1 x false, thN 2 y false] :=
  ⟨addC_zero hy (by omega) (two_wf1 hx).sk.ids (p := rtN false) (by simp) rfl rfl rfl (fun h => by cases h) (by simp), rfl⟩
theorem two_wf2 {x y : Int} (hx : isW x = true) (hy : isW y = true) : Wf [rtN false, thN 1 x false, thN 2 y false] := by
  have h := two_add2 hx hy
  rw [← h.2]; exact (two_wf1 hx).add h.1 (two_wf1 hx).up0
theorem two_rdy {x y : Int} : rdyU true [rtN false, thN 1 x false, thN 2 y false] 1 = [rtN true, thN 1 x true, thN 2 y false] := rfl
theorem two_fst {x y : Int} (hx : isW x = true) (hy : isW y = true) : Fst [rtN true, thN 1 x true, thN 2 y false] x y where
  wf := by
    rw [← two_rdy]
    exact (two_wf2 hx hy).rdyU (n := thN 1 x false) (by simp) rfl true
  only := fun n hn ht => by
    simp only [List.mem_cons, List.not_mem_nil, or_false] at hn
    rcases hn with rfl | rfl | rfl
    · cases ht
    · exact .inl rfl
    · exact .inr rfl
  one := ⟨thN 1 x true, by simp, rfl, rfl, rfl, rfl, rfl⟩
  two := ⟨thN 2 y false, by simp, rfl, rfl, rfl, rfl, rfl⟩
end Go.Proofs.Ytfccmdmfllicdaa
