/- What the program reads of a script, with limits of its own: it reads the same scripts as the document. No program is named here. -/
import Derived.Test.YtmpgeabfogcblaaGreatMath4b
namespace Go.Proofs.YtmpgeabfogcblaaGreat
open Go.RowKit

/-- A Reader, and whether a count was below none. -/
structure Rb where
  r : Rd
  b : Bool
def Rb.wrong (s : Rb) : Bool := s.b || !(s.r.e == 0)
theorem Rb.wrong_iff {s : Rb} : s.wrong = false ↔ s.b = false ∧ s.r.e = 0 := by simp [Rb.wrong]
def numP (s : Rb) : Int × Rb := (s.r.num 1048576, ⟨s.r.afterNum 1048576, s.b⟩)
def cntP (s : Rb) : Int × Rb := (s.r.num 40000, ⟨s.r.afterNum 40000, s.b || decide (s.r.num 40000 < 0)⟩)
/-- As many as n, or those ahead of an error. -/
def manyP {α : Type} (f : Rb → α × Rb) : Nat → Rb → List α × Rb
  | 0, s => ([], s)
  | n + 1, s => if s.wrong = false then ((f s).1 :: (manyP f n (f s).2).1, (manyP f n (f s).2).2) else ([], s)
def rowP {α : Type} (f : Rb → α × Rb) (s : Rb) : List α × Rb := manyP f (cntP s).1.toNat (cntP s).2
def domP (s : Rb) : Dom × Rb :=
  let a1 := numP s
  let a2 : Int × Rb := (a1.2.r.bits, ⟨a1.2.r.afterBits, a1.2.b⟩)
  let a3 := rowP (rowP numP) a2.2
  let a4 := numP a3.2
  let a5 := rowP numP a4.2
  let a6 := numP a5.2
  let a7 := numP a6.2
  let a8 := numP a7.2
  let a9 := numP a8.2
  let a10 := numP a9.2
  (⟨a1.1, a2.1, a3.1, a5.1, a4.1, a6.1, a7.1, a8.1, a9.1, a10.1⟩, a10.2)
def confP (s : Rb) : Cnf × Rb :=
  let a1 := numP s
  let a2 := numP a1.2
  let a3 := cntP a2.2
  let a4 := cntP a3.2
  let a5 := manyP (manyP numP a4.1.toNat) a3.1.toNat a4.2
  let a6 := manyP domP a4.1.toNat a5.2
  (⟨a1.1, a2.1, a5.1, a6.1⟩, a6.2)
def axnP (s : Rb) : Axn × Rb :=
  let a1 := numP s
  let a2 := numP a1.2
  let a3 := numP a2.2
  (⟨a1.1, a2.1, a3.1⟩, a3.2)
def arvP (s : Rb) : Arv × Rb :=
  let a1 := numP s
  let a2 := numP a1.2
  (⟨a1.1, a2.1⟩, a2.2)
def scrP (s : Rb) : Scr × Rb :=
  let a1 := confP s
  let a2 := numP a1.2
  let a3 := manyP (rowP axnP) a1.1.doms.length a2.2
  let a4 := manyP (rowP arvP) a1.1.doms.length a3.2
  (⟨a1.1, a2.1, a3.1, a4.1⟩, a4.2)

theorem manyP_snoc {α : Type} (f : Rb → α × Rb) : ∀ (n : Nat) (s : Rb), (manyP f n s).2.wrong = false →
    manyP f (n + 1) s = ((manyP f n s).1 ++ [(f (manyP f n s).2).1], (f (manyP f n s).2).2)
  | 0, s, h => by
    simp only [manyP] at h ⊢
    rw [if_pos h]; rfl
  | n + 1, s, h => by
    by_cases he : s.wrong = false
    · have e1 : manyP f (n + 1) s = ((f s).1 :: (manyP f n (f s).2).1, (manyP f n (f s).2).2) := by rw [manyP, if_pos he]
      rw [e1] at h ⊢
      rw [manyP, if_pos he, manyP_snoc f n (f s).2 h]
      rfl
    · rw [manyP, if_neg he] at h
      exact absurd h he
theorem manyP_bad {α : Type} (f : Rb → α × Rb) : ∀ (n : Nat) (s : Rb), (manyP f n s).2.wrong = true → manyP f (n + 1) s = manyP f n s
  | 0, s, h => by
    simp only [manyP] at h ⊢
    rw [if_neg (by simp [h])]
  | n + 1, s, h => by
    by_cases he : s.wrong = false
    · have e1 : manyP f (n + 1) s = ((f s).1 :: (manyP f n (f s).2).1, (manyP f n (f s).2).2) := by rw [manyP, if_pos he]
      rw [e1] at h
      rw [manyP, if_pos he, manyP_bad f n (f s).2 h, e1]
    · rw [manyP, if_neg he, manyP, if_neg he]
theorem manyP_stays {α : Type} (f : Rb → α × Rb) (n : Nat) (s : Rb) (h : (manyP f n s).2.wrong = true) : ∀ k, n ≤ k → manyP f k s = manyP f n s := by
  intro k hk
  induction k with
  | zero => rw [Nat.le_zero.1 hk]
  | succ k ih =>
    rcases Nat.lt_or_ge n (k + 1) with h' | h'
    · have := ih (by omega)
      rw [manyP_bad f k s (by rw [this]; exact h), this]
    · rw [show n = k + 1 by omega]
theorem manyP_len {α : Type} (f : Rb → α × Rb) : ∀ (n : Nat) (s : Rb), (manyP f n s).1.length ≤ n
  | 0, _ => Nat.zero_le _
  | n + 1, s => by
    rw [manyP]
    split
    · simp only [List.length_cons]
      have := manyP_len f n (f s).2
      omega
    · simp
theorem manyP_full {α : Type} (f : Rb → α × Rb) : ∀ (n : Nat) (s : Rb), (manyP f n s).2.wrong = false → (manyP f n s).1.length = n
  | 0, _, _ => rfl
  | n + 1, s, h => by
    rw [manyP] at h ⊢
    split
    · rename_i he
      rw [if_pos he] at h
      simp only [List.length_cons]
      rw [manyP_full f n (f s).2 h]
    · rename_i he
      rw [if_neg he] at h
      exact absurd h he
theorem manyP_mem {α : Type} {f : Rb → α × Rb} {P : α → Prop} (h : ∀ s, P (f s).1) : ∀ (n : Nat) (s : Rb), ∀ x ∈ (manyP f n s).1, P x
  | 0, s, x, hx => by cases hx
  | n + 1, s, x, hx => by
    rw [manyP] at hx
    split at hx
    · rcases List.mem_cons.mp hx with rfl | hx
      · exact h s
      · exact manyP_mem h n _ x hx
    · cases hx

/-! ### Bytes are read as what they are of -/

def TakesP {α : Type} (f : Rb → α × Rb) (x : α) (g : List UInt8) : Prop := ∀ t, f ⟨⟨g ++ t, 0⟩, false⟩ = (x, ⟨⟨t, 0⟩, false⟩)
theorem takesP_num {n : Int} (h : -1 ≤ n) (h' : n ≤ 1048576) : TakesP numP n (numB n) := fun t => by
  simp only [numP, (num_back h h' h' t).1, (num_back h h' h' t).2]
theorem takesP_cnt {n : Nat} (h : n ≤ 40000) : TakesP cntP n (numB n) := fun t => by
  have := num_back (n := (n : Int)) (most := 40000) (by omega) (by omega) (by omega) t
  simp only [cntP, this.1, this.2, Bool.false_or]
  rw [decide_eq_false (by omega)]
theorem takesP_all {α : Type} {f : Rb → α × Rb} {g : α → List UInt8} : ∀ {l : List α}, (∀ x ∈ l, TakesP f x (g x)) → TakesP (manyP f l.length) l (l.flatMap g)
  | [], _, t => rfl
  | x :: l, h, t => by
    rw [List.length_cons, List.flatMap_cons, List.append_assoc, manyP, if_pos (show Rb.wrong ⟨⟨_, 0⟩, false⟩ = false from rfl), h x (List.mem_cons_self ..),
      takesP_all (fun y hy => h y (List.mem_cons_of_mem _ hy)) t]
theorem takesP_row {α : Type} {f : Rb → α × Rb} {g : α → List UInt8} {l : List α} (hl : l.length ≤ 40000) (h : ∀ x ∈ l, TakesP f x (g x)) :
    TakesP (rowP f) l (numB l.length ++ l.flatMap g) := fun t => by
  rw [rowP, List.append_assoc, takesP_cnt hl, Int.toNat_natCast, takesP_all h t]
theorem takesP_nums {l : List Int} (hl : l.length ≤ 40000) (h : ∀ x ∈ l, -1 ≤ x ∧ x ≤ 1048576) : TakesP (rowP numP) l (rowB l) :=
  takesP_row hl fun x hx => takesP_num (h x hx).1 (h x hx).2
theorem takesP_dom {d : Dom} (h : DomIn d) : TakesP domP d (domBytes d) := fun t => by
  have a1 : ∀ t, _ = _ := takesP_num (n := d.level) (by have := h.level; omega) (by have := h.level; omega)
  have a2 := fun t => bits_back h.cats t
  have a3 : ∀ t, rowP (rowP numP) ⟨⟨numB d.routes.length ++ d.routes.flatMap rowB ++ t, 0⟩, false⟩ = (d.routes, ⟨⟨t, 0⟩, false⟩) :=
    takesP_row (by have := h.routes; omega) fun r hr => takesP_nums (by have := (h.route r hr).1; omega) (h.route r hr).2
  have a4 : ∀ t, _ = _ := takesP_num (n := d.to) h.to.1 (by have := h.to; omega)
  have a5 : ∀ t, rowP numP ⟨⟨rowB d.release ++ t, 0⟩, false⟩ = (d.release, ⟨⟨t, 0⟩, false⟩) := takesP_nums (by have := h.release.1; omega) h.release.2
  have a6 : ∀ t, _ = _ := takesP_num (n := d.threads) (by have := h.threads; omega) (by have := h.threads; omega)
  have a7 : ∀ t, _ = _ := takesP_num (n := d.groups) (by have := h.groups; omega) (by have := h.groups; omega)
  have a8 : ∀ t, _ = _ := takesP_num (n := d.ring) (by have := h.ring; omega) (by have := h.ring; omega)
  have a9 : ∀ t, _ = _ := takesP_num (n := d.sends) (by have := h.sends; omega) (by have := h.sends; omega)
  have a10 : ∀ t, _ = _ := takesP_num (n := d.box) (by have := h.box; omega) (by have := h.box; omega)
  simp only [List.append_assoc] at a3
  simp only [domP, domBytes, List.append_assoc, a1, (a2 _).1, (a2 _).2, a3, a4, a5, a6, a7, a8, a9, a10]
theorem takesP_conf {c : Cnf} (h : CnfIn c) : TakesP confP c (confBytes c) := fun t => by
  have a1 : ∀ t, _ = _ := takesP_num (n := c.frame) (by have := h.frame; omega) (by have := h.frame; omega)
  have a2 : ∀ t, _ = _ := takesP_num (n := c.epoch) (by have := h.epoch; omega) (by have := h.epoch; omega)
  have a3 : ∀ t, _ = _ := takesP_cnt (n := c.plans.length) (by have := h.plans; omega)
  have a4 : ∀ t, _ = _ := takesP_cnt (n := c.doms.length) (by have := h.doms; omega)
  have a5 : ∀ t, manyP (manyP numP c.doms.length) c.plans.length ⟨⟨plansBytes c.plans ++ t, 0⟩, false⟩ = (c.plans, ⟨⟨t, 0⟩, false⟩) := takesP_all fun p hp t => by
    rw [← (h.plan p hp).1]
    exact takesP_all (fun x hx => takesP_num (by have := (h.plan p hp).2 x hx; omega) (by have := (h.plan p hp).2 x hx; omega)) t
  have a6 : ∀ t, manyP domP c.doms.length ⟨⟨c.doms.flatMap domBytes ++ t, 0⟩, false⟩ = (c.doms, ⟨⟨t, 0⟩, false⟩) := takesP_all fun d hd => takesP_dom (h.dom d hd)
  simp only [confP, confBytes, headBytes, List.append_assoc, a1, a2, a3, a4, Int.toNat_natCast, a5, a6]
theorem takesP_axn {x : Axn} (h : axnB x = true) : TakesP axnP x (axnBytes x) := fun t => by
  simp only [axnB, Bool.and_eq_true, withB_iff] at h
  obtain ⟨⟨⟨h1, h2⟩, h3, h4⟩, h5, h6⟩ := h
  have a1 : ∀ t, _ = _ := takesP_num (n := x.op) (by omega) h2
  have a2 : ∀ t, _ = _ := takesP_num (n := x.a) (by omega) h4
  have a3 : ∀ t, _ = _ := takesP_num (n := x.b) (by omega) h6
  simp only [axnP, axnBytes, List.append_assoc, a1, a2, a3]
theorem takesP_stream {l : List Axn} (h : streamB l = true) : TakesP (rowP axnP) l (streamBytes l) := by
  simp only [streamB, Bool.and_eq_true, List.all_eq_true, decide_eq_true_eq] at h
  exact takesP_row (by omega) fun x hx => takesP_axn (h.1 x hx)
theorem takesP_arv {x : Arv} (h : (0 ≤ x.tick ∧ x.tick ≤ 2000) ∧ 0 ≤ x.obj ∧ x.obj ≤ 3) : TakesP arvP x (arvBytes x) := fun t => by
  have a1 : ∀ t, _ = _ := takesP_num (n := x.tick) (by omega) (by omega)
  have a2 : ∀ t, _ = _ := takesP_num (n := x.obj) (by omega) (by omega)
  simp only [arvP, arvBytes, List.append_assoc, a1, a2]
theorem takesP_arr {l : List Arv} {t : Int} (hl : l.length ≤ 100) (h : arrB t l = true) : TakesP (rowP arvP) l (arrBytes l) :=
  takesP_row (by omega) fun x hx => takesP_arv (arrB_mem h x hx)
theorem takesP_scr {s : Scr} (h : isScr s = 0) (hc : CnfIn s.conf) : TakesP scrP s (allBytes s) := fun t => by
  obtain ⟨_, h2, h3, h4, h5, h6, h7⟩ := isScr_parts h
  have a1 : ∀ t, _ = _ := takesP_conf hc
  have a2 : ∀ t, _ = _ := takesP_num (n := s.horizon) (by omega) (by omega)
  have a3 : ∀ t, manyP (rowP axnP) s.conf.doms.length ⟨⟨s.streams.flatMap streamBytes ++ t, 0⟩, false⟩ = (s.streams, ⟨⟨t, 0⟩, false⟩) := by
    rw [← h3]
    exact takesP_all fun l hl => takesP_stream (h5 l hl)
  have a4 : ∀ t, manyP (rowP arvP) s.conf.doms.length ⟨⟨s.arrivals.flatMap arrBytes ++ t, 0⟩, false⟩ = (s.arrivals, ⟨⟨t, 0⟩, false⟩) := by
    rw [← h4]
    exact takesP_all fun l hl => takesP_arr (h6 l hl) (h7 l hl)
  simp only [scrP, allBytes, List.append_assoc, a1, a2, a3, a4]

/-! ### What is read without an error has these bytes -/

def Canon {α : Type} (f : Rb → α × Rb) (g : α → List UInt8) : Prop := ∀ s, (f s).2.wrong = false → s.wrong = false ∧ s.r.s = g (f s).1 ++ (f s).2.r.s
theorem afterNum_ok {r : Rd} {most : Int} (h : (r.afterNum most).e = 0) : r.e = 0 := by
  unfold Rd.afterNum at h
  by_cases he : r.e = 0
  · exact he
  · rw [if_neg he] at h; exact h
theorem afterBits_ok {r : Rd} (h : r.afterBits.e = 0) : r.e = 0 ∧ 8 ≤ r.s.length := by
  unfold Rd.afterBits at h
  by_cases he : r.e = 0
  · rw [if_pos he] at h
    by_cases h8 : 8 ≤ r.s.length
    · exact ⟨he, h8⟩
    · rw [if_neg h8] at h; simp at h
  · rw [if_neg he] at h; exact absurd h he
theorem canon_num : Canon numP numB := fun s h => by
  obtain ⟨h1, h2⟩ := Rb.wrong_iff.1 h
  exact ⟨Rb.wrong_iff.2 ⟨h1, afterNum_ok h2⟩, (num_canon (by omega) h2).2.2⟩
theorem canon_cnt : Canon cntP (fun n => numB n) := fun s h => by
  obtain ⟨h1, h2⟩ := Rb.wrong_iff.1 h
  simp only [cntP, Bool.or_eq_false_iff] at h1
  exact ⟨Rb.wrong_iff.2 ⟨h1.1, afterNum_ok h2⟩, (num_canon (by omega) h2).2.2⟩
theorem cnt_nonneg {s : Rb} (h : (cntP s).2.wrong = false) : 0 ≤ (cntP s).1 := by
  obtain ⟨h1, h2⟩ := Rb.wrong_iff.1 h
  simp only [cntP, Bool.or_eq_false_iff, decide_eq_false_iff_not] at h1
  have := h1.2
  show 0 ≤ s.r.num 40000
  omega
theorem leB_unLe : ∀ (l : List UInt8), leB l.length (unLe l) = l
  | [] => rfl
  | c :: t => by
    have hc := c.toNat_lt
    rw [List.length_cons, leB, unLe, show (c.toNat + 256 * unLe t) % 256 = c.toNat by omega, show (c.toNat + 256 * unLe t) / 256 = unLe t by omega, leB_unLe t, UInt8.ofNat_toNat]
theorem bits_canon {r : Rd} (h : r.afterBits.e = 0) : r.s = bitsB r.bits ++ r.afterBits.s := by
  obtain ⟨he, h8⟩ := afterBits_ok h
  have e1 : r.bits = (unLe (r.s.take 8) : Int) := by rw [Rd.bits, if_pos ⟨he, h8⟩]
  have e2 : r.afterBits.s = r.s.drop 8 := by rw [Rd.afterBits, if_pos he, if_pos h8]
  have e3 := leB_unLe (r.s.take 8)
  rw [List.length_take, Nat.min_eq_left h8] at e3
  rw [e1, e2, bitsB, Int.toNat_natCast, e3, List.take_append_drop]
theorem canon_many {α : Type} {f : Rb → α × Rb} {g : α → List UInt8} (h : Canon f g) : ∀ (n : Nat), Canon (manyP f n) (fun l => l.flatMap g)
  | 0, s, hs => ⟨hs, rfl⟩
  | n + 1, s, hs => by
    rw [manyP] at hs
    by_cases he : s.wrong = false
    · rw [if_pos he] at hs
      have i := canon_many h n (f s).2 hs
      have j := h s i.1
      refine ⟨he, ?_⟩
      rw [manyP, if_pos he]
      simp only [List.flatMap_cons, List.append_assoc]
      rw [← i.2, ← j.2]
    · rw [if_neg he] at hs
      exact absurd hs he
theorem canon_row {α : Type} {f : Rb → α × Rb} {g : α → List UInt8} (h : Canon f g) : Canon (rowP f) (fun l => numB l.length ++ l.flatMap g) := fun s hs => by
  have i := canon_many h _ _ hs
  have j := canon_cnt s i.1
  have hn := cnt_nonneg i.1
  have hl := manyP_full f _ _ hs
  refine ⟨j.1, ?_⟩
  show s.r.s = (numB ((rowP f s).1.length : Int) ++ (rowP f s).1.flatMap g) ++ (rowP f s).2.r.s
  have e : (((rowP f s).1.length : Nat) : Int) = (cntP s).1 := by
    show ((manyP f (cntP s).1.toNat (cntP s).2).1.length : Int) = _
    rw [hl]; exact Int.toNat_of_nonneg hn
  rw [e, List.append_assoc]
  exact j.2.trans (congrArg _ i.2)
theorem canon_dom : Canon domP domBytes := fun s hs => by
  have c10 := canon_num _ hs
  have c9 := canon_num _ c10.1
  have c8 := canon_num _ c9.1
  have c7 := canon_num _ c8.1
  have c6 := canon_num _ c7.1
  have c5 := canon_row canon_num _ c6.1
  have c4 := canon_num _ c5.1
  have c3 := canon_row (canon_row canon_num) _ c4.1
  have w2 := Rb.wrong_iff.1 c3.1
  have c2 := bits_canon w2.2
  have c1 := canon_num s (Rb.wrong_iff.2 ⟨w2.1, (afterBits_ok w2.2).1⟩)
  refine ⟨c1.1, ?_⟩
  have e := c1.2.trans (congrArg _ (c2.trans (congrArg _ (c3.2.trans (congrArg _ (c4.2.trans (congrArg _ (c5.2.trans (congrArg _ (c6.2.trans (congrArg _ (c7.2.trans (congrArg _ (c8.2.trans (congrArg _ (c9.2.trans (congrArg _ c10.2)))))))))))))))))
  rw [e]
  simp only [domBytes, domP, rowB, List.append_assoc]
  rfl
theorem canon_axn : Canon axnP axnBytes := fun s hs => by
  have c3 := canon_num _ hs
  have c2 := canon_num _ c3.1
  have c1 := canon_num s c2.1
  refine ⟨c1.1, ?_⟩
  have e := c1.2.trans (congrArg _ (c2.2.trans (congrArg _ c3.2)))
  rw [e]
  simp only [axnBytes, axnP, List.append_assoc]
theorem canon_arv : Canon arvP arvBytes := fun s hs => by
  have c2 := canon_num _ hs
  have c1 := canon_num s c2.1
  refine ⟨c1.1, ?_⟩
  have e := c1.2.trans (congrArg _ c2.2)
  rw [e]
  simp only [arvBytes, arvP, List.append_assoc]
theorem canon_conf : Canon confP confBytes := fun s hs => by
  have c6 := canon_many canon_dom _ _ hs
  have c5 := canon_many (canon_many canon_num _) _ _ c6.1
  have c4 := canon_cnt _ c5.1
  have c3 := canon_cnt _ c4.1
  have c2 := canon_num _ c3.1
  have c1 := canon_num s c2.1
  have n4 := cnt_nonneg c5.1
  have n3 := cnt_nonneg c4.1
  have l6 := manyP_full domP _ _ hs
  have l5 := manyP_full (manyP numP _) _ _ c6.1
  refine ⟨c1.1, ?_⟩
  have e := c1.2.trans (congrArg _ (c2.2.trans (congrArg _ (c3.2.trans (congrArg _ (c4.2.trans (congrArg _ (c5.2.trans (congrArg _ c6.2)))))))))
  rw [e]
  have e5 : (((confP s).1.plans.length : Nat) : Int) = (cntP (numP (numP s).2).2).1 := by
    refine Eq.trans (congrArg Int.ofNat l5) (Int.toNat_of_nonneg n3)
  have e6 : (((confP s).1.doms.length : Nat) : Int) = (cntP (cntP (numP (numP s).2).2).2).1 := by
    refine Eq.trans (congrArg Int.ofNat l6) (Int.toNat_of_nonneg n4)
  show _ = confBytes (confP s).1 ++ _
  unfold confBytes headBytes
  rw [e5, e6]
  simp only [plansBytes, confP, List.append_assoc]
theorem canon_scr : Canon scrP allBytes := fun s hs => by
  have c4 := canon_many (canon_row canon_arv) _ _ hs
  have c3 := canon_many (canon_row canon_axn) _ _ c4.1
  have c2 := canon_num _ c3.1
  have c1 := canon_conf s c2.1
  refine ⟨c1.1, ?_⟩
  have e := c1.2.trans (congrArg _ (c2.2.trans (congrArg _ (c3.2.trans (congrArg _ c4.2)))))
  rw [e]
  simp only [allBytes, scrP, List.append_assoc]
  rfl

/-! ### A route that rises is short -/

def weight (x : Int × Int) : Int := x.1 + x.2
theorem sub_le {b d : Int} (hb : U64 b) (hd : U64 d) (h : Sub b d) : b ≤ d := by
  have e : b.toNat = b.toNat &&& d.toNat := Nat.eq_of_testBit_eq fun i => by
    rw [Nat.testBit_and]
    cases hi : b.toNat.testBit i
    · rfl
    · simp [h i hi]
  have : b.toNat ≤ d.toNat := by rw [e]; exact Nat.and_le_right
  have := hb.1
  have := hd.1
  omega
theorem rises_lt {x y : Int × Int} (hx : U64 x.2) (hy : U64 y.2) (h : risesB x.1 x.2 y.1 y.2 = true) : weight x < weight y := by
  unfold risesB at h
  simp only [Bool.and_eq_true, Bool.not_eq_true'] at h
  have h2 := (leqB_iff hx hy).1 h.2
  have h3 := sub_le hx hy h2.2
  unfold weight
  rcases Int.lt_or_eq_of_le h2.1 with h4 | h4
  · omega
  · rcases Int.lt_or_eq_of_le h3 with h5 | h5
    · omega
    · have : eqB x.1 x.2 y.1 y.2 = true := eqB_iff.2 ⟨h4, h5⟩
      rw [this] at h
      cases h.1
theorem count_lt (l : List Int) (x y : Int) (h : x < y) (hx : x ∈ l) : l.countP (fun z => decide (z < x)) + 1 ≤ l.countP (fun z => decide (z < y)) := by
  induction l with
  | nil => cases hx
  | cons a l ih =>
    rw [List.countP_cons, List.countP_cons]
    have mono : ∀ l : List Int, l.countP (fun z => decide (z < x)) ≤ l.countP (fun z => decide (z < y)) := fun l => List.countP_mono_left fun z _ hz => by
      simp only [decide_eq_true_eq] at hz ⊢; omega
    rcases List.mem_cons.1 hx with rfl | hx
    · have := mono l
      have e1 : decide (x < x) = false := by simp
      have e2 : decide (x < y) = true := by simp [h]
      rw [if_neg (by simp), if_pos e2]; omega
    · have := ih hx
      by_cases ha : a < x
      · rw [if_pos (by simp [ha]), if_pos (by simp; omega)]; omega
      · rw [if_neg (by simp [ha])]
        split <;> omega
theorem chain_short (l : List Int) : ∀ (c : List (Int × Int)) (x : Int × Int), (∀ y ∈ c, U64 y.2) → U64 x.2 → (∀ y ∈ c, weight y ∈ l) → weight x ∈ l → chainB (x :: c) = true → l.countP (fun z => decide (z < weight x)) + c.length < l.length
  | [], x, _, _, _, hx, _ => by
    have h1 : l.countP (fun z => decide (z < weight x)) + 1 ≤ l.countP (fun z => decide (z < weight x + 1)) := count_lt l _ _ (by omega) hx
    have h2 := List.countP_le_length (p := fun z => decide (z < weight x + 1)) (l := l)
    simp only [List.length_nil]
    omega
  | y :: c, x, hu, hxu, hl, hx, hc => by
    simp only [chainB, Bool.and_eq_true] at hc
    have h1 := rises_lt hxu (hu y (List.mem_cons_self ..)) hc.1
    have h2 := count_lt l _ _ h1 hx
    have h3 := chain_short l c y (fun z hz => hu z (List.mem_cons_of_mem _ hz)) (hu y (List.mem_cons_self ..)) (fun z hz => hl z (List.mem_cons_of_mem _ hz)) (hl y (List.mem_cons_self ..)) hc.2
    rw [List.length_cons]
    omega
theorem isConf_held {c : Cnf} (h : isConf c = 0) (hu : ∀ d ∈ c.doms, U64 d.cats) : CnfHeld c := by
  refine ⟨hu, fun d hd r hr => ?_⟩
  obtain ⟨h1, _, _, h4⟩ := isConf_parts h
  simp only [formB, Bool.and_eq_true, withB_iff] at h1
  have hn : c.doms.length ≤ 6 := by have := h1.1.2; omega
  obtain ⟨k, hk⟩ := domsB_mem h4 d hd
  simp only [domB, Bool.and_eq_true, decide_eq_true_eq, List.all_eq_true] at hk
  have := hk.1.2 r hr
  simp only [routeB, Bool.and_eq_true, List.all_eq_true, withB_iff] at this
  have hin : ∀ n ∈ r, ∃ e ∈ c.doms, labAt c.doms n = e.lab := fun n hn' => by
    have hb := this.1.2 n hn'
    have hlt : n.toNat < c.doms.length := by omega
    exact ⟨c.doms[n.toNat], List.getElem_mem hlt, by simp [labAt, hlt]⟩
  have key := chain_short (c.doms.map fun e => weight e.lab) (r.map (labAt c.doms)) d.lab
    (fun y hy => by
      obtain ⟨n, hn', rfl⟩ := List.mem_map.1 hy
      obtain ⟨e, he, hl⟩ := hin n hn'
      rw [hl]; exact hu e he)
    (hu d hd)
    (fun y hy => by
      obtain ⟨n, hn', rfl⟩ := List.mem_map.1 hy
      obtain ⟨e, he, hl⟩ := hin n hn'
      rw [hl]; exact List.mem_map.2 ⟨e, he, rfl⟩)
    (List.mem_map.2 ⟨d, hd, rfl⟩) this.2
  rw [List.length_map, List.length_map] at key
  omega

/-! ### The program reads what the document reads -/

/-- Whether the program reads a script from l. -/
def progOk (l : List UInt8) : Prop := l.length ≤ 40000 ∧ (scrP ⟨⟨l, 0⟩, false⟩).2.wrong = false ∧ (scrP ⟨⟨l, 0⟩, false⟩).2.r.s = [] ∧ isScr (scrP ⟨⟨l, 0⟩, false⟩).1 = 0
theorem scrP_cats (s : Rb) : ∀ d ∈ (scrP s).1.conf.doms, U64 d.cats :=
  manyP_mem (P := fun d : Dom => U64 d.cats) (fun _ => bits_u64 _) _ _
theorem progOk_iff {l : List UInt8} : progOk l ↔ scrOk l = true := by
  constructor
  · rintro ⟨h1, h2, h3, h4⟩
    have hc := canon_scr _ h2
    have e : l = allBytes (scrP ⟨⟨l, 0⟩, false⟩).1 := by
      have := hc.2
      rw [h3, List.append_nil] at this
      exact this
    have hi := isConf_in (isScr_parts h4).1 (isConf_held (isScr_parts h4).1 (scrP_cats _))
    rw [e]
    exact scrOk_bytes h4 hi (by rw [← e]; exact h1)
  · intro h
    obtain ⟨h1, h2, h3, _⟩ := scrOk_known h
    have hl := (scrOk_iff.1 h).1
    have := takesP_scr h1 h2 []
    rw [List.append_nil, h3] at this
    rw [progOk, this]
    exact ⟨hl, rfl, rfl, h1⟩
theorem progOk_same {l : List UInt8} (h : scrOk l = true) : (scrP ⟨⟨l, 0⟩, false⟩).1 = (scrR ⟨l, 0⟩).1 := by
  obtain ⟨h1, h2, h3, _⟩ := scrOk_known h
  have := takesP_scr h1 h2 []
  rw [List.append_nil, h3] at this
  rw [this]
end Go.Proofs.YtmpgeabfogcblaaGreat
