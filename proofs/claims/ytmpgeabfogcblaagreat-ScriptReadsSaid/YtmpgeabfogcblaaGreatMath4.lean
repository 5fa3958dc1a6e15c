/- Scripts as plain data: which may be, their bytes, what is read. No program is named here. -/
import Derived.Test.YtmpgeabfogcblaaGreatMath2
import Derived.Test.YtmpgeabfogcblaaGreatMath3
namespace Go.Proofs.YtmpgeabfogcblaaGreat
open Go.RowKit

structure Axn where
  op : Int
  a : Int
  b : Int
deriving DecidableEq
structure Arv where
  tick : Int
  obj : Int
deriving DecidableEq
structure Scr where
  conf : Cnf
  horizon : Int
  streams : List (List Axn)
  arrivals : List (List Arv)

def axnB (x : Axn) : Bool := withB x.op 0 1048576 && withB x.a 0 1048576 && withB x.b 0 1048576
def streamB (l : List Axn) : Bool := l.all axnB && decide (l.length ≤ 400)
/-- Ticks rise from t on. -/
def arrB : Int → List Arv → Bool
  | _, [] => true
  | t, x :: l => withB x.tick 0 2000 && withB x.obj 0 3 && decide (t ≤ x.tick) && arrB x.tick l
def largeB (s : Scr) : Bool := withB s.horizon 0 2000 && (s.streams.length == s.conf.doms.length) && (s.arrivals.length == s.conf.doms.length) &&
  s.streams.all streamB && s.arrivals.all (fun l => decide (l.length ≤ 100))
def isScr (s : Scr) : Nat := if isConf s.conf ≠ 0 then isConf s.conf else if largeB s = false then 12 else if s.arrivals.all (arrB 0) = false then 10 else 0
def sameS (a b : Scr) : Bool := sameC a.conf b.conf && a.horizon == b.horizon && decide (a.streams = b.streams) && decide (a.arrivals = b.arrivals)
theorem sameS_self (a : Scr) : sameS a a = true := by simp [sameS, sameC_self]

theorem sameD_eq {x y : Dom} (h : sameD x y = true) : x = y := by
  cases x; cases y
  simp only [sameD, eqB, Bool.and_eq_true, beq_iff_eq, decide_eq_true_eq] at h
  simp only [Dom.mk.injEq]
  obtain ⟨⟨⟨⟨⟨⟨⟨⟨⟨h1, h2⟩, h3⟩, h4⟩, h5⟩, h6⟩, h7⟩, h8⟩, h9⟩, h10⟩ := h
  exact ⟨h1, h2, h3, h4, h5, h6, h7, h8, h9, h10⟩
theorem sameAll_eq : ∀ {l m : List Dom}, sameAll l m = true → l = m
  | [], [], _ => rfl
  | [], _ :: _, h => by cases h
  | _ :: _, [], h => by cases h
  | x :: l, y :: m, h => by
    simp only [sameAll, Bool.and_eq_true] at h
    rw [sameD_eq h.1, sameAll_eq h.2]
theorem sameC_eq {a b : Cnf} (h : sameC a b = true) : a = b := by
  cases a; cases b
  simp only [sameC, Bool.and_eq_true, beq_iff_eq, decide_eq_true_eq] at h
  simp only [Cnf.mk.injEq]
  obtain ⟨⟨⟨h1, h2⟩, h3⟩, h4⟩ := h
  exact ⟨h1, h2, h3, sameAll_eq h4⟩
theorem sameS_eq {a b : Scr} (h : sameS a b = true) : a = b := by
  cases a; cases b
  simp only [sameS, Bool.and_eq_true, beq_iff_eq, decide_eq_true_eq] at h
  simp only [Scr.mk.injEq]
  obtain ⟨⟨⟨h1, h2⟩, h3⟩, h4⟩ := h
  exact ⟨sameC_eq h1, h2, h3, h4⟩
theorem sameS_iff {a b : Scr} : sameS a b = true ↔ a = b := ⟨sameS_eq, fun h => h ▸ sameS_self _⟩

/-! ### The bytes -/

def rowB (l : List Int) : List UInt8 := numB l.length ++ l.flatMap numB
def domBytes (d : Dom) : List UInt8 := numB d.level ++ bitsB d.cats ++ numB d.routes.length ++ d.routes.flatMap rowB ++ numB d.to ++ rowB d.release ++
  numB d.threads ++ numB d.groups ++ numB d.ring ++ numB d.sends ++ numB d.box
def headBytes (c : Cnf) : List UInt8 := numB c.frame ++ numB c.epoch ++ numB c.plans.length ++ numB c.doms.length
def plansBytes (l : List (List Int)) : List UInt8 := l.flatMap (fun p => p.flatMap numB)
def confBytes (c : Cnf) : List UInt8 := headBytes c ++ plansBytes c.plans ++ c.doms.flatMap domBytes
def axnBytes (x : Axn) : List UInt8 := numB x.op ++ numB x.a ++ numB x.b
def streamBytes (l : List Axn) : List UInt8 := numB l.length ++ l.flatMap axnBytes
def arvBytes (x : Arv) : List UInt8 := numB x.tick ++ numB x.obj
def arrBytes (l : List Arv) : List UInt8 := numB l.length ++ l.flatMap arvBytes
def allBytes (s : Scr) : List UInt8 := confBytes s.conf ++ numB s.horizon ++ s.streams.flatMap streamBytes ++ s.arrivals.flatMap arrBytes
def scrBytes (s : Scr) : List UInt8 := if isScr s = 0 then allBytes s else []

/-! ### What is read -/

/-- Up to n of them, as long as nothing is wrong. -/
def readN {α : Type} (f : Rd → α × Rd) : Nat → Rd → List α × Rd
  | 0, r => ([], r)
  | n + 1, r => if r.e = 0 then ((f r).1 :: (readN f n (f r).2).1, (readN f n (f r).2).2) else ([], r)
def numR (most : Int) (r : Rd) : Int × Rd := (r.num most, r.afterNum most)
def rowR (most : Int) (r : Rd) : List Int × Rd := readN (numR 1048576) (r.num most).toNat (r.afterNum most)
/-- A number, then as many. -/
def countR {α : Type} (most : Int) (f : Rd → α × Rd) (r : Rd) : List α × Rd := readN f (r.num most).toNat (r.afterNum most)
def domR (r : Rd) : Dom × Rd :=
  let r1 := r.afterNum 255
  let r2 := r1.afterBits
  let q := countR 3 (rowR 300) r2
  let r4 := q.2.afterNum 6
  let p := rowR 4 r4
  let r6 := p.2.afterNum 8
  let r7 := r6.afterNum 4
  let r8 := r7.afterNum 16
  let r9 := r8.afterNum 8
  (⟨r.num 255, r1.bits, q.1, p.1, q.2.num 6, p.2.num 8, r6.num 4, r7.num 16, r8.num 8, r9.num 8⟩, r9.afterNum 8)
def confR (r : Rd) : Cnf × Rd :=
  let r1 := r.afterNum 64
  let r2 := r1.afterNum 8
  let r3 := r2.afterNum 3
  let r4 := r3.afterNum 6
  let q := readN (readN (numR 1000) (r3.num 6).toNat) (r2.num 3).toNat r4
  let p := readN domR (r3.num 6).toNat q.2
  (⟨r.num 64, r1.num 8, q.1, p.1⟩, p.2)
def axnR (r : Rd) : Axn × Rd :=
  let r1 := r.afterNum 1048576
  let r2 := r1.afterNum 1048576
  (⟨r.num 1048576, r1.num 1048576, r2.num 1048576⟩, r2.afterNum 1048576)
def arvR (r : Rd) : Arv × Rd := (⟨r.num 2000, (r.afterNum 2000).num 1048576⟩, (r.afterNum 2000).afterNum 1048576)
def scrR (r : Rd) : Scr × Rd :=
  let c := confR r
  let r1 := c.2.afterNum 2000
  let q := readN (countR 400 axnR) c.1.doms.length r1
  let p := readN (countR 100 arvR) c.1.doms.length q.2
  (⟨c.1, c.2.num 2000, q.1, p.1⟩, p.2)
/-- The script whose bytes are l, if there is one. -/
def scrOk (l : List UInt8) : Bool := decide (l.length ≤ 40000) && ((scrR ⟨l, 0⟩).2.e == 0) && (scrR ⟨l, 0⟩).2.s.isEmpty && (isScr (scrR ⟨l, 0⟩).1 == 0) && decide (allBytes (scrR ⟨l, 0⟩).1 = l)

theorem readN_snoc {α : Type} (f : Rd → α × Rd) : ∀ (n : Nat) (r : Rd), (readN f n r).2.e = 0 →
    readN f (n + 1) r = ((readN f n r).1 ++ [(f (readN f n r).2).1], (f (readN f n r).2).2)
  | 0, r, h => by
    simp only [readN] at h ⊢
    rw [if_pos h]; rfl
  | n + 1, r, h => by
    by_cases he : r.e = 0
    · have e1 : readN f (n + 1) r = ((f r).1 :: (readN f n (f r).2).1, (readN f n (f r).2).2) := by rw [readN, if_pos he]
      rw [e1] at h ⊢
      rw [readN, if_pos he, readN_snoc f n (f r).2 h]
      rfl
    · rw [readN, if_neg he] at h
      exact absurd h he
theorem readN_bad {α : Type} (f : Rd → α × Rd) : ∀ (n : Nat) (r : Rd), (readN f n r).2.e ≠ 0 → readN f (n + 1) r = readN f n r
  | 0, r, h => by
    simp only [readN] at h ⊢
    rw [if_neg h]
  | n + 1, r, h => by
    by_cases he : r.e = 0
    · have e1 : readN f (n + 1) r = ((f r).1 :: (readN f n (f r).2).1, (readN f n (f r).2).2) := by rw [readN, if_pos he]
      rw [e1] at h
      rw [readN, if_pos he, readN_bad f n (f r).2 h, e1]
    · rw [readN, if_neg he, readN, if_neg he]
theorem readN_len {α : Type} (f : Rd → α × Rd) : ∀ (n : Nat) (r : Rd), (readN f n r).1.length ≤ n
  | 0, _ => Nat.zero_le _
  | n + 1, r => by
    rw [readN]
    split
    · simp only [List.length_cons]
      have := readN_len f n (f r).2
      omega
    · simp
theorem readN_full {α : Type} (f : Rd → α × Rd) : ∀ (n : Nat) (r : Rd), (readN f n r).2.e = 0 → (readN f n r).1.length = n
  | 0, _, _ => rfl
  | n + 1, r, h => by
    rw [readN] at h ⊢
    split
    · rename_i he
      rw [if_pos he] at h
      simp only [List.length_cons]
      rw [readN_full f n (f r).2 h]
    · rename_i he
      rw [if_neg he] at h
      exact absurd h he

/-! ### Bytes are read as what they are of -/

theorem num_back {n most : Int} (h : -1 ≤ n) (h' : n ≤ 1048576) (hm : n ≤ most) (t : List UInt8) :
    (⟨numB n ++ t, 0⟩ : Rd).num most = n ∧ (⟨numB n ++ t, 0⟩ : Rd).afterNum most = ⟨t, 0⟩ := by
  have := scan_num (most := most) h h' t
  rw [if_neg (by omega)] at this
  simp only [Rd.num, Rd.afterNum, this, if_true, List.drop_left, and_self]
theorem bits_back {n : Int} (h : U64 n) (t : List UInt8) : (⟨bitsB n ++ t, 0⟩ : Rd).bits = n ∧ (⟨bitsB n ++ t, 0⟩ : Rd).afterBits = ⟨t, 0⟩ := by
  have hl := bitsB_length n
  have e1 : (bitsB n ++ t).take 8 = bitsB n := by rw [← hl, List.take_left]
  have e2 : (bitsB n ++ t).drop 8 = t := by rw [← hl, List.drop_left]
  have h8 : 8 ≤ (bitsB n ++ t).length := by rw [List.length_append, hl]; omega
  simp only [Rd.bits, Rd.afterBits, e1, e2, h8, and_self, if_true, and_true]
  rw [bitsB, unLe_leB 8 n.toNat (by have := h.2; have := h.1; simp; omega)]
  exact Int.toNat_of_nonneg h.1
/-- f reads x from g. -/
def Takes {α : Type} (f : Rd → α × Rd) (x : α) (g : List UInt8) : Prop := ∀ t, f ⟨g ++ t, 0⟩ = (x, ⟨t, 0⟩)
theorem takes_num {n most : Int} (h : -1 ≤ n) (h' : n ≤ 1048576) (hm : n ≤ most) : Takes (numR most) n (numB n) := fun t => by
  rw [numR, (num_back h h' hm t).1, (num_back h h' hm t).2]
theorem takes_all {α : Type} {f : Rd → α × Rd} {g : α → List UInt8} : ∀ {l : List α}, (∀ x ∈ l, Takes f x (g x)) → Takes (readN f l.length) l (l.flatMap g)
  | [], _, t => rfl
  | x :: l, h, t => by
    rw [List.length_cons, List.flatMap_cons, List.append_assoc, readN, if_pos rfl, h x (List.mem_cons_self ..),
      takes_all (fun y hy => h y (List.mem_cons_of_mem _ hy)) t]
theorem takes_count {α : Type} {f : Rd → α × Rd} {g : α → List UInt8} {l : List α} {most : Nat} (hl : l.length ≤ most) (hm : most ≤ 1048576) (h : ∀ x ∈ l, Takes f x (g x)) :
    Takes (countR most f) l (numB l.length ++ l.flatMap g) := fun t => by
  have := num_back (n := (l.length : Int)) (most := most) (by omega) (by omega) (by omega) (l.flatMap g ++ t)
  rw [countR, List.append_assoc, this.1, this.2, Int.toNat_natCast, takes_all h t]
theorem takes_row {l : List Int} {most : Nat} (hl : l.length ≤ most) (hm : most ≤ 1048576) (h : ∀ x ∈ l, -1 ≤ x ∧ x ≤ 1048576) : Takes (rowR most) l (rowB l) :=
  takes_count hl hm fun x hx => takes_num (h x hx).1 (h x hx).2 (h x hx).2

/-- What of a domain can be read. -/
structure DomIn (d : Dom) : Prop where
  level : 0 ≤ d.level ∧ d.level ≤ 255
  cats : U64 d.cats
  routes : d.routes.length ≤ 3
  route : ∀ r ∈ d.routes, r.length ≤ 300 ∧ ∀ x ∈ r, -1 ≤ x ∧ x ≤ 1048576
  release : d.release.length ≤ 4 ∧ ∀ x ∈ d.release, -1 ≤ x ∧ x ≤ 1048576
  to : -1 ≤ d.to ∧ d.to ≤ 6
  threads : 0 ≤ d.threads ∧ d.threads ≤ 8
  groups : 0 ≤ d.groups ∧ d.groups ≤ 4
  ring : 0 ≤ d.ring ∧ d.ring ≤ 16
  sends : 0 ≤ d.sends ∧ d.sends ≤ 8
  box : 0 ≤ d.box ∧ d.box ≤ 8
theorem takes_dom {d : Dom} (h : DomIn d) : Takes domR d (domBytes d) := fun t => by
  have a1 := fun t => num_back (n := d.level) (most := 255) (by have := h.level; omega) (by have := h.level; omega) h.level.2 t
  have a2 := fun t => bits_back h.cats t
  have a3 : ∀ t, countR 3 (rowR 300) ⟨numB d.routes.length ++ d.routes.flatMap rowB ++ t, 0⟩ = (d.routes, ⟨t, 0⟩) :=
    takes_count (most := 3) h.routes (by omega) fun r hr => takes_row (most := 300) (h.route r hr).1 (by omega) (h.route r hr).2
  have a4 := fun t => num_back (n := d.to) (most := 6) h.to.1 (by have := h.to; omega) h.to.2 t
  have a5 : ∀ t, rowR 4 ⟨rowB d.release ++ t, 0⟩ = (d.release, ⟨t, 0⟩) := takes_row (most := 4) h.release.1 (by omega) h.release.2
  have a6 := fun t => num_back (n := d.threads) (most := 8) (by have := h.threads; omega) (by have := h.threads; omega) h.threads.2 t
  have a7 := fun t => num_back (n := d.groups) (most := 4) (by have := h.groups; omega) (by have := h.groups; omega) h.groups.2 t
  have a8 := fun t => num_back (n := d.ring) (most := 16) (by have := h.ring; omega) (by have := h.ring; omega) h.ring.2 t
  have a9 := fun t => num_back (n := d.sends) (most := 8) (by have := h.sends; omega) (by have := h.sends; omega) h.sends.2 t
  have a10 := fun t => num_back (n := d.box) (most := 8) (by have := h.box; omega) (by have := h.box; omega) h.box.2 t
  simp only [List.append_assoc] at a3
  simp only [domR, domBytes, List.append_assoc, (a1 _).1, (a1 _).2, (a2 _).1, (a2 _).2, a3, (a4 _).1, (a4 _).2, a5, (a6 _).1, (a6 _).2, (a7 _).1, (a7 _).2, (a8 _).1, (a8 _).2, (a9 _).1, (a9 _).2, (a10 _).1, (a10 _).2]

theorem readN_congr {α : Type} (f : Rd → α × Rd) {n m : Nat} (h : n = m) (r : Rd) : readN f n r = readN f m r := by rw [h]
/-- What of a configuration can be read. -/
structure CnfIn (c : Cnf) : Prop where
  frame : 0 ≤ c.frame ∧ c.frame ≤ 64
  epoch : 0 ≤ c.epoch ∧ c.epoch ≤ 8
  plans : c.plans.length ≤ 3
  plan : ∀ p ∈ c.plans, p.length = c.doms.length ∧ ∀ x ∈ p, 0 ≤ x ∧ x ≤ 1000
  doms : c.doms.length ≤ 6
  dom : ∀ d ∈ c.doms, DomIn d
theorem takes_plan {c : Cnf} (h : CnfIn c) : ∀ p ∈ c.plans, Takes (readN (numR 1000) c.doms.length) p (p.flatMap numB) := fun p hp t => by
  rw [← (h.plan p hp).1]
  exact takes_all (fun x hx => takes_num (by have := (h.plan p hp).2 x hx; omega) (by have := (h.plan p hp).2 x hx; omega) ((h.plan p hp).2 x hx).2) t
theorem takes_conf {c : Cnf} (h : CnfIn c) : Takes confR c (confBytes c) := fun t => by
  have a1 := fun t => num_back (n := c.frame) (most := 64) (by have := h.frame; omega) (by have := h.frame; omega) h.frame.2 t
  have a2 := fun t => num_back (n := c.epoch) (most := 8) (by have := h.epoch; omega) (by have := h.epoch; omega) h.epoch.2 t
  have a3 := fun t => num_back (n := (c.plans.length : Int)) (most := 3) (by omega) (by have := h.plans; omega) (by have := h.plans; omega) t
  have a4 := fun t => num_back (n := (c.doms.length : Int)) (most := 6) (by omega) (by have := h.doms; omega) (by have := h.doms; omega) t
  have a5 : ∀ t, readN (readN (numR 1000) c.doms.length) c.plans.length ⟨plansBytes c.plans ++ t, 0⟩ = (c.plans, ⟨t, 0⟩) := takes_all (takes_plan h)
  have a6 : ∀ t, readN domR c.doms.length ⟨c.doms.flatMap domBytes ++ t, 0⟩ = (c.doms, ⟨t, 0⟩) := takes_all fun d hd => takes_dom (h.dom d hd)
  simp only [confR, confBytes, headBytes, List.append_assoc, (a1 _).1, (a1 _).2, (a2 _).1, (a2 _).2, (a3 _).1, (a3 _).2, (a4 _).1, (a4 _).2, Int.toNat_natCast, a5, a6]

theorem takes_axn {x : Axn} (h : axnB x = true) : Takes axnR x (axnBytes x) := fun t => by
  simp only [axnB, Bool.and_eq_true, withB_iff] at h
  obtain ⟨⟨⟨h1, h2⟩, h3, h4⟩, h5, h6⟩ := h
  have a1 := fun t => num_back (n := x.op) (most := 1048576) (by omega) h2 h2 t
  have a2 := fun t => num_back (n := x.a) (most := 1048576) (by omega) h4 h4 t
  have a3 := fun t => num_back (n := x.b) (most := 1048576) (by omega) h6 h6 t
  simp only [axnR, axnBytes, List.append_assoc, (a1 _).1, (a1 _).2, (a2 _).1, (a2 _).2, (a3 _).1, (a3 _).2]
theorem takes_stream {l : List Axn} (h : streamB l = true) : Takes (countR 400 axnR) l (streamBytes l) := by
  simp only [streamB, Bool.and_eq_true, List.all_eq_true, decide_eq_true_eq] at h
  exact takes_count (most := 400) h.2 (by omega) fun x hx => takes_axn (h.1 x hx)
theorem arrB_mem : ∀ {l : List Arv} {t : Int}, arrB t l = true → ∀ x ∈ l, (0 ≤ x.tick ∧ x.tick ≤ 2000) ∧ 0 ≤ x.obj ∧ x.obj ≤ 3
  | [], _, _, x, hx => by cases hx
  | y :: l, t, h, x, hx => by
    simp only [arrB, Bool.and_eq_true, withB_iff] at h
    rcases List.mem_cons.mp hx with rfl | hx
    · exact ⟨h.1.1.1, h.1.1.2⟩
    · exact arrB_mem h.2 x hx
theorem takes_arv {x : Arv} (h : (0 ≤ x.tick ∧ x.tick ≤ 2000) ∧ 0 ≤ x.obj ∧ x.obj ≤ 3) : Takes arvR x (arvBytes x) := fun t => by
  have a1 := fun t => num_back (n := x.tick) (most := 2000) (by omega) (by omega) (by omega) t
  have a2 := fun t => num_back (n := x.obj) (most := 1048576) (by omega) (by omega) (by omega) t
  simp only [arvR, arvBytes, List.append_assoc, (a1 _).1, (a1 _).2, (a2 _).1, (a2 _).2]
theorem takes_arr {l : List Arv} {t : Int} (hl : l.length ≤ 100) (h : arrB t l = true) : Takes (countR 100 arvR) l (arrBytes l) :=
  takes_count (most := 100) hl (by omega) fun x hx => takes_arv (arrB_mem h x hx)

theorem isScr_parts {s : Scr} (h : isScr s = 0) : isConf s.conf = 0 ∧ (0 ≤ s.horizon ∧ s.horizon ≤ 2000) ∧ s.streams.length = s.conf.doms.length ∧ s.arrivals.length = s.conf.doms.length ∧
    (∀ l ∈ s.streams, streamB l = true) ∧ (∀ l ∈ s.arrivals, l.length ≤ 100) ∧ ∀ l ∈ s.arrivals, arrB 0 l = true := by
  unfold isScr at h
  by_cases h1 : isConf s.conf = 0
  · rw [if_neg (by simp [h1])] at h
    by_cases h2 : largeB s = true
    · rw [if_neg (by simp [h2])] at h
      by_cases h3 : s.arrivals.all (arrB 0) = true
      · simp only [largeB, Bool.and_eq_true, withB_iff, beq_iff_eq, List.all_eq_true, decide_eq_true_eq] at h2
        obtain ⟨⟨⟨⟨a, b⟩, c⟩, d⟩, e⟩ := h2
        exact ⟨h1, a, b, c, d, e, List.all_eq_true.mp h3⟩
      · rw [if_pos (by simpa using h3)] at h; cases h
    · rw [if_pos (by simpa using h2)] at h; cases h
  · rw [if_pos h1] at h
    exact absurd h h1
theorem takes_scr {s : Scr} (h : isScr s = 0) (hc : CnfIn s.conf) : Takes scrR s (allBytes s) := fun t => by
  obtain ⟨_, h2, h3, h4, h5, h6, h7⟩ := isScr_parts h
  have a1 := fun t => takes_conf hc t
  have a2 := fun t => num_back (n := s.horizon) (most := 2000) (by omega) (by omega) (by omega) t
  have a3 : ∀ t, readN (countR 400 axnR) s.conf.doms.length ⟨s.streams.flatMap streamBytes ++ t, 0⟩ = (s.streams, ⟨t, 0⟩) := by
    rw [← h3]
    exact takes_all fun l hl => takes_stream (h5 l hl)
  have a4 : ∀ t, readN (countR 100 arvR) s.conf.doms.length ⟨s.arrivals.flatMap arrBytes ++ t, 0⟩ = (s.arrivals, ⟨t, 0⟩) := by
    rw [← h4]
    exact takes_all fun l hl => takes_arr (h6 l hl) (h7 l hl)
  simp only [scrR, allBytes, List.append_assoc, a1, (a2 _).1, (a2 _).2, a3, a4]
end Go.Proofs.YtmpgeabfogcblaaGreat
