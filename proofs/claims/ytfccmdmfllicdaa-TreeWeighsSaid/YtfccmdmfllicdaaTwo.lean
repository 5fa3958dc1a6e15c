/- Two threads of a tree in a statement's walk, and how often each ran, counted in an array beside it. -/
import Derived.Test.YtfccmdmfllicdaaTm5
import Derived.Test.YtfccmdmfllicdaaTk
namespace Go.Proofs.Ytfccmdmfllicdaa
open Go.RowKit
set_option linter.unusedSimpArgs false

namespace two
def InvF (w0 : World) (tx : Nat) (x y : Int) (wr : World) : Prop := ∃ l, TSt w0 tx l [] wr ∧ Fst l x y
def hadV (h k : Int) : Obj := .cells #[.int .i64 0, .int .i64 h, .int .i64 k] 48 (0, 0)
def InvT (w0 : World) (tx : Nat) (x y : Int) (wr : World) : Prop := ∃ l P Q, TSt w0 tx l [] wr ∧ Two l x y P Q 0 0
def InvH (w0 : World) (tx B : Nat) (x y h k h' k' : Int) (wr : World) : Prop := ∃ l P Q, TSt w0 tx l [(B, hadV h' k')] wr ∧ Two l x y P Q h k
section
variable {w0 w w' : World} {tx B : Nat} {x y h k h' k' : Int}
theorem InvH.xt (i : InvH w0 tx B x y h k h' k' w) : Ext w0 w := by
  obtain ⟨l, P, Q, s, -⟩ := i
  exact s.xt
theorem InvH.ext (i : InvH w0 tx B x y h k h' k' w) (e : Ext w w') : InvH w0 tx B x y h k h' k' w' := by
  obtain ⟨l, P, Q, s, t⟩ := i
  exact ⟨l, P, Q, s.ext e, t⟩
theorem InvH.fair (i : InvH w0 tx B x y h k h' k' w) (hh : 0 ≤ h ∧ h ≤ 1048576) (hk : 0 ≤ k ∧ k ≤ 1048576) : fairW h x k y = true := by
  obtain ⟨l, P, Q, -, t⟩ := i
  exact t.fair hh hk
theorem InvH.blk (i : InvH w0 tx B x y h k h' k' w) : w.heap[B]? = some (hadV h' k') := by
  obtain ⟨l, P, Q, s, t⟩ := i
  exact s.blk List.mem_cons_self
theorem InvH.cells (i : InvH w0 tx B x y h k h' k' w) : w.cell? ⟨B, 1, none⟩ = some (.int .i64 h') ∧ w.cell? ⟨B, 2, none⟩ = some (.int .i64 k') ∧ w.frozen? ⟨B, 1, none⟩ = false ∧ w.frozen? ⟨B, 2, none⟩ = false ∧ B < w.heap.size := by
  have b := i.blk
  unfold hadV at b
  exact ⟨by simp [World.cell?, b], by simp [World.cell?, b], by simp [World.frozen?, b], by simp [World.frozen?, b], lt_blk b⟩
theorem InvH.set1 (i : InvH w0 tx B x y h k h' k' w) (u : Int) : InvH w0 tx B x y h k u k' (w.setCell ⟨B, 1, none⟩ (.int .i64 u)) := by
  obtain ⟨l, P, Q, s, t⟩ := i
  exact ⟨l, P, Q, s.poke (j := 1) (.int .i64 u), t⟩
theorem InvH.set2 (i : InvH w0 tx B x y h k h' k' w) (u : Int) : InvH w0 tx B x y h k h' u (w.setCell ⟨B, 2, none⟩ (.int .i64 u)) := by
  obtain ⟨l, P, Q, s, t⟩ := i
  exact ⟨l, P, Q, s.poke (j := 2) (.int .i64 u), t⟩
theorem InvT.had (i : InvT w0 tx x y w) : InvH w0 tx w.heap.size x y 0 0 0 0 (w.alloc (hadV 0 0)) := by
  obtain ⟨l, P, Q, s, t⟩ := i
  exact ⟨l, P, Q, s.alloc _, t⟩
end
theorem add1 {w0 : World} {tx : Nat} {wr : World} {x : Int} (h : TSt w0 tx [rootN] [] wr) (hx : isW x = true) :
    Calls Try.prog 13 #[.pointer (some ⟨tx, 0, none⟩), .int .i64 0, .int .i64 1, .int .i64 x, .bool true] wr fun e w' => e = .returned .nilIface ∧ TSt w0 tx [rtN false, thN 1 x false] [] w' := by
  obtain ⟨a, b, c⟩ := two_add1 hx
  exact (ts_add h rootN_wf 1 0 1 x true (by decide) c a).mono fun e w' h => ⟨h.1, by rw [← b]; exact h.2⟩
theorem add2 {w0 : World} {tx : Nat} {wr : World} {x y : Int} (h : TSt w0 tx [rtN false, thN 1 x false] [] wr) (hx : isW x = true) (hy : isW y = true) :
    Calls Try.prog 13 #[.pointer (some ⟨tx, 0, none⟩), .int .i64 0, .int .i64 2, .int .i64 y, .bool true] wr fun e w' => e = .returned .nilIface ∧ TSt w0 tx [rtN false, thN 1 x false, thN 2 y false] [] w' := by
  obtain ⟨a, b⟩ := two_add2 hx hy
  exact (ts_add h (two_wf1 hx) 1 0 2 y true (by decide) (two_wf1 hx).up0 a).mono fun e w' h => ⟨h.1, by rw [← b]; exact h.2⟩
theorem rdy1 {w0 : World} {tx : Nat} {wr : World} {x y : Int} (h : TSt w0 tx [rtN false, thN 1 x false, thN 2 y false] [] wr) (hx : isW x = true) (hy : isW y = true) :
    Calls Try.prog 14 #[.pointer (some ⟨tx, 0, none⟩), .int .i64 1, .bool true] wr fun e w' => e = .returned .nilIface ∧ InvF w0 tx x y w' :=
  (ts_readyI h (two_wf2 hx hy) (n := thN 1 x false) (by simp) rfl true (id := 1) rfl).mono fun e w' h => ⟨h.1, _, h.2, by rw [two_rdy]; exact two_fst hx hy⟩
theorem run1 {w0 : World} {tx : Nat} {wr : World} {x y : Int} (h : InvF w0 tx x y wr) :
    Calls Try.prog 16 #[.pointer (some ⟨tx, 0, none⟩)] wr fun e w' => e = .returned (.tuple #[.int .i64 1, .bool true]) ∧ InvF w0 tx x y w' := by
  obtain ⟨l, s, f⟩ := h
  obtain ⟨r, R, a1, a2, a3, a4, a5, a6⟩ := f.run
  exact (ts_run s f.wf a1 a2 a3 a4).mono fun e w' h => ⟨by rw [h.1, a5], _, h.2, a6⟩
theorem rdy2 {w0 : World} {tx : Nat} {wr : World} {x y : Int} (h : InvF w0 tx x y wr) :
    Calls Try.prog 14 #[.pointer (some ⟨tx, 0, none⟩), .int .i64 2, .bool true] wr fun e w' => e = .returned .nilIface ∧ InvT w0 tx x y w' := by
  obtain ⟨l, s, f⟩ := h
  obtain ⟨⟨n, hn, e, ht⟩, P, Q, t⟩ := f.wake
  exact (ts_readyI s f.wf hn ht true e).mono fun e w' h => ⟨h.1, _, P, Q, h.2, t⟩
theorem run2 {w0 : World} {tx B : Nat} {wr : World} {x y h k h' k' : Int} (i : InvH w0 tx B x y h k h' k' wr) :
    Calls Try.prog 16 #[.pointer (some ⟨tx, 0, none⟩)] wr fun e w' => ∃ id : Int, e = .returned (.tuple #[.int .i64 id, .bool true]) ∧ (id = 1 ∧ InvH w0 tx B x y (h + 1) k h' k' w' ∨ id = 2 ∧ InvH w0 tx B x y h (k + 1) h' k' w') := by
  obtain ⟨l, P, Q, s, t⟩ := i
  obtain ⟨r, R, a1, a2, a3, a4, a5⟩ := t.run
  refine (ts_run s t.wf a1 a2 a3 a4).mono fun e w' h => ⟨R.1, h.1, ?_⟩
  rcases a5 with ⟨e1, a5⟩ | ⟨e1, a5⟩
  · exact .inl ⟨e1, _, P, Q, h.2, a5⟩
  · exact .inr ⟨e1, _, P, Q, h.2, a5⟩
theorem fair_to {n a m b : Int} {r : Bool} (e : fairW n a m b = r) (w : World) : Calls Try.prog 17 #[.int .i64 n, .int .i64 a, .int .i64 m, .int .i64 b] w (Yields w (.bool r)) := e ▸ rfair_any n a m b w


/-- Both are ready. -/
structure Bth (l : List Nd) (x y : Int) : Prop where
  wf : Wf l
  only : ∀ n ∈ l, n.thr = true → n.id = 1 ∨ n.id = 2
  one : ∃ m ∈ l, m.id = 1 ∧ m.par = 0 ∧ m.rdy = true ∧ m.thr = true ∧ m.wt = x
  two : ∃ m ∈ l, m.id = 2 ∧ m.par = 0 ∧ m.rdy = true ∧ m.thr = true ∧ m.wt = y
theorem Bth.run {l : List Nd} {x y : Int} (t : Bth l x y) : ∃ r R, r ∈ l ∧ r.id = 0 ∧ r.rdy = true ∧ runU 6 l 0 = some R ∧ Bth (upR 6 R.2 R.1) x y := by
  obtain ⟨hw, honly, ⟨m, hm, a1, a2, a3, a4, a5⟩, ⟨n, hn, b1, b2, b3, b4, b5⟩⟩ := t
  obtain ⟨r, R, q1, q2, q3, q4, q5, q6, -⟩ := hw.quantum hm a3
  refine ⟨r, R, q1, q2, q3, q4, q5, fun z hz ht => ?_, ?_, ?_⟩
  · obtain ⟨n0, hn0, ek⟩ := q6.back hz
    obtain ⟨k1, k2, k3, -⟩ := keyR_eq ek
    rw [← k1]; exact honly n0 hn0 (k3.trans ht)
  · obtain ⟨m2, hm2, ek⟩ := q6.fwd hm
    obtain ⟨k1, k2, k3, k4, k5⟩ := keyR_eq ek
    exact ⟨m2, hm2, k1.trans a1, k2.trans a2, k5.trans a3, k3.trans a4, k4.trans a5⟩
  · obtain ⟨m2, hm2, ek⟩ := q6.fwd hn
    obtain ⟨k1, k2, k3, k4, k5⟩ := keyR_eq ek
    exact ⟨m2, hm2, k1.trans b1, k2.trans b2, k5.trans b3, k3.trans b4, k4.trans b5⟩
theorem bth_rdy {x y : Int} : rdyU true [rtN true, thN 1 x true, thN 2 y false] 2 = [rtN true, thN 1 x true, thN 2 y true] := rfl
theorem bth_start {x y : Int} (hx : isW x = true) (hy : isW y = true) : Bth [rtN true, thN 1 x true, thN 2 y true] x y where
  wf := by
    rw [← bth_rdy]
    exact (two_fst hx hy).wf.rdyU (n := thN 2 y false) (by simp) rfl true
  only := fun n hn ht => by
    simp only [List.mem_cons, List.not_mem_nil, or_false] at hn
    rcases hn with rfl | rfl | rfl
    · cases ht
    · exact .inl rfl
    · exact .inr rfl
  one := ⟨thN 1 x true, by simp, rfl, rfl, rfl, rfl, rfl⟩
  two := ⟨thN 2 y true, by simp, rfl, rfl, rfl, rfl, rfl⟩
theorem Bth.weigh {l : List Nd} {x y : Int} (t : Bth l x y) {z : Int} (hz : isW z = true) : ∃ m p, m ∈ l ∧ m.id = 1 ∧ 0 ≤ m.par ∧ p ∈ l ∧ p.id = m.par ∧ ∃ P Q, Two (upd 1 (wtF p.now z) l) z y P Q 0 0 := by
  obtain ⟨hw, honly, ⟨m, hm, a1, a2, a3, a4, a5⟩, ⟨n, hn, b1, b2, b3, b4, b5⟩⟩ := t
  obtain ⟨p, hp, he, hpt⟩ := (hw.sk.clo m hm).2.2 (by omega)
  refine ⟨m, p, hm, a1, by omega, hp, he, ?_⟩
  have hw2 := hw.weight hm (by omega) hp he hz
  rw [a1] at hw2
  have hm2 : wtF p.now z m ∈ upd 1 (wtF p.now z) l := mem_upd.2 ⟨m, hm, by rw [if_pos a1]⟩
  have hn2 : n ∈ upd 1 (wtF p.now z) l := mem_upd_same hn (by omega)
  have := Two.start hw2 (fun q hq ht => by
    obtain ⟨q0, hq0, rfl⟩ := mem_upd.1 hq
    rw [(ite_same (wtF_same p.now z) q0).2.2] at ht
    rw [(ite_same (wtF_same p.now z) q0).1]
    exact honly q0 hq0 ht) hm2 hn2 ⟨a1, a2, a3, a4⟩ ⟨b1, b2, b3, b4⟩
  rw [b5, show (wtF p.now z m).wt = z from rfl] at this
  exact this
def InvB (w0 : World) (tx : Nat) (x y : Int) (wr : World) : Prop := ∃ l, TSt w0 tx l [] wr ∧ Bth l x y
theorem rdyA {w0 : World} {tx : Nat} {wr : World} {x y : Int} (h : TSt w0 tx [rtN false, thN 1 x false, thN 2 y false] [] wr) (hx : isW x = true) (hy : isW y = true) :
    Calls Try.prog 14 #[.pointer (some ⟨tx, 0, none⟩), .int .i64 1, .bool true] wr fun e w' => e = .returned .nilIface ∧ TSt w0 tx [rtN true, thN 1 x true, thN 2 y false] [] w' :=
  (ts_readyI h (two_wf2 hx hy) (n := thN 1 x false) (by simp) rfl true (id := 1) rfl).mono fun e w' h => ⟨h.1, by rw [← two_rdy]; exact h.2⟩
theorem rdyB {w0 : World} {tx : Nat} {wr : World} {x y : Int} (h : TSt w0 tx [rtN true, thN 1 x true, thN 2 y false] [] wr) (hx : isW x = true) (hy : isW y = true) :
    Calls Try.prog 14 #[.pointer (some ⟨tx, 0, none⟩), .int .i64 2, .bool true] wr fun e w' => e = .returned .nilIface ∧ InvB w0 tx x y w' :=
  (ts_readyI h (two_fst hx hy).wf (n := thN 2 y false) (by simp) rfl true (id := 2) rfl).mono fun e w' h => ⟨h.1, _, h.2, by rw [bth_rdy]; exact bth_start hx hy⟩
theorem runB {w0 : World} {tx : Nat} {wr : World} {x y : Int} (i : InvB w0 tx x y wr) :
    Calls Try.prog 16 #[.pointer (some ⟨tx, 0, none⟩)] wr fun e w' => ∃ id : Int, e = .returned (.tuple #[.int .i64 id, .bool true]) ∧ InvB w0 tx x y w' := by
  obtain ⟨l, s, f⟩ := i
  obtain ⟨r, R, a1, a2, a3, a4, a6⟩ := f.run
  exact (ts_run s f.wf a1 a2 a3 a4).mono fun e w' h => ⟨R.1, h.1, _, h.2, a6⟩
theorem weighB {w0 : World} {tx : Nat} {wr : World} {x y z : Int} (i : InvB w0 tx x y wr) (hz : isW z = true) :
    Calls Try.prog 15 #[.pointer (some ⟨tx, 0, none⟩), .int .i64 1, .int .i64 z] wr fun e w' => e = .returned .nilIface ∧ InvT w0 tx z y w' := by
  obtain ⟨l, s, f⟩ := i
  obtain ⟨m, p, hm, e1, h0, hp, he, P, Q, t⟩ := f.weigh hz
  exact (ts_weightI s f.wf z hz hm h0 hp he e1).mono fun e w' h => ⟨h.1, _, P, Q, h.2, t⟩
end two
end Go.Proofs.Ytfccmdmfllicdaa
