/- KernelIDs: each thread, each group has a number of its own, the next one: the law answers true. No conditions. -/
import Derived.Test.YtocicffmajbecaaGreatPkAll
import Derived.Test.YtocicffmajbecaaGreatErr
import Derived.WalkKit
import Derived.WalkSpells
import Derived.WalkLawsBesides
import Derived.Handy
import Derived.Test.YtocicffmajbecaaGreatOwn2
import Derived.Test.YtocicffmajbecaaGreatInts
import Derived.Deep.LoopGhost
import Derived.IntWalk
namespace Go.Proofs.YtocicffmajbecaaGreat
open Go.RowKit
set_option linter.unusedSimpArgs false
namespace Pk
open Kn
theorem thrPos {l : List Nd} (hw : Wf l) {n : Nd} (hn : n ∈ l) (ht : n.thr = true) : 0 < n.id := by
  have h0 := (hw.sk.clo n hn).1
  rcases Int.lt_or_eq_of_le h0 with h | h
  · exact h
  · obtain ⟨r, hr, hr0, hrp, -⟩ := hw.root
    have := par_thr hw hn ht
    rw [uniqU hw.sk.ids hn hr (by omega)] at this
    omega
theorem run_st {th gr : Int} {k : Kd} (hk : KOk th gr k) {n : Int} (h : runK k.l = (n, true)) : 1 ≤ n ∧ n ≤ k.last ∧ stU k.l n = some true := by
  obtain ⟨r, hr, hr0, -, -⟩ := hk.wf.root
  cases hrd : r.rdy with
  | false =>
    have := hk.wf.run_none hr hr0 hrd
    simp [runK, this] at h
  | true =>
    obtain ⟨R, hR, -, t, ht, e1, e2, e3⟩ := hk.wf.run hr hr0 hrd
    have hn : R.1 = n := by
      simp only [runK, hR] at h
      exact congrArg Prod.fst h
    obtain ⟨m, hm, ek⟩ := (run_sim 6 hR).back ht
    obtain ⟨k1, k2, k3, k4, k5⟩ := keyR_eq ek
    have hid : m.id = n := by rw [k1, e1, hn]
    have hp := thrPos hk.wf hm (k3.trans e2)
    have hl := hk.low m hm
    exact ⟨by omega, by omega, (stU_some hk.wf.sk.ids).2 ⟨m, hm, hid, k3.trans e2, k5.trans e3⟩⟩
theorem run_no {l : List Nd} {n : Int} (h : runK l = (n, false)) : n = 0 := by
  unfold runK at h
  cases hR : runU 6 l 0 with
  | none => rw [hR] at h; exact (congrArg Prod.fst h).symm
  | some R => rw [hR] at h; cases h
end Pk
end Go.Proofs.YtocicffmajbecaaGreat

namespace Go.Proofs.YtocicffmajbecaaGreat
open Go.RowKit
set_option maxRecDepth 100000
set_option linter.unusedSimpArgs false
namespace Pk
open Rw (En)
open Kn

def q1 : Kd := runK' k0
def q2 : Kd := spawnK 2 q1 0 2
def q3 : Kd := groupK 1 q2 0 1
def q4 : Kd := sleepK q3 1 9
def q5 : Kd := waitK q4 2 0
def q6 : Kd := signalK q5 0
def q7 : Kd := runK' q6
def q8 : Kd := { q7 with l := wakes q7.l [1], M := Ti.sleepOn 9 q7.M }
theorem shapeOf {w : World} {base T n m : Nat} {v : Value} {xs : List Value} (h : w.ownsRow base T n v m xs) : ∃ p c, v = .slice p m c := by
  rcases h.2 with ⟨rfl, rfl⟩ | ⟨g, cap, cur, rfl, _⟩
  · exact ⟨none, 0, rfl⟩
  · exact ⟨_, cap, rfl⟩
theorem due_one {k : Kd} {tick id u : Int} (h : k.M = [(id, u)]) (hu : u ≤ tick) : Ti.dueIds tick k.M = [id] := by
  unfold Ti.dueIds
  refine Ti.sortI_of ?_ (List.pairwise_singleton _ _)
  unfold Ti.isDue
  rw [h]
  simp [hu]
structure QF : Prop where
  r0 : runK k0.l = (1, true)
  s1 : spawnE 2 q1 0 2 = 0
  l1 : q1.last = 1
  s2 : spawnE 2 q2 0 2 = 14
  l2 : q2.last = 2
  g2 : groupE 1 q2 0 1 = 0
  l3 : q3.last = 3
  y3 : rdyE q3 1 = 0
  l4 : q4.last = 3
  w4 : (waitA q4 2 0).on = false ∧ (waitA q4 2 0).err = 0
  r5 : rootR q5.l = false
  i5 : (Ob.sigR 0 q5.c q5.W).err = 0
  r6 : runK q6.l = (2, true)
  m7 : q7.M = [(1, 9)]
  u8 : stU q8.l 7 = none
  t8 : (tids q8.l).length = 2
  n8 : q8.l.length = 4
theorem qf : QF := by
  constructor
  all_goals first | kernel_rfl | (constructor <;> kernel_rfl) | decide
set_option maxHeartbeats 8000000 in
theorem known_any (w : World) : Calls Tryz.prog 10 #[] w (Yields w (.bool true)) := by
  have F := hid qf
  have hqn := fun w => run_eql_nil_nil' (P := Tryz.prog) w Tryz.underlying29
  have hnn := fun w => run_neq_nil_nil' (P := Tryz.prog) w Tryz.underlying29
  go_enter Tryz.func10, Tryz.ntmps10
  go_wp2_with fail
  (with_reducible refine (k_new w w (Ext.refl w) 2 1).mono ?_)
  rintro e v1 ⟨b, rfl, s1, -⟩
  rw [show max (1 : Int) (min 2 8) = 2 by decide, show max (0 : Int) (min 1 4) = 1 by decide] at s1
  go_wp2_with fail
  (with_reducible refine (k_run (k' := q1) s1 F.out.r0 rfl).mono ?_)
  rintro e v2 ⟨rfl, s2⟩
  clear s1
  go_wp2_with fail
  (with_reducible refine (spawn_ok (p := 0) (wt := 2) (k' := q2) s2 (by rw [F.out.l1]; decide) F.out.s1 (n := 2) (by rw [F.out.l1]; decide) rfl).mono ?_)
  rintro e v3 ⟨rfl, s3⟩
  clear s2
  go_wp2_with fail
  (with_reducible refine (spawn_er (p := 0) (wt := 2) s3 (by rw [F.out.l2]; decide) F.out.s2 (by decide)).mono ?_)
  rintro e v4 ⟨rfl, s4⟩
  clear s3
  go_wp2_with fail
  (with_reducible refine (group_ok (p := 0) (wt := 1) (k' := q3) s4 (by rw [F.out.l2]; decide) F.out.g2 (n := 3) (by rw [F.out.l2]; decide) rfl).mono ?_)
  rintro e v5 ⟨rfl, s5⟩
  clear s4
  go_wp2_with fail
  (with_reducible refine (sleep_ok (id := 1) (u := 9) (k' := q4) s5 (by rw [F.out.l3]; decide) F.out.y3 rfl).mono ?_)
  rintro e v6 ⟨rfl, s6⟩
  clear s5
  go_wp2_with fail
  (with_reducible refine (wait_ok (id := 2) (o := 0) (k' := q5) s6 (by rw [F.out.l4]; decide) F.out.w4.1 F.out.w4.2 rfl).mono ?_)
  rintro e v7 ⟨rfl, s7⟩
  clear s6
  go_wp2_with fail
  (with_reducible refine (k_runnable s7 F.out.r5).mono ?_)
  rintro e v8 ⟨rfl, x8⟩
  have s8 := s7.ext x8
  clear s7 x8
  go_wp2_with fail
  (with_reducible refine (signal_ok (o := 0) (k' := q6) s8 F.out.i5 rfl).mono ?_)
  rintro e v9 ⟨rfl, s9⟩
  clear s8
  go_wp2_with fail
  (with_reducible refine (k_run (k' := q7) s9 F.out.r6 rfl).mono ?_)
  rintro e v10 ⟨rfl, s10⟩
  clear s9
  have hd : Ti.dueIds 9 q7.M = [1] := due_one F.out.m7 (by decide)
  have h8 : wakeK q7 9 = q8 := by
    unfold wakeK
    rw [hd]
    rfl
  go_wp2_with fail
  (with_reducible refine (k_wake (k' := q8) s10 hd h8).mono ?_)
  rintro e v11 ⟨vd, rfl, s11, o11⟩
  clear s10 hd h8
  go_wp2_with fail
  (with_reducible refine (exit_er (id := 7) s11 F.out.u8).mono ?_)
  rintro e v12 ⟨rfl, x12⟩
  have s12 := s11.ext x12
  have o12 := owns_ext o11 x12
  clear s11 o11
  rcases o12.2 with ⟨e, e0⟩ | ⟨g', cap', cur, rfl, e2, e3, e4, e5, e6, e7⟩
  · cases e0
  have c0 : v12.cell? ⟨g', 0, none⟩ = some (.int .i64 1) := by
    have : ([Value.int .i64 1])[0]? = some (.int .i64 1) := rfl
    have e7 : cur.toList.take 1 = [Value.int .i64 1] := e7
    rw [← e7, List.getElem?_take, if_pos (by decide)] at this
    simp only [World.cell?, e3]
    simpa using this
  have hg := (World.ownsRow.lt o12 g' rfl).2
  clear o12 e2 e3 e4 e5 e6 e7
  go_wp2_with (first
    | (go_at_call 18; (with_reducible refine (is_errno_to (r := true) rfl _).yields ?_); intro p1))
  (with_reducible refine (k_threads (s12.ext (by repeat (first | exact Ext.refl _ | assumption | refine Ext.more ?_ _ | refine Ext.drew ?_ | refine Ext.drewN ?_ _ | refine Ext.alloc ?_ _ | refine Ext.setCell ?_ (by simp; try omega) _ | refine Ext.trans ?_ (by assumption))))).mono ?_)
  rintro e v13 ⟨vt, rfl, x13, o13⟩
  obtain ⟨p3, c3, rfl⟩ : ∃ p c, vt = .slice p 2 c := by
    have := shapeOf o13
    rwa [F.out.t8] at this
  have X13 := hid x13
  clear o13 x13
  go_wp2_with fail
  (with_reducible refine (k_nodes ((s12.ext (by repeat (first | exact Ext.refl _ | assumption | refine Ext.more ?_ _ | refine Ext.drew ?_ | refine Ext.drewN ?_ _ | refine Ext.alloc ?_ _ | refine Ext.setCell ?_ (by simp; try omega) _ | refine Ext.trans ?_ (by assumption)))).ext X13.out)).mono ?_)
  rintro e v14 ⟨vn, rfl, x14, o14⟩
  obtain ⟨p4, c4, rfl⟩ : ∃ p c, vn = .slice p 4 c := by
    obtain ⟨p, c, e, -, -⟩ := o14.shape
    rw [List.length_map, F.out.n8] at e
    exact ⟨p, c, e⟩
  have S14 := hid (((s12.ext (by repeat (first | exact Ext.refl _ | assumption | refine Ext.more ?_ _ | refine Ext.drew ?_ | refine Ext.drewN ?_ _ | refine Ext.alloc ?_ _ | refine Ext.setCell ?_ (by simp; try omega) _ | refine Ext.trans ?_ (by assumption)))).ext X13.out).ext x14)
  clear s12 o14 x14 X13
  go_wp2
  go_returns
  exact ⟨rfl, S14.out.xt.trans (by repeat (first | exact Ext.refl _ | assumption | refine Ext.more ?_ _ | refine Ext.drew ?_ | refine Ext.drewN ?_ _ | refine Ext.alloc ?_ _ | refine Ext.setCell ?_ (by simp; try omega) _ | refine Ext.trans ?_ (by assumption)))⟩
end Pk
end Go.Proofs.YtocicffmajbecaaGreat

namespace Go.Proofs.YtocicffmajbecaaGreat
open Go.ChangeShapes Go.WideShapes Go.ChangeAt Go.RowKit Go.Joins Go.Deep

structure Stq where
  what : Int
  id : Int
  a : Int
  b : Int
def StqAt (w : World) (b off : Nat) (s : Stq) : Prop := w.cell? ⟨b, off, none⟩ = some (.int .i64 s.what) ∧ w.cell? ⟨b, off + 1, none⟩ = some (.int .i64 s.id) ∧ w.cell? ⟨b, off + 2, none⟩ = some (.int .i64 s.a) ∧ w.cell? ⟨b, off + 3, none⟩ = some (.int .i64 s.b) ∧ wf64 s.id ∧ wf64 s.a
abbrev Stqs (w : World) (v : Value) (l : List Stq) : Prop := Slc 4 StqAt w v l
namespace Own
theorem cellsStq : Tryz.prog.cellsOf 27 = 4 := by kernel_rfl
set_option maxRecDepth 100000 in
theorem open_stqs {H : Type} {enc : TypeId × Value → H} {W : World} {base : Nat} {spare : Nat → Bool} {held : Bool} {a0 : Option Addr} {len cap : Nat} {d : DataW H} {p : List MemPlace}
    (h : DataW.Trod enc Tryz.prog W base spare held 22 (.slice a0 len cap) d p) : ∃ l, Stqs W (.slice a0 len cap) l := by
  obtain ⟨fuel, hf⟩ := h
  simp only [Value.cells] at hf
  obtain ⟨v', l, he, hl⟩ := Slc.of_trod (E := StqAt) Tryz.underlying22 cellsStq (by omega) (fun cs b off m x hlen hat ht => by
    obtain ⟨xs, n, _, _, _, hx, hg⟩ := DataW.trod_struct Tryz.underlying27 ht
    match cs, hlen with
    | [c0, c1, c2, c3], _ =>
      have g0 := hg 0 _ rfl
      have g1 := hg 1 _ rfl
      have g2 := hg 2 _ rfl
      have g3 := hg 3 _ rfl
      simp at hx
      rw [List.getElem?_eq_getElem (by omega)] at g0 g1 g2 g3
      have o0 : Tryz.prog.cellsOf 3 = 1 := by kernel_rfl
      simp [o0] at g0
      simp [o0] at g1
      simp [o0] at g2
      simp [o0] at g3
      obtain ⟨a, e0, _, wa⟩ := DataW.trod_int Tryz.underlying3 g0
      obtain ⟨b', e1, _, wb⟩ := DataW.trod_int Tryz.underlying3 g1
      obtain ⟨c, e2, _, wc⟩ := DataW.trod_int Tryz.underlying3 g2
      obtain ⟨d, e3, _, _⟩ := DataW.trod_int Tryz.underlying3 g3
      simp at e0 e1 e2 e3
      subst e0 e1 e2 e3
      exact ⟨⟨a, b', c, d⟩, by first | (have h9 := hat 0 (by omega); exact h9) | simpa using hat 0 (by omega), by first | (have h9 := hat 1 (by omega); exact h9) | simpa using hat 1 (by omega), by first | (have h9 := hat 2 (by omega); exact h9) | simpa using hat 2 (by omega), by first | (have h9 := hat 3 (by omega); exact h9) | simpa using hat 3 (by omega), bounds_i64 wb, bounds_i64 wc⟩) hf
  simp at he
  exact ⟨l, he ▸ hl⟩
end Own
end Go.Proofs.YtocicffmajbecaaGreat

namespace Go.Proofs.YtocicffmajbecaaGreat
open Go.ChangeShapes Go.WideShapes Go.ChangeAt Go.RowKit Go.Joins Go.Deep
set_option linter.unusedSimpArgs false

namespace kernelIDs
open Pk Kn
/-- What was given last. -/
def Inv (w0 : World) (b : Nat) (i : Nat) (last : Int) (wr : World) : Prop := ∃ k, S w0 b 4 3 k wr ∧ k.last = last ∧ 1 ≤ last ∧ last ≤ 1 + i
theorem Inv.ext {w0 w w' : World} {b i : Nat} {last : Int} (h : Inv w0 b i last w) (e : Ext w w') : Inv w0 b i last w' := by
  obtain ⟨k, h1, h2⟩ := h
  exact ⟨k, h1.ext e, h2⟩
theorem Inv.more {w0 w : World} {b i : Nat} {last : Int} (h : Inv w0 b i last w) : Inv w0 b (i + 1) last w := by
  obtain ⟨k, h1, h2, h3, h4⟩ := h
  exact ⟨k, h1, h2, h3, by omega⟩
theorem Inv.lt {w0 w : World} {b i : Nat} {last : Int} (h : Inv w0 b i last w) : b < w.heap.size := by
  obtain ⟨k, h1, -⟩ := h
  exact h1.lt
section
variable {w0 w : World} {b i : Nat} {last : Int}
theorem spawn (h : Inv w0 b i last w) (hi : i ≤ 100) (p wt : Int) :
    Calls Tryz.prog 12 #[.pointer (some ⟨b, 0, none⟩), .int .i64 p, .int .i64 wt] w fun e w' => (∃ n er, er ≠ 0 ∧ e = .returned (.tuple #[.int .i64 n, .iface 40 (.int .i64 er)]) ∧ Inv w0 b i last w') ∨ (e = .returned (.tuple #[.int .i64 (last + 1), .nilIface]) ∧ Inv w0 b (i + 1) (last + 1) w') := by
  obtain ⟨k, h1, rfl, h3, h4⟩ := h
  refine (k_spawn (p := p) (wt := wt) h1 (by omega) rfl rfl rfl).mono fun e w' ⟨q, s⟩ => ?_
  by_cases h0 : spawnE 4 k p wt = 0
  · right
    unfold spawnN spawnK at *
    rw [h0] at q
    rw [if_pos h0] at s
    exact ⟨q, _, s, rfl, by omega, by omega⟩
  · left
    unfold spawnN spawnK at *
    rw [if_neg h0, errV_pos h0] at q
    rw [if_neg h0] at s
    exact ⟨_, _, by omega, q, _, s, rfl, h3, h4⟩
theorem group (h : Inv w0 b i last w) (hi : i ≤ 100) (p wt : Int) :
    Calls Tryz.prog 13 #[.pointer (some ⟨b, 0, none⟩), .int .i64 p, .int .i64 wt] w fun e w' => (∃ n er, er ≠ 0 ∧ e = .returned (.tuple #[.int .i64 n, .iface 40 (.int .i64 er)]) ∧ Inv w0 b i last w') ∨ (e = .returned (.tuple #[.int .i64 (last + 1), .nilIface]) ∧ Inv w0 b (i + 1) (last + 1) w') := by
  obtain ⟨k, h1, rfl, h3, h4⟩ := h
  refine (k_group (p := p) (wt := wt) h1 (by omega) rfl rfl rfl).mono fun e w' ⟨q, s⟩ => ?_
  by_cases h0 : groupE 3 k p wt = 0
  · right
    unfold groupN groupK at *
    rw [h0] at q
    rw [if_pos h0] at s
    exact ⟨q, _, s, rfl, by omega, by omega⟩
  · left
    unfold groupN groupK at *
    rw [if_neg h0, errV_pos h0] at q
    rw [if_neg h0] at s
    exact ⟨_, _, by omega, q, _, s, rfl, h3, h4⟩
theorem exitLast (k : Kd) (id : Int) : (exitK k id).last = k.last := by unfold exitK; split <;> rfl
theorem exit (h : Inv w0 b i last w) (hi : i ≤ 100) (id : Int) :
    Calls Tryz.prog 14 #[.pointer (some ⟨b, 0, none⟩), .int .i64 id] w fun e w' => (∃ v, e = .returned v) ∧ Inv w0 b i last w' := by
  obtain ⟨k, h1, rfl, h3, h4⟩ := h
  exact (k_exit h1 (by omega) id).mono fun e w' ⟨q, s⟩ => ⟨⟨_, q⟩, _, s, exitLast k id, h3, h4⟩
theorem run (h : Inv w0 b i last w) :
    Calls Tryz.prog 15 #[.pointer (some ⟨b, 0, none⟩)] w fun e w' => (e = .returned (.tuple #[.int .i64 0, .bool false]) ∨ ∃ n, 1 ≤ n ∧ n ≤ last ∧ e = .returned (.tuple #[.int .i64 n, .bool true])) ∧ Inv w0 b i last w' := by
  obtain ⟨k, h1, rfl, h3, h4⟩ := h
  refine (k_run h1 (n := (runK k.l).1) (r := (runK k.l).2) rfl rfl).mono fun e w' ⟨q, s⟩ => ⟨?_, _, s, rfl, h3, h4⟩
  cases hr : (runK k.l).2 with
  | false =>
    left
    have hz := run_no (l := k.l) (n := (runK k.l).1) (by rw [← hr])
    rw [hr, hz] at q
    exact q
  | true =>
    right
    obtain ⟨e1, e2, -⟩ := run_st h1.ok (n := (runK k.l).1) (by rw [← hr])
    rw [hr] at q
    exact ⟨_, e1, e2, q⟩
end
set_option maxRecDepth 100000 in
set_option maxHeartbeats 8000000 in
theorem walk (vl : Value) (l : List Stq) (w0 : World) (hl : Stqs w0 vl l) :
    Calls Tryz.prog 3 #[vl] w0 (Yields w0 (.bool true)) := by
  obtain ⟨p, cap, rfl, hc1, hc2⟩ := hl.shape
  have HL := hid hl
  unfold maxLen at hc2
  have hqn := fun w => run_eql_nil_nil' (P := Tryz.prog) w Tryz.underlying29
  have hqi := fun x w => run_eql_iface_nil (P := Tryz.prog) w 40 x Tryz.underlying29
  clear hl
  by_cases hlen : 80 < l.length
  · have i1 : (80 : Int) < l.length := by omega
    clear hlen
    go_enter Tryz.func3, Tryz.ntmps3
    go_wp2_with (go_at_call 10; (with_reducible refine (known_any _).yields ?_); intro p0)
    go_returns
    exact ⟨rfl, (by repeat (first | exact Ext.refl _ | assumption | refine Ext.more ?_ _ | refine Ext.drew ?_ | refine Ext.drewN ?_ _ | refine Ext.alloc ?_ _ | refine Ext.setCell ?_ (by simp; try omega) _ | refine Ext.trans ?_ (by assumption)))⟩
  have i1 : decide ((80 : Int) < l.length) = false := by rw [decide_eq_false_iff_not]; omega
  have HLEN : Hid (l.length ≤ 80) := by unfold Hid; omega
  clear hlen
  go_enter Tryz.func3, Tryz.ntmps3
  go_wp2_with (first
    | (go_at_call 10; (with_reducible refine (known_any _).yields ?_); intro p0)
    | (go_at_call 11; (with_reducible refine (k_new w0 _ (by repeat (first | exact Ext.refl _ | assumption | refine Ext.more ?_ _ | refine Ext.drew ?_ | refine Ext.drewN ?_ _ | refine Ext.alloc ?_ _ | refine Ext.setCell ?_ (by simp; try omega) _ | refine Ext.trans ?_ (by assumption))) 4 3).mono ?_); rintro e v1 ⟨b, rfl, s1, x1⟩; have X1 := hid s1.xt; have I0 : Hid (Inv w0 b 0 1 v1) := ⟨k0, s1, rfl, by omega, by omega⟩; clear s1 x1))
  go_loopw [4, 5] (fun la s wr => ∃ (i : Nat) (last : Int), la = .int .i64 last ∧ s = .int .i64 i ∧ i ≤ l.length ∧ Hid (Inv w0 b i last wr)) (fun _ s _ => (l.length - (intOf s).toNat))
  case atStart => exact ⟨0, 1, rfl, rfl, Nat.zero_le _, I0.out⟩
  case round =>
    obtain ⟨i, last, rfl, rfl, hi, I⟩ := hrel
    have X := hid (show Ext w0 wr by obtain ⟨k, h, -⟩ := I.out; exact h.xt)
    by_cases hlt : i < l.length
    · obtain ⟨g, off, rfl, e0, e1, e2, e3, -, -⟩ := HL.out.at i hlt
      have f0 := X.out.cell e0
      have f1 := X.out.cell e1
      have f2 := X.out.cell e2
      have f3 := X.out.cell e3
      clear e0 e1 e2 e3
      have j1 : (i : Int) < l.length := by omega
      have HI80 : Hid (i ≤ 79) := by have := HLEN.out; unfold Hid; omega
      have hlb : 1 ≤ last ∧ last ≤ 1 + i := by
        obtain ⟨k, -, -, h1, h2⟩ := I.out
        exact ⟨h1, h2⟩
      have ew : IntKind.i64.wrap (last + 1) = last + 1 := IntWalk.i64_in _ (by have := HI80.out; omega)
      have en : (last + 1 != last + 1) = false := by simp
      have HLB := hid hlb
      have hbl := I.out.lt
      clear hlb
      generalize l[i] = s at *
      obtain ⟨t, id, a, bb⟩ := s
      have CS := hid (fun w' (e : Ext wr w') => spawn (I.out.ext e) (by have := HI80.out; omega) a bb)
      have CG := hid (fun w' (e : Ext wr w') => group (I.out.ext e) (by have := HI80.out; omega) a bb)
      have CE := hid (fun w' (e : Ext wr w') => exit (I.out.ext e) (by have := HI80.out; omega) id)
      have CR := hid (fun w' (e : Ext wr w') => run (I.out.ext e))
      by_cases c0 : t = 0
      · subst c0
        go_wp2_with fail
        (with_reducible refine (CS.out _ (by repeat (first | exact Ext.refl _ | assumption | refine Ext.more ?_ _ | refine Ext.drew ?_ | refine Ext.drewN ?_ _ | refine Ext.alloc ?_ _ | refine Ext.setCell ?_ (by simp; try omega) _ | refine Ext.trans ?_ (by assumption)))).mono ?_)
        rintro e v2 (⟨n, er, he, rfl, i2⟩ | ⟨rfl, i2⟩)
        · have I2 := hid i2.more
          clear i2
          go_wp2
          go_roundw
          case rel => exact ⟨i + 1, last, rfl, by go_num, by omega, I2.out.ext (by repeat (first | exact Ext.refl _ | assumption | refine Ext.more ?_ _ | refine Ext.drew ?_ | refine Ext.drewN ?_ _ | refine Ext.alloc ?_ _ | refine Ext.setCell ?_ (by simp; try omega) _ | refine Ext.trans ?_ (by assumption)))⟩
          case measure => simp [intOf]; omega
        · have I2 := hid i2
          clear i2
          go_wp2
          go_roundw
          case rel => exact ⟨i + 1, last + 1, rfl, by go_num, by omega, I2.out.ext (by repeat (first | exact Ext.refl _ | assumption | refine Ext.more ?_ _ | refine Ext.drew ?_ | refine Ext.drewN ?_ _ | refine Ext.alloc ?_ _ | refine Ext.setCell ?_ (by simp; try omega) _ | refine Ext.trans ?_ (by assumption)))⟩
          case measure => simp [intOf]; omega
      have b0 : (t == 0) = false := by simpa using c0
      by_cases c1 : t = 1
      · subst c1
        clear c0 b0
        go_wp2_with fail
        (with_reducible refine (CG.out _ (by repeat (first | exact Ext.refl _ | assumption | refine Ext.more ?_ _ | refine Ext.drew ?_ | refine Ext.drewN ?_ _ | refine Ext.alloc ?_ _ | refine Ext.setCell ?_ (by simp; try omega) _ | refine Ext.trans ?_ (by assumption)))).mono ?_)
        rintro e v2 (⟨n, er, he, rfl, i2⟩ | ⟨rfl, i2⟩)
        · have I2 := hid i2.more
          clear i2
          go_wp2
          go_roundw
          case rel => exact ⟨i + 1, last, rfl, by go_num, by omega, I2.out.ext (by repeat (first | exact Ext.refl _ | assumption | refine Ext.more ?_ _ | refine Ext.drew ?_ | refine Ext.drewN ?_ _ | refine Ext.alloc ?_ _ | refine Ext.setCell ?_ (by simp; try omega) _ | refine Ext.trans ?_ (by assumption)))⟩
          case measure => simp [intOf]; omega
        · have I2 := hid i2
          clear i2
          go_wp2
          go_roundw
          case rel => exact ⟨i + 1, last + 1, rfl, by go_num, by omega, I2.out.ext (by repeat (first | exact Ext.refl _ | assumption | refine Ext.more ?_ _ | refine Ext.drew ?_ | refine Ext.drewN ?_ _ | refine Ext.alloc ?_ _ | refine Ext.setCell ?_ (by simp; try omega) _ | refine Ext.trans ?_ (by assumption)))⟩
          case measure => simp [intOf]; omega
      have b1 : (t == 1) = false := by simpa using c1
      by_cases c2 : t = 2
      · subst c2
        clear c0 b0 c1 b1
        go_wp2_with fail
        (with_reducible refine (CE.out _ (by repeat (first | exact Ext.refl _ | assumption | refine Ext.more ?_ _ | refine Ext.drew ?_ | refine Ext.drewN ?_ _ | refine Ext.alloc ?_ _ | refine Ext.setCell ?_ (by simp; try omega) _ | refine Ext.trans ?_ (by assumption)))).mono ?_)
        rintro e v2 ⟨⟨r, rfl⟩, i2⟩
        have I2 := hid i2.more
        clear i2
        go_wp2
        go_roundw
        case rel => exact ⟨i + 1, last, rfl, by go_num, by omega, I2.out.ext (by repeat (first | exact Ext.refl _ | assumption | refine Ext.more ?_ _ | refine Ext.drew ?_ | refine Ext.drewN ?_ _ | refine Ext.alloc ?_ _ | refine Ext.setCell ?_ (by simp; try omega) _ | refine Ext.trans ?_ (by assumption)))⟩
        case measure => simp [intOf]; omega
      have b2 : (t == 2) = false := by simpa using c2
      by_cases c8 : t = 8
      · subst c8
        clear c0 b0 c1 b1 c2 b2
        · go_wp2_with fail
          (with_reducible refine (CR.out _ (by repeat (first | exact Ext.refl _ | assumption | refine Ext.more ?_ _ | refine Ext.drew ?_ | refine Ext.drewN ?_ _ | refine Ext.alloc ?_ _ | refine Ext.setCell ?_ (by simp; try omega) _ | refine Ext.trans ?_ (by assumption)))).mono ?_)
          rintro e v2 ⟨(rfl | ⟨n, n1, n2, rfl⟩), i2⟩
          · have I2 := hid i2.more
            clear i2
            go_wp2
            go_roundw
            case rel => exact ⟨i + 1, last, rfl, by go_num, by omega, I2.out.ext (by repeat (first | exact Ext.refl _ | assumption | refine Ext.more ?_ _ | refine Ext.drew ?_ | refine Ext.drewN ?_ _ | refine Ext.alloc ?_ _ | refine Ext.setCell ?_ (by simp; try omega) _ | refine Ext.trans ?_ (by assumption)))⟩
            case measure => simp [intOf]; omega
          · have I2 := hid i2.more
            clear i2
            have m1 : decide (n < 1) = false := by rw [decide_eq_false_iff_not]; omega
            have m2 : decide (last < n) = false := by rw [decide_eq_false_iff_not]; omega
            clear n1 n2
            go_wp2
            go_roundw
            case rel => exact ⟨i + 1, last, rfl, by go_num, by omega, I2.out.ext (by repeat (first | exact Ext.refl _ | assumption | refine Ext.more ?_ _ | refine Ext.drew ?_ | refine Ext.drewN ?_ _ | refine Ext.alloc ?_ _ | refine Ext.setCell ?_ (by simp; try omega) _ | refine Ext.trans ?_ (by assumption)))⟩
            case measure => simp [intOf]; omega
      have b8 : (t == 8) = false := by simpa using c8
      by_cases c9 : t = 9
      · subst c9
        clear c0 b0 c1 b1 c2 b2 c8 b8
        · go_wp2_with fail
          (with_reducible refine (CR.out _ (by repeat (first | exact Ext.refl _ | assumption | refine Ext.more ?_ _ | refine Ext.drew ?_ | refine Ext.drewN ?_ _ | refine Ext.alloc ?_ _ | refine Ext.setCell ?_ (by simp; try omega) _ | refine Ext.trans ?_ (by assumption)))).mono ?_)
          rintro e v2 ⟨(rfl | ⟨n, n1, n2, rfl⟩), i2⟩
          · have I2 := hid i2.more
            clear i2
            go_wp2
            go_roundw
            case rel => exact ⟨i + 1, last, rfl, by go_num, by omega, I2.out.ext (by repeat (first | exact Ext.refl _ | assumption | refine Ext.more ?_ _ | refine Ext.drew ?_ | refine Ext.drewN ?_ _ | refine Ext.alloc ?_ _ | refine Ext.setCell ?_ (by simp; try omega) _ | refine Ext.trans ?_ (by assumption)))⟩
            case measure => simp [intOf]; omega
          · have I2 := hid i2.more
            clear i2
            have m1 : decide (n < 1) = false := by rw [decide_eq_false_iff_not]; omega
            have m2 : decide (last < n) = false := by rw [decide_eq_false_iff_not]; omega
            clear n1 n2
            go_wp2
            go_roundw
            case rel => exact ⟨i + 1, last, rfl, by go_num, by omega, I2.out.ext (by repeat (first | exact Ext.refl _ | assumption | refine Ext.more ?_ _ | refine Ext.drew ?_ | refine Ext.drewN ?_ _ | refine Ext.alloc ?_ _ | refine Ext.setCell ?_ (by simp; try omega) _ | refine Ext.trans ?_ (by assumption)))⟩
            case measure => simp [intOf]; omega
      have b9 : (t == 9) = false := by simpa using c9
      have I2 := hid I.out.more
      clear c0 c1 c2 c8 c9 CS CG CE CR
      go_wp2
      go_roundw
      case rel => exact ⟨i + 1, last, rfl, by go_num, by omega, I2.out.ext (by repeat (first | exact Ext.refl _ | assumption | refine Ext.more ?_ _ | refine Ext.drew ?_ | refine Ext.drewN ?_ _ | refine Ext.alloc ?_ _ | refine Ext.setCell ?_ (by simp; try omega) _ | refine Ext.trans ?_ (by assumption)))⟩
      case measure => simp [intOf]; omega
    · have HX := hid X.out
      go_wp2
      go_returns
      exact ⟨rfl, HX.out⟩
set_option linter.unusedVariables false in
set_option maxRecDepth 100000 in
theorem lifted (os : Os) (started : os.Started) (H : Type) (enc : TypeId × Value → H) :
    ReturnsInHanded {} Tryz.checked os 3 .any (Rows.kernelIDsSpec.pre6 enc Tryz.prog Tryz.f3 Rows.kernelIDsRow.domain false) (Rows.kernelIDsSpec.post enc Tryz.prog Tryz.f3 false true false false) := by
  refine returnsInHanded_of_change (C := Tryz.checked) Own.own started (by kernel_rfl) Tryz.func3
    (ChangeSpec.witness6 (enc := enc) (C := Tryz.checked) false ⟨#[], #[.slice none 0 0], []⟩ 8 (by kernel_rfl) (by kernel_rfl) (by kernel_rfl) (by kernel_rfl)) ?_
  intro W base args ds gs before hval0 hW hcnd _
  have hval : ∀ (j : Nat) t v, Tryz.f3.params[j]? = some t → args[j]? = some v → Value.okWide Tryz.prog W .any base t v := hval0
  have hW' := hW
  obtain ⟨p, q, hA0, hV, rfl, hfz, hnd⟩ := hW
  have hA : DataW.TrodAll enc Tryz.prog W 0 (fun _ => true) true Tryz.f3.params.toList args.toList ds p := hA0
  rw [Tryz.params3] at hA hval
  obtain ⟨v0, vs0, d0, ds0, p0, q0, hargs, rfl, rfl, h0, r0⟩ := trodAll_cons hA
  obtain ⟨rfl, rfl, rfl⟩ := trodAll_nil r0
  obtain rfl : args = #[v0] := by cases args; simp_all
  obtain ⟨rfl, rfl⟩ := trodVars_none hV
  have k0 := h0
  have lt0 : ∀ x ∈ p0, x.block < W.heap.size := by obtain ⟨m, hm⟩ := k0; exact DataW.trod_lt m _ _ _ hm
  obtain ⟨a0, len0, cap0, rfl⟩ := okWide_slice Tryz.underlying22 (hval 0 22 v0 rfl rfl)
  obtain ⟨l, hl⟩ := Own.open_stqs h0
  clear hA0 hval0
  refine (walk _ l W hl).mono fun e W' ⟨he, hx⟩ => ?_
  subst he
  exact ⟨_, rfl, _, _, _, [], _, [], hW', trodAll_mk1 (shut_bool Tryz.underlying4 _), (trodAll_cons_mk (Below.trod Own.laidOut (by kernel_rfl) (of_decide_eq_true (by kernel_rfl)) k0 hx.below lt0) trodAll_mk0), rfl, hx.below.frame _, fun h => by cases h⟩

theorem proved : Rows.KernelIDsSaid :=
  OpenClaim.holds_of_wide 3 Tryz.f3 rfl rfl rfl rfl rfl rfl rfl ⟨rfl, rfl, rfl, rfl, rfl⟩ rfl rfl rfl rfl rfl (by kernel_rfl) Tryz.func3 (by kernel_rfl)
    (of_decide_eq_true (by kernel_rfl)) (by unfold Func.isWrapper; first | (rw [if_pos (by decide +kernel)]; kernel_rfl) | (rw [if_neg (by decide +kernel)]; exact ⟨rfl, rfl⟩))
    (fun os started H enc _ => lifted os started H enc)

end kernelIDs
end Go.Proofs.YtocicffmajbecaaGreat
