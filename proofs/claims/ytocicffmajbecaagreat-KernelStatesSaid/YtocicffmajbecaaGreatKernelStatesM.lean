/- KernelStates: a thread is ready, sleeps, or waits, one of these alone; woken by what it waits for alone: the law answers true. No conditions. -/
import Derived.Test.YtocicffmajbecaaGreatPkAll
import Derived.WalkKit
import Derived.WalkSpells
import Derived.WalkLawsBesides
import Derived.Handy
import Derived.Test.YtocicffmajbecaaGreatErr
import Derived.Test.YtocicffmajbecaaGreatOwn2
import Derived.IntWalk
namespace Go.Proofs.YtocicffmajbecaaGreat
open Go.RowKit
set_option linter.unusedSimpArgs false
namespace Pk
open Kn
theorem thrPos {l : List Nd} (hw : Wf l) {n : Nd} (hn : n ∈ l) (ht : n.thr = true) : 0 < n.id := by
  have h0 := (hw.sk.clo n hn).1
  rcases Int.lt_or_eq_of_le h0 with h | h
  · exact h
  · obtain ⟨r, hr, hr0, hrp, -⟩ := hw.root
    have := par_thr hw hn ht
    rw [uniqU hw.sk.ids hn hr (by omega)] at this
    omega
theorem run_st {th gr : Int} {k : Kd} (hk : KOk th gr k) {n : Int} (h : runK k.l = (n, true)) : 1 ≤ n ∧ n ≤ k.last ∧ stU k.l n = some true := by
  obtain ⟨r, hr, hr0, -, -⟩ := hk.wf.root
  cases hrd : r.rdy with
  | false =>
    have := hk.wf.run_none hr hr0 hrd
    simp [runK, this] at h
  | true =>
    obtain ⟨R, hR, -, t, ht, e1, e2, e3⟩ := hk.wf.run hr hr0 hrd
    have hn : R.1 = n := by
      simp only [runK, hR] at h
      exact congrArg Prod.fst h
    obtain ⟨m, hm, ek⟩ := (run_sim 6 hR).back ht
    obtain ⟨k1, k2, k3, k4, k5⟩ := keyR_eq ek
    have hid : m.id = n := by rw [k1, e1, hn]
    have hp := thrPos hk.wf hm (k3.trans e2)
    have hl := hk.low m hm
    exact ⟨by omega, by omega, (stU_some hk.wf.sk.ids).2 ⟨m, hm, hid, k3.trans e2, k5.trans e3⟩⟩
theorem run_no {l : List Nd} {n : Int} (h : runK l = (n, false)) : n = 0 := by
  unfold runK at h
  cases hR : runU 6 l 0 with
  | none => rw [hR] at h; exact (congrArg Prod.fst h).symm
  | some R => rw [hR] at h; cases h
end Pk
end Go.Proofs.YtocicffmajbecaaGreat

namespace Go.Proofs.YtocicffmajbecaaGreat
open Go.RowKit
set_option maxRecDepth 100000
set_option linter.unusedSimpArgs false
namespace Pk
open Rw (En)
open Kn

def rdN (l : List Nd) (id : Int) : Bool := match getU l id with
  | none => false
  | some n => n.rdy
theorem rdN_of {l : List Nd} {id : Int} {r : Bool} (h : stU l id = some r) : rdN l id = r := by
  unfold stU at h
  unfold rdN
  cases hg : getU l id with
  | none => rw [hg] at h; cases h
  | some n =>
    rw [hg] at h
    cases ht : n.thr <;> simp [ht] at h
    exact h
section
variable {w0 w w' : World} {b : Nat} {th gr : Int} {k : Kd}
set_option maxHeartbeats 4000000 in
theorem readyL_any (h : S w0 b th gr k w) (id : Int) : Calls Tryz.prog 19 #[.pointer (some ⟨b, 0, none⟩), .int .i64 id] w (Yields w (.bool (rdN k.l id))) := by
  have CN := hid (fun w' (e : Ext w w') => k_nodes (h.ext e))
  have hb := h.lt
  have hlen := h.ok.wf.sk.len
  have HI := hid h.ok.wf.sk.ids
  clear h
  generalize k.l = l at *
  go_enter Tryz.func19, Tryz.ntmps19
  go_wp2_with fail
  (with_reducible refine (CN.out _ (by repeat (first | exact Ext.refl _ | assumption | refine Ext.more ?_ _ | refine Ext.drew ?_ | refine Ext.drewN ?_ _ | refine Ext.alloc ?_ _ | refine Ext.setCell ?_ (by simp; try omega) _ | refine Ext.trans ?_ (by assumption)))).mono ?_)
  rintro e w1 ⟨vn, rfl, hx1, hn⟩
  obtain ⟨p, cap, rfl, hc1, hc2⟩ := hn.shape
  have HN := hid hn
  have HX1 := hid hx1
  rw [List.length_map] at hc1
  unfold maxLen at hc2
  clear hn hx1
  rw [List.length_map]
  go_wp2_with fail
  go_loopw [6] (fun s wr => ∃ i : Nat, s = .int .i64 i ∧ i ≤ l.length ∧ Ext w1 wr ∧ Hid (∀ n ∈ l.take i, n.id ≠ id)) (fun s _ => (l.length - (intOf s).toNat))
  case atStart => exact ⟨0, rfl, Nat.zero_le _, Ext.refl _, fun n hn => by simp at hn⟩
  case round =>
    obtain ⟨i, rfl, hi, X, hno⟩ := hrel
    by_cases hlt : i < l.length
    · obtain ⟨g, off, rfl, e0, -, -, -, -, e5⟩ := HN.out.at i (by simpa using hlt)
      rw [List.getElem_map] at e0 e5
      simp only [Nd.nn] at e0 e5
      have f0 := X.cell e0
      have f5 := X.cell e5
      clear e0 e5
      have i1 : (i : Int) < l.length := by omega
      have HM : Hid (l[i] ∈ l) := List.getElem_mem hlt
      have HT : Hid (l.take (i + 1) = l.take i ++ [l[i]]) := List.take_succ_eq_append_getElem hlt
      generalize l[i] = n at *
      by_cases he : n.id = id
      · have j1 : (n.id == id) = true := by simpa using he
        have HR : Hid (rdN l id = n.rdy) := by
          unfold rdN Hid
          rw [← he, getU_of HI.out HM.out]
        clear he
        go_wp2
        go_returns
        exact ⟨by rw [HR.out]; rfl, (HX1.out.trans X).trans (by repeat (first | exact Ext.refl _ | assumption | refine Ext.more ?_ _ | refine Ext.drew ?_ | refine Ext.drewN ?_ _ | refine Ext.alloc ?_ _ | refine Ext.setCell ?_ (by simp; try omega) _ | refine Ext.trans ?_ (by assumption)))⟩
      · have j1 : (n.id == id) = false := by simpa using he
        have HS : Hid (∀ m ∈ l.take (i + 1), m.id ≠ id) := fun m hm => by
          rw [HT.out] at hm
          rcases List.mem_append.1 hm with hm | hm
          · exact hno.out m hm
          · rw [List.mem_singleton.1 hm]; exact he
        clear he
        go_wp2
        go_roundw
        case rel => exact ⟨i + 1, by go_num, by omega, X, HS.out⟩
        case measure => simp [intOf]; omega
    · have HR : Hid (rdN l id = false) := by
        have hn := hno.out
        rw [List.take_of_length_le (by omega)] at hn
        unfold rdN Hid
        rw [getU_none.2 hn]
      go_wp2
      go_returns
      exact ⟨by rw [HR.out]; rfl, HX1.out.trans X⟩
theorem readyL_to (h : S w0 b th gr k w) {id : Int} {r : Bool} (e : rdN k.l id = r) : Calls Tryz.prog 19 #[.pointer (some ⟨b, 0, none⟩), .int .i64 id] w (Yields w (.bool r)) := e ▸ readyL_any h id
end
end Pk
end Go.Proofs.YtocicffmajbecaaGreat

namespace Go.Proofs.YtocicffmajbecaaGreat
open Go.RowKit
set_option maxRecDepth 100000
set_option linter.unusedSimpArgs false
namespace Pk
open Rw (En)
open Kn

def q1 : Kd := runK' k0
def q2 : Kd := spawnK 2 q1 0 2
def q3 : Kd := groupK 1 q2 0 1
def q4 : Kd := sleepK q3 1 9
def q5 : Kd := waitK q4 2 0
def q6 : Kd := signalK q5 0
def q7 : Kd := runK' q6
def q8 : Kd := { q7 with l := wakes q7.l [1], M := Ti.sleepOn 9 q7.M }
theorem shapeOf {w : World} {base T n m : Nat} {v : Value} {xs : List Value} (h : w.ownsRow base T n v m xs) : ∃ p c, v = .slice p m c := by
  rcases h.2 with ⟨rfl, rfl⟩ | ⟨g, cap, cur, rfl, _⟩
  · exact ⟨none, 0, rfl⟩
  · exact ⟨_, cap, rfl⟩
theorem due_one {k : Kd} {tick id u : Int} (h : k.M = [(id, u)]) (hu : u ≤ tick) : Ti.dueIds tick k.M = [id] := by
  unfold Ti.dueIds
  refine Ti.sortI_of ?_ (List.pairwise_singleton _ _)
  unfold Ti.isDue
  rw [h]
  simp [hu]
structure QF : Prop where
  r0 : runK k0.l = (1, true)
  s1 : spawnE 2 q1 0 2 = 0
  l1 : q1.last = 1
  s2 : spawnE 2 q2 0 2 = 14
  l2 : q2.last = 2
  g2 : groupE 1 q2 0 1 = 0
  l3 : q3.last = 3
  y3 : rdyE q3 1 = 0
  l4 : q4.last = 3
  w4 : (waitA q4 2 0).on = false ∧ (waitA q4 2 0).err = 0
  r5 : rootR q5.l = false
  i5 : (Ob.sigR 0 q5.c q5.W).err = 0
  r6 : runK q6.l = (2, true)
  m7 : q7.M = [(1, 9)]
  u8 : stU q8.l 7 = none
  t8 : (tids q8.l).length = 2
  n8 : q8.l.length = 4
theorem qf : QF := by
  constructor
  all_goals first | kernel_rfl | (constructor <;> kernel_rfl) | decide
set_option maxHeartbeats 8000000 in
theorem known_any (w : World) : Calls Tryz.prog 10 #[] w (Yields w (.bool true)) := by
  have F := hid qf
  have hqn := fun w => run_eql_nil_nil' (P := Tryz.prog) w Tryz.underlying29
  have hnn := fun w => run_neq_nil_nil' (P := Tryz.prog) w Tryz.underlying29
  go_enter Tryz.func10, Tryz.ntmps10
  go_wp2_with fail
  (with_reducible refine (k_new w w (Ext.refl w) 2 1).mono ?_)
  rintro e v1 ⟨b, rfl, s1, -⟩
  rw [show max (1 : Int) (min 2 8) = 2 by decide, show max (0 : Int) (min 1 4) = 1 by decide] at s1
  go_wp2_with fail
  (with_reducible refine (k_run (k' := q1) s1 F.out.r0 rfl).mono ?_)
  rintro e v2 ⟨rfl, s2⟩
  clear s1
  go_wp2_with fail
  (with_reducible refine (spawn_ok (p := 0) (wt := 2) (k' := q2) s2 (by rw [F.out.l1]; decide) F.out.s1 (n := 2) (by rw [F.out.l1]; decide) rfl).mono ?_)
  rintro e v3 ⟨rfl, s3⟩
  clear s2
  go_wp2_with fail
  (with_reducible refine (spawn_er (p := 0) (wt := 2) s3 (by rw [F.out.l2]; decide) F.out.s2 (by decide)).mono ?_)
  rintro e v4 ⟨rfl, s4⟩
  clear s3
  go_wp2_with fail
  (with_reducible refine (group_ok (p := 0) (wt := 1) (k' := q3) s4 (by rw [F.out.l2]; decide) F.out.g2 (n := 3) (by rw [F.out.l2]; decide) rfl).mono ?_)
  rintro e v5 ⟨rfl, s5⟩
  clear s4
  go_wp2_with fail
  (with_reducible refine (sleep_ok (id := 1) (u := 9) (k' := q4) s5 (by rw [F.out.l3]; decide) F.out.y3 rfl).mono ?_)
  rintro e v6 ⟨rfl, s6⟩
  clear s5
  go_wp2_with fail
  (with_reducible refine (wait_ok (id := 2) (o := 0) (k' := q5) s6 (by rw [F.out.l4]; decide) F.out.w4.1 F.out.w4.2 rfl).mono ?_)
  rintro e v7 ⟨rfl, s7⟩
  clear s6
  go_wp2_with fail
  (with_reducible refine (k_runnable s7 F.out.r5).mono ?_)
  rintro e v8 ⟨rfl, x8⟩
  have s8 := s7.ext x8
  clear s7 x8
  go_wp2_with fail
  (with_reducible refine (signal_ok (o := 0) (k' := q6) s8 F.out.i5 rfl).mono ?_)
  rintro e v9 ⟨rfl, s9⟩
  clear s8
  go_wp2_with fail
  (with_reducible refine (k_run (k' := q7) s9 F.out.r6 rfl).mono ?_)
  rintro e v10 ⟨rfl, s10⟩
  clear s9
  have hd : Ti.dueIds 9 q7.M = [1] := due_one F.out.m7 (by decide)
  have h8 : wakeK q7 9 = q8 := by
    unfold wakeK
    rw [hd]
    rfl
  go_wp2_with fail
  (with_reducible refine (k_wake (k' := q8) s10 hd h8).mono ?_)
  rintro e v11 ⟨vd, rfl, s11, o11⟩
  clear s10 hd h8
  go_wp2_with fail
  (with_reducible refine (exit_er (id := 7) s11 F.out.u8).mono ?_)
  rintro e v12 ⟨rfl, x12⟩
  have s12 := s11.ext x12
  have o12 := owns_ext o11 x12
  clear s11 o11
  rcases o12.2 with ⟨e, e0⟩ | ⟨g', cap', cur, rfl, e2, e3, e4, e5, e6, e7⟩
  · cases e0
  have c0 : v12.cell? ⟨g', 0, none⟩ = some (.int .i64 1) := by
    have : ([Value.int .i64 1])[0]? = some (.int .i64 1) := rfl
    have e7 : cur.toList.take 1 = [Value.int .i64 1] := e7
    rw [← e7, List.getElem?_take, if_pos (by decide)] at this
    simp only [World.cell?, e3]
    simpa using this
  have hg := (World.ownsRow.lt o12 g' rfl).2
  clear o12 e2 e3 e4 e5 e6 e7
  go_wp2_with (first
    | (go_at_call 18; (with_reducible refine (is_errno_to (r := true) rfl _).yields ?_); intro p1))
  (with_reducible refine (k_threads (s12.ext (by repeat (first | exact Ext.refl _ | assumption | refine Ext.more ?_ _ | refine Ext.drew ?_ | refine Ext.drewN ?_ _ | refine Ext.alloc ?_ _ | refine Ext.setCell ?_ (by simp; try omega) _ | refine Ext.trans ?_ (by assumption))))).mono ?_)
  rintro e v13 ⟨vt, rfl, x13, o13⟩
  obtain ⟨p3, c3, rfl⟩ : ∃ p c, vt = .slice p 2 c := by
    have := shapeOf o13
    rwa [F.out.t8] at this
  have X13 := hid x13
  clear o13 x13
  go_wp2_with fail
  (with_reducible refine (k_nodes ((s12.ext (by repeat (first | exact Ext.refl _ | assumption | refine Ext.more ?_ _ | refine Ext.drew ?_ | refine Ext.drewN ?_ _ | refine Ext.alloc ?_ _ | refine Ext.setCell ?_ (by simp; try omega) _ | refine Ext.trans ?_ (by assumption)))).ext X13.out)).mono ?_)
  rintro e v14 ⟨vn, rfl, x14, o14⟩
  obtain ⟨p4, c4, rfl⟩ : ∃ p c, vn = .slice p 4 c := by
    obtain ⟨p, c, e, -, -⟩ := o14.shape
    rw [List.length_map, F.out.n8] at e
    exact ⟨p, c, e⟩
  have S14 := hid (((s12.ext (by repeat (first | exact Ext.refl _ | assumption | refine Ext.more ?_ _ | refine Ext.drew ?_ | refine Ext.drewN ?_ _ | refine Ext.alloc ?_ _ | refine Ext.setCell ?_ (by simp; try omega) _ | refine Ext.trans ?_ (by assumption)))).ext X13.out).ext x14)
  clear s12 o14 x14 X13
  go_wp2
  go_returns
  exact ⟨rfl, S14.out.xt.trans (by repeat (first | exact Ext.refl _ | assumption | refine Ext.more ?_ _ | refine Ext.drew ?_ | refine Ext.drewN ?_ _ | refine Ext.alloc ?_ _ | refine Ext.setCell ?_ (by simp; try omega) _ | refine Ext.trans ?_ (by assumption)))⟩
end Pk
end Go.Proofs.YtocicffmajbecaaGreat

namespace Go.Proofs.YtocicffmajbecaaGreat
open Go.RowKit
set_option linter.unusedSimpArgs false
namespace Pk
open Rw (En)
open Kn
theorem due_none {M : List En} {tick : Int} (h : ∀ e ∈ M, tick < e.2) : Ti.dueIds tick M = [] := by
  unfold Ti.dueIds
  refine Ti.sortI_of ?_ List.Pairwise.nil
  unfold Ti.isDue
  have : (M.filter fun e => decide (e.2 ≤ tick)) = [] := List.filter_eq_nil_iff.2 fun e he => by
    have := h e he
    simp; omega
  rw [this]
  simp
theorem sig_none {k : Kd} {x : Nat} (hx : x < 4) (hW : k.W x = []) : (Ob.sigR x k.c k.W).err = 0 ∧ signalK k x = { k with c := Ob.upd k.c x (min (k.c x + 1) 255) } := by
  rcases signal_cases k x with ⟨h, -⟩ | ⟨i, hi, e, h1, h2, h3⟩ | ⟨i, id, rest, hi, e, h1, -⟩
  · omega
  · obtain rfl : x = i := by omega
    exact ⟨by rw [h2], h3⟩
  · obtain rfl : x = i := by omega
    rw [hW] at h1; cases h1
theorem sig_one {k : Kd} {x : Nat} {id : Int} {rest : List Int} (hx : x < 4) (hW : k.W x = id :: rest) : (Ob.sigR x k.c k.W).err = 0 ∧ signalK k x = { k with l := rdyL k.l id true, W := Ob.upd k.W x rest } := by
  rcases signal_cases k x with ⟨h, -⟩ | ⟨i, hi, e, h1, h2, h3⟩ | ⟨i, id', rest', hi, e, h1, h2, h3⟩
  · omega
  · obtain rfl : x = i := by omega
    rw [hW] at h1; cases h1
  · obtain rfl : x = i := by omega
    rw [hW] at h1
    injection h1 with e1 e2
    subst e1 e2
    exact ⟨by rw [h2], h3⟩
/-- One who is ready begins to wait. -/
theorem wait_new {th gr : Int} {k : Kd} (hk : KOk th gr k) {id : Int} {x : Nat} (hx : x < 4) (hs : stU k.l id = some true) (hc : k.c x = 0) : (waitA k id x).on = false ∧ (waitA k id x).err = 0 ∧ waitK k id x = { k with l := rdyL k.l id false, W := Ob.upd k.W x (k.W x ++ [id]) } := by
  rcases wait_cases hk id x with ⟨e, h0, h1, h2, h3, -⟩ | ⟨i, hi, e, -, h1, -⟩ | ⟨i, hi, e, -, h1, h2, h3⟩
  · exfalso
    have h10 : e = 10 := h1.resolve_left fun e13 => (h2.1 e13) hs
    subst h10
    unfold waitA at h3
    rw [if_pos (rdyE_zero.2 hs)] at h3
    unfold Ob.waitR at h3
    rw [if_neg (by omega)] at h3
    split at h3
    · cases h3
    · split at h3 <;> cases h3
  · obtain rfl : x = i := by omega
    omega
  · obtain rfl : x = i := by omega
    exact ⟨by rw [h2], by rw [h2], h3⟩
/-- One who is ready goes on. -/
theorem wait_go {th gr : Int} {k : Kd} (hk : KOk th gr k) {id : Int} {x : Nat} (hx : x < 4) (hs : stU k.l id = some true) (hc : 0 < k.c x) : (waitA k id x).on = true ∧ (waitA k id x).err = 0 ∧ waitK k id x = { k with c := Ob.upd k.c x (k.c x - 1) } := by
  rcases wait_cases hk id x with ⟨e, h0, h1, h2, h3, -⟩ | ⟨i, hi, e, -, h1, h2, h3⟩ | ⟨i, hi, e, -, h1, -⟩
  · exfalso
    have h10 : e = 10 := h1.resolve_left fun e13 => (h2.1 e13) hs
    subst h10
    unfold waitA at h3
    rw [if_pos (rdyE_zero.2 hs)] at h3
    unfold Ob.waitR at h3
    rw [if_neg (by omega)] at h3
    split at h3
    · cases h3
    · split at h3 <;> cases h3
  · obtain rfl : x = i := by omega
    exact ⟨by rw [h2], by rw [h2], h3⟩
  · obtain rfl : x = i := by omega
    omega
theorem rdyE_13 {k : Kd} {id : Int} (h : stU k.l id ≠ some true) : rdyE k id = 13 := by
  unfold rdyE
  rw [if_neg h]
theorem exit_zero {k : Kd} {id : Int} {r : Bool} (h : stU k.l id = some r) : exitE k id = 0 ∧ exitK k id = { k with l := remL k.l id, M := Ti.others id k.M, W := Ob.others id k.W } := by
  have e1 : exitE k id = 0 := by unfold exitE; rw [if_neg (by rw [h]; simp)]
  exact ⟨e1, by unfold exitK; rw [if_pos e1]⟩
end Pk
end Go.Proofs.YtocicffmajbecaaGreat

namespace Go.Proofs.YtocicffmajbecaaGreat
open Go.ChangeShapes Go.WideShapes Go.ChangeAt Go.RowKit Go.Joins Go.Deep
set_option linter.unusedSimpArgs false
set_option maxRecDepth 100000

namespace kernelStates
open Pk Kn
def kA : Kd := spawnK 3 k0 0 3
def LS : List Nd := rdyL kA.l 2 false
def kS (t : Int) : Kd := { kA with l := LS, M := [(2, t)] }
def kW (x : Nat) : Kd := { kA with l := LS, W := Ob.upd (fun _ => []) x [2] }
structure Fa : Prop where
  s0 : spawnE 3 k0 0 3 = 0
  la : kA.last = 2
  ya : rdyE kA 2 = 0
  ta : stU kA.l 2 = some true
  ts : stU LS 2 = some false
  ns : rdN LS 2 = false
  nr : rdN (rdyL LS 2 true) 2 = true
  nw : rdN (wakes LS [2]) 2 = true
  tx : (tids (remL LS 2)).length = 1
theorem fa : Fa := by
  constructor
  all_goals first | kernel_rfl | decide
theorem eS (t : Int) : sleepK kA 2 t = kS t := by
  unfold sleepK
  rw [if_pos fa.ya]
  rfl
theorem eW (h : KOk 3 0 kA) {x : Nat} (hx : x < 4) : (waitA kA 2 x).on = false ∧ (waitA kA 2 x).err = 0 ∧ waitK kA 2 x = kW x := by
  obtain ⟨h1, h2, h3⟩ := wait_new h hx fa.ta (show kA.c x = 0 from rfl)
  exact ⟨h1, h2, h3.trans rfl⟩
theorem pre_end : True := trivial
set_option maxHeartbeats 8000000 in
theorem walk00 (how by' ob : Int) (t x y : Nat) (hh : how % 2 = 0) (hb : by' % 4 = 0) (ho : ob % 4 = x) (hx : x < 4) (ht : t < 256) (hy : y < 4) (hyx : y ≠ x) (hxy : ((x : Int) + 1) % 4 = y) (b0 : 0 ≤ how) (b1 : 0 ≤ by') (b2 : 0 ≤ ob) (w0 : World) :
    Calls Tryz.prog 4 #[.int .u8 how, .int .u8 by', .int .u8 ob, .int .u8 t] w0 (Yields w0 (.bool true)) := by
  have hqn := fun w => run_eql_nil_nil' (P := Tryz.prog) w Tryz.underlying29
  have hnn := fun w => run_neq_nil_nil' (P := Tryz.prog) w Tryz.underlying29
  have F := hid fa
  have HX := hid hx
  have HY := hid hy
  have HYX := hid hyx
  have et : IntKind.i64.wrap ((t : Int) - 1) = (t : Int) - 1 := IntWalk.i64_in _ (by omega)
  have ex : IntKind.i64.wrap ((x : Int) + 1) = (x : Int) + 1 := IntWalk.i64_in _ (by omega)
  have px : (0 : Int) ≤ (x : Int) + 1 := by omega
  have HLA : Hid ((kS t).last ≤ 1000000) := by show kA.last ≤ 1000000; rw [F.out.la]; decide
  have HYE : Hid (rdyE (kS t) 2 = 13) := rdyE_13 (by show stU LS 2 ≠ some true; rw [F.out.ts]; decide)
  have HRN : Hid (rdN (kS t).l 2 = false) := F.out.ns
  have HAL : Hid (kA.last ≤ 1000000) := by unfold Hid; rw [F.out.la]; decide
  have HD : Ti.dueIds t (kS t).M = [2] := due_one (u := t) rfl (Int.le_refl _)
  have HK : wakeK (kS t) t = { (kS t) with l := wakes LS [2], M := Ti.sleepOn t (kS t).M } := by unfold wakeK; rw [HD]; rfl
  have HR : rdN (wakes LS [2]) 2 = true := F.out.nw
  have HD := hid HD
  have HK := hid HK
  have HR := hid HR
  clear hx hy hyx
  go_enter Tryz.func4, Tryz.ntmps4
  go_wp2_with (first
    | (go_at_call 10; (with_reducible refine (known_any _).yields ?_); intro p0)
    | (go_at_call 11; (with_reducible refine (k_new w0 _ (by repeat (first | exact Ext.refl _ | assumption | refine Ext.more ?_ _ | refine Ext.drew ?_ | refine Ext.drewN ?_ _ | refine Ext.alloc ?_ _ | refine Ext.setCell ?_ (by simp; try omega) _ | refine Ext.trans ?_ (by assumption))) 3 0).mono ?_); rintro e v1 ⟨b, rfl, s1, x1⟩; rw [show max (1 : Int) (min 3 8) = 3 by decide, show max (0 : Int) (min 0 4) = 0 by decide] at s1; clear x1)
    | (go_at_call 12; (with_reducible refine (spawn_ok (p := 0) (wt := 3) (k' := kA) s1 (by decide) F.out.s0 (n := 2) (by decide) rfl).mono ?_); rintro e v2 ⟨rfl, s2⟩; clear s1)
    | (go_at_call 16; (with_reducible refine (sleep_ok (k' := kS t) s2 HAL.out F.out.ya (eS t)).mono ?_); rintro e v3 ⟨rfl, s3⟩; clear s2)
    | (go_at_call 17; (with_reducible refine (wait_er (k := (kS t)) (id := 2) (o := x) s3 HLA.out HYE.out).mono ?_); rintro e v4 ⟨rfl, s4⟩; clear s3)
    | (go_at_call 16; (with_reducible refine (sleep_er (k := (kS t)) (id := 2) (u := t) s4 HLA.out HYE.out).mono ?_); rintro e v5 ⟨rfl, s5⟩; clear s4; have S5 := hid s5; clear s5)
    | (go_at_call 18; (with_reducible refine (is_errno_to (r := true) rfl _).yields ?_); intro p1)
    | (go_at_call 19; (with_reducible refine (readyL_to (S5.out.ext (by repeat (first | exact Ext.refl _ | assumption | refine Ext.more ?_ _ | refine Ext.drew ?_ | refine Ext.drewN ?_ _ | refine Ext.alloc ?_ _ | refine Ext.setCell ?_ (by simp; try omega) _ | refine Ext.trans ?_ (by assumption)))) HRN.out).mono ?_); rintro e v6 ⟨rfl, x6⟩; have s6 := (S5.out.ext (by repeat (first | exact Ext.refl _ | assumption | refine Ext.more ?_ _ | refine Ext.drew ?_ | refine Ext.drewN ?_ _ | refine Ext.alloc ?_ _ | refine Ext.setCell ?_ (by simp; try omega) _ | refine Ext.trans ?_ (by assumption)))).ext x6; clear S5 x6 HRN)
    | (go_at_call 20; (with_reducible refine (k_wake s6 HD.out HK.out).mono ?_); rintro e v7 ⟨vd, rfl, s7, -⟩; clear s6; have S7 := hid s7; clear s7)
    | (go_at_call 19; (with_reducible refine (readyL_to (S7.out.ext (by repeat (first | exact Ext.refl _ | assumption | refine Ext.more ?_ _ | refine Ext.drew ?_ | refine Ext.drewN ?_ _ | refine Ext.alloc ?_ _ | refine Ext.setCell ?_ (by simp; try omega) _ | refine Ext.trans ?_ (by assumption)))) HR.out).yields ?_); intro p7)
    )
  go_returns
  exact ⟨rfl, S7.out.xt.trans (by repeat (first | exact Ext.refl _ | assumption | refine Ext.more ?_ _ | refine Ext.drew ?_ | refine Ext.drewN ?_ _ | refine Ext.alloc ?_ _ | refine Ext.setCell ?_ (by simp; try omega) _ | refine Ext.trans ?_ (by assumption)))⟩
set_option maxHeartbeats 8000000 in
theorem walk01 (how by' ob : Int) (t x y : Nat) (hh : how % 2 = 0) (hb : by' % 4 = 1) (ho : ob % 4 = x) (hx : x < 4) (ht : t < 256) (hy : y < 4) (hyx : y ≠ x) (hxy : ((x : Int) + 1) % 4 = y) (b0 : 0 ≤ how) (b1 : 0 ≤ by') (b2 : 0 ≤ ob) (w0 : World) :
    Calls Tryz.prog 4 #[.int .u8 how, .int .u8 by', .int .u8 ob, .int .u8 t] w0 (Yields w0 (.bool true)) := by
  have hqn := fun w => run_eql_nil_nil' (P := Tryz.prog) w Tryz.underlying29
  have hnn := fun w => run_neq_nil_nil' (P := Tryz.prog) w Tryz.underlying29
  have F := hid fa
  have HX := hid hx
  have HY := hid hy
  have HYX := hid hyx
  have et : IntKind.i64.wrap ((t : Int) - 1) = (t : Int) - 1 := IntWalk.i64_in _ (by omega)
  have ex : IntKind.i64.wrap ((x : Int) + 1) = (x : Int) + 1 := IntWalk.i64_in _ (by omega)
  have px : (0 : Int) ≤ (x : Int) + 1 := by omega
  have HLA : Hid ((kS t).last ≤ 1000000) := by show kA.last ≤ 1000000; rw [F.out.la]; decide
  have HYE : Hid (rdyE (kS t) 2 = 13) := rdyE_13 (by show stU LS 2 ≠ some true; rw [F.out.ts]; decide)
  have HRN : Hid (rdN (kS t).l 2 = false) := F.out.ns
  have HAL : Hid (kA.last ≤ 1000000) := by unfold Hid; rw [F.out.la]; decide
  have HE := (sig_none (k := (kS t)) HX.out rfl).1
  have HK : signalK (kS t) x = { (kS t) with c := Ob.upd (kS t).c x (min ((kS t).c x + 1) 255) } := (sig_none HX.out rfl).2
  have HR : rdN (kS t).l 2 = false := F.out.ns
  have HE := hid HE
  have HK := hid HK
  have HR := hid HR
  clear hx hy hyx
  go_enter Tryz.func4, Tryz.ntmps4
  go_wp2_with (first
    | (go_at_call 10; (with_reducible refine (known_any _).yields ?_); intro p0)
    | (go_at_call 11; (with_reducible refine (k_new w0 _ (by repeat (first | exact Ext.refl _ | assumption | refine Ext.more ?_ _ | refine Ext.drew ?_ | refine Ext.drewN ?_ _ | refine Ext.alloc ?_ _ | refine Ext.setCell ?_ (by simp; try omega) _ | refine Ext.trans ?_ (by assumption))) 3 0).mono ?_); rintro e v1 ⟨b, rfl, s1, x1⟩; rw [show max (1 : Int) (min 3 8) = 3 by decide, show max (0 : Int) (min 0 4) = 0 by decide] at s1; clear x1)
    | (go_at_call 12; (with_reducible refine (spawn_ok (p := 0) (wt := 3) (k' := kA) s1 (by decide) F.out.s0 (n := 2) (by decide) rfl).mono ?_); rintro e v2 ⟨rfl, s2⟩; clear s1)
    | (go_at_call 16; (with_reducible refine (sleep_ok (k' := kS t) s2 HAL.out F.out.ya (eS t)).mono ?_); rintro e v3 ⟨rfl, s3⟩; clear s2)
    | (go_at_call 17; (with_reducible refine (wait_er (k := (kS t)) (id := 2) (o := x) s3 HLA.out HYE.out).mono ?_); rintro e v4 ⟨rfl, s4⟩; clear s3)
    | (go_at_call 16; (with_reducible refine (sleep_er (k := (kS t)) (id := 2) (u := t) s4 HLA.out HYE.out).mono ?_); rintro e v5 ⟨rfl, s5⟩; clear s4; have S5 := hid s5; clear s5)
    | (go_at_call 18; (with_reducible refine (is_errno_to (r := true) rfl _).yields ?_); intro p1)
    | (go_at_call 19; (with_reducible refine (readyL_to (S5.out.ext (by repeat (first | exact Ext.refl _ | assumption | refine Ext.more ?_ _ | refine Ext.drew ?_ | refine Ext.drewN ?_ _ | refine Ext.alloc ?_ _ | refine Ext.setCell ?_ (by simp; try omega) _ | refine Ext.trans ?_ (by assumption)))) HRN.out).mono ?_); rintro e v6 ⟨rfl, x6⟩; have s6 := (S5.out.ext (by repeat (first | exact Ext.refl _ | assumption | refine Ext.more ?_ _ | refine Ext.drew ?_ | refine Ext.drewN ?_ _ | refine Ext.alloc ?_ _ | refine Ext.setCell ?_ (by simp; try omega) _ | refine Ext.trans ?_ (by assumption)))).ext x6; clear S5 x6 HRN)
    | (go_at_call 21; (with_reducible refine (signal_ok s6 HE.out HK.out).mono ?_); rintro e v7 ⟨rfl, s7⟩; clear s6; have S7 := hid s7; clear s7)
    | (go_at_call 19; (with_reducible refine (readyL_to (S7.out.ext (by repeat (first | exact Ext.refl _ | assumption | refine Ext.more ?_ _ | refine Ext.drew ?_ | refine Ext.drewN ?_ _ | refine Ext.alloc ?_ _ | refine Ext.setCell ?_ (by simp; try omega) _ | refine Ext.trans ?_ (by assumption)))) HR.out).yields ?_); intro p7)
    )
  go_returns
  exact ⟨rfl, S7.out.xt.trans (by repeat (first | exact Ext.refl _ | assumption | refine Ext.more ?_ _ | refine Ext.drew ?_ | refine Ext.drewN ?_ _ | refine Ext.alloc ?_ _ | refine Ext.setCell ?_ (by simp; try omega) _ | refine Ext.trans ?_ (by assumption)))⟩
set_option maxHeartbeats 8000000 in
theorem walk02 (how by' ob : Int) (t x y : Nat) (hh : how % 2 = 0) (hb : by' % 4 = 2) (ho : ob % 4 = x) (hx : x < 4) (ht : t < 256) (hy : y < 4) (hyx : y ≠ x) (hxy : ((x : Int) + 1) % 4 = y) (b0 : 0 ≤ how) (b1 : 0 ≤ by') (b2 : 0 ≤ ob) (w0 : World) :
    Calls Tryz.prog 4 #[.int .u8 how, .int .u8 by', .int .u8 ob, .int .u8 t] w0 (Yields w0 (.bool true)) := by
  have hqn := fun w => run_eql_nil_nil' (P := Tryz.prog) w Tryz.underlying29
  have hnn := fun w => run_neq_nil_nil' (P := Tryz.prog) w Tryz.underlying29
  have F := hid fa
  have HX := hid hx
  have HY := hid hy
  have HYX := hid hyx
  have et : IntKind.i64.wrap ((t : Int) - 1) = (t : Int) - 1 := IntWalk.i64_in _ (by omega)
  have ex : IntKind.i64.wrap ((x : Int) + 1) = (x : Int) + 1 := IntWalk.i64_in _ (by omega)
  have px : (0 : Int) ≤ (x : Int) + 1 := by omega
  have HLA : Hid ((kS t).last ≤ 1000000) := by show kA.last ≤ 1000000; rw [F.out.la]; decide
  have HYE : Hid (rdyE (kS t) 2 = 13) := rdyE_13 (by show stU LS 2 ≠ some true; rw [F.out.ts]; decide)
  have HRN : Hid (rdN (kS t).l 2 = false) := F.out.ns
  have HAL : Hid (kA.last ≤ 1000000) := by unfold Hid; rw [F.out.la]; decide
  have HD : Ti.dueIds ((t : Int) - 1) (kS t).M = [] := due_none (fun e he => by rcases List.mem_singleton.1 he with rfl; show (t : Int) - 1 < t; omega)
  have HK : wakeK (kS t) ((t : Int) - 1) = { (kS t) with M := Ti.sleepOn ((t : Int) - 1) (kS t).M } := by unfold wakeK; rw [HD]; rfl
  have hWy : ({ (kS t) with M := Ti.sleepOn ((t : Int) - 1) (kS t).M } : Kd).W y = [] := rfl
  have HE := (sig_none (k := { (kS t) with M := Ti.sleepOn ((t : Int) - 1) (kS t).M }) HY.out hWy).1
  have HL := (sig_none (k := { (kS t) with M := Ti.sleepOn ((t : Int) - 1) (kS t).M }) HY.out hWy).2
  have HR : rdN (kS t).l 2 = false := F.out.ns
  clear hWy
  have HD := hid HD
  have HK := hid HK
  have HE := hid HE
  have HL := hid HL
  have HR := hid HR
  clear hx hy hyx
  go_enter Tryz.func4, Tryz.ntmps4
  go_wp2_with (first
    | (go_at_call 10; (with_reducible refine (known_any _).yields ?_); intro p0)
    | (go_at_call 11; (with_reducible refine (k_new w0 _ (by repeat (first | exact Ext.refl _ | assumption | refine Ext.more ?_ _ | refine Ext.drew ?_ | refine Ext.drewN ?_ _ | refine Ext.alloc ?_ _ | refine Ext.setCell ?_ (by simp; try omega) _ | refine Ext.trans ?_ (by assumption))) 3 0).mono ?_); rintro e v1 ⟨b, rfl, s1, x1⟩; rw [show max (1 : Int) (min 3 8) = 3 by decide, show max (0 : Int) (min 0 4) = 0 by decide] at s1; clear x1)
    | (go_at_call 12; (with_reducible refine (spawn_ok (p := 0) (wt := 3) (k' := kA) s1 (by decide) F.out.s0 (n := 2) (by decide) rfl).mono ?_); rintro e v2 ⟨rfl, s2⟩; clear s1)
    | (go_at_call 16; (with_reducible refine (sleep_ok (k' := kS t) s2 HAL.out F.out.ya (eS t)).mono ?_); rintro e v3 ⟨rfl, s3⟩; clear s2)
    | (go_at_call 17; (with_reducible refine (wait_er (k := (kS t)) (id := 2) (o := x) s3 HLA.out HYE.out).mono ?_); rintro e v4 ⟨rfl, s4⟩; clear s3)
    | (go_at_call 16; (with_reducible refine (sleep_er (k := (kS t)) (id := 2) (u := t) s4 HLA.out HYE.out).mono ?_); rintro e v5 ⟨rfl, s5⟩; clear s4; have S5 := hid s5; clear s5)
    | (go_at_call 18; (with_reducible refine (is_errno_to (r := true) rfl _).yields ?_); intro p1)
    | (go_at_call 19; (with_reducible refine (readyL_to (S5.out.ext (by repeat (first | exact Ext.refl _ | assumption | refine Ext.more ?_ _ | refine Ext.drew ?_ | refine Ext.drewN ?_ _ | refine Ext.alloc ?_ _ | refine Ext.setCell ?_ (by simp; try omega) _ | refine Ext.trans ?_ (by assumption)))) HRN.out).mono ?_); rintro e v6 ⟨rfl, x6⟩; have s6 := (S5.out.ext (by repeat (first | exact Ext.refl _ | assumption | refine Ext.more ?_ _ | refine Ext.drew ?_ | refine Ext.drewN ?_ _ | refine Ext.alloc ?_ _ | refine Ext.setCell ?_ (by simp; try omega) _ | refine Ext.trans ?_ (by assumption)))).ext x6; clear S5 x6 HRN)
    | (go_at_call 20; (with_reducible refine (k_wake s6 HD.out HK.out).mono ?_); rintro e v7 ⟨vd, rfl, s7, -⟩; clear s6)
    | (go_at_call 21; (with_reducible refine (signal_ok s7 HE.out HL.out).mono ?_); rintro e v8 ⟨rfl, s8⟩; clear s7; have S8 := hid s8; clear s8)
    | (go_at_call 19; (with_reducible refine (readyL_to (S8.out.ext (by repeat (first | exact Ext.refl _ | assumption | refine Ext.more ?_ _ | refine Ext.drew ?_ | refine Ext.drewN ?_ _ | refine Ext.alloc ?_ _ | refine Ext.setCell ?_ (by simp; try omega) _ | refine Ext.trans ?_ (by assumption)))) HR.out).yields ?_); intro p7)
    )
  go_returns
  exact ⟨rfl, S8.out.xt.trans (by repeat (first | exact Ext.refl _ | assumption | refine Ext.more ?_ _ | refine Ext.drew ?_ | refine Ext.drewN ?_ _ | refine Ext.alloc ?_ _ | refine Ext.setCell ?_ (by simp; try omega) _ | refine Ext.trans ?_ (by assumption)))⟩
set_option maxHeartbeats 8000000 in
theorem walk03 (how by' ob : Int) (t x y : Nat) (hh : how % 2 = 0) (hb : by' % 4 = 3) (ho : ob % 4 = x) (hx : x < 4) (ht : t < 256) (hy : y < 4) (hyx : y ≠ x) (hxy : ((x : Int) + 1) % 4 = y) (b0 : 0 ≤ how) (b1 : 0 ≤ by') (b2 : 0 ≤ ob) (w0 : World) :
    Calls Tryz.prog 4 #[.int .u8 how, .int .u8 by', .int .u8 ob, .int .u8 t] w0 (Yields w0 (.bool true)) := by
  have hqn := fun w => run_eql_nil_nil' (P := Tryz.prog) w Tryz.underlying29
  have hnn := fun w => run_neq_nil_nil' (P := Tryz.prog) w Tryz.underlying29
  have F := hid fa
  have HX := hid hx
  have HY := hid hy
  have HYX := hid hyx
  have et : IntKind.i64.wrap ((t : Int) - 1) = (t : Int) - 1 := IntWalk.i64_in _ (by omega)
  have ex : IntKind.i64.wrap ((x : Int) + 1) = (x : Int) + 1 := IntWalk.i64_in _ (by omega)
  have px : (0 : Int) ≤ (x : Int) + 1 := by omega
  have HLA : Hid ((kS t).last ≤ 1000000) := by show kA.last ≤ 1000000; rw [F.out.la]; decide
  have HYE : Hid (rdyE (kS t) 2 = 13) := rdyE_13 (by show stU LS 2 ≠ some true; rw [F.out.ts]; decide)
  have HRN : Hid (rdN (kS t).l 2 = false) := F.out.ns
  have HAL : Hid (kA.last ≤ 1000000) := by unfold Hid; rw [F.out.la]; decide
  have HE := (exit_zero (k := (kS t)) (id := 2) (r := false) F.out.ts).1
  have HK : exitK (kS t) 2 = ({ (kS t) with l := remL LS 2, M := Ti.others 2 (kS t).M, W := Ob.others 2 (kS t).W } : Kd) := (exit_zero (r := false) F.out.ts).2
  have hWx : ({ (kS t) with l := remL LS 2, M := Ti.others 2 (kS t).M, W := Ob.others 2 (kS t).W } : Kd).W x = [] := rfl
  have HF := (sig_none (k := ({ (kS t) with l := remL LS 2, M := Ti.others 2 (kS t).M, W := Ob.others 2 (kS t).W } : Kd)) HX.out hWx).1
  have HG : signalK ({ (kS t) with l := remL LS 2, M := Ti.others 2 (kS t).M, W := Ob.others 2 (kS t).W } : Kd) x = ({ ({ (kS t) with l := remL LS 2, M := Ti.others 2 (kS t).M, W := Ob.others 2 (kS t).W } : Kd) with c := Ob.upd ({ (kS t) with l := remL LS 2, M := Ti.others 2 (kS t).M, W := Ob.others 2 (kS t).W } : Kd).c x (min (({ (kS t) with l := remL LS 2, M := Ti.others 2 (kS t).M, W := Ob.others 2 (kS t).W } : Kd).c x + 1) 255) } : Kd) := (sig_none HX.out hWx).2
  have HD : Ti.dueIds t ({ ({ (kS t) with l := remL LS 2, M := Ti.others 2 (kS t).M, W := Ob.others 2 (kS t).W } : Kd) with c := Ob.upd ({ (kS t) with l := remL LS 2, M := Ti.others 2 (kS t).M, W := Ob.others 2 (kS t).W } : Kd).c x (min (({ (kS t) with l := remL LS 2, M := Ti.others 2 (kS t).M, W := Ob.others 2 (kS t).W } : Kd).c x + 1) 255) } : Kd).M = [] := due_none (fun e he => by have he : e ∈ Ti.others 2 [((2 : Int), (t : Int))] := he; simp [Ti.others] at he)
  have HL : wakeK ({ ({ (kS t) with l := remL LS 2, M := Ti.others 2 (kS t).M, W := Ob.others 2 (kS t).W } : Kd) with c := Ob.upd ({ (kS t) with l := remL LS 2, M := Ti.others 2 (kS t).M, W := Ob.others 2 (kS t).W } : Kd).c x (min (({ (kS t) with l := remL LS 2, M := Ti.others 2 (kS t).M, W := Ob.others 2 (kS t).W } : Kd).c x + 1) 255) } : Kd) t = { ({ ({ (kS t) with l := remL LS 2, M := Ti.others 2 (kS t).M, W := Ob.others 2 (kS t).W } : Kd) with c := Ob.upd ({ (kS t) with l := remL LS 2, M := Ti.others 2 (kS t).M, W := Ob.others 2 (kS t).W } : Kd).c x (min (({ (kS t) with l := remL LS 2, M := Ti.others 2 (kS t).M, W := Ob.others 2 (kS t).W } : Kd).c x + 1) 255) } : Kd) with M := Ti.sleepOn t ({ ({ (kS t) with l := remL LS 2, M := Ti.others 2 (kS t).M, W := Ob.others 2 (kS t).W } : Kd) with c := Ob.upd ({ (kS t) with l := remL LS 2, M := Ti.others 2 (kS t).M, W := Ob.others 2 (kS t).W } : Kd).c x (min (({ (kS t) with l := remL LS 2, M := Ti.others 2 (kS t).M, W := Ob.others 2 (kS t).W } : Kd).c x + 1) 255) } : Kd).M } := by unfold wakeK; rw [HD]; rfl
  have HT : (tids (remL LS 2)).length = 1 := F.out.tx
  clear hWx
  have HE := hid HE
  have HK := hid HK
  have HF := hid HF
  have HG := hid HG
  have HD := hid HD
  have HL := hid HL
  have HT := hid HT
  clear hx hy hyx
  go_enter Tryz.func4, Tryz.ntmps4
  go_wp2_with (first
    | (go_at_call 10; (with_reducible refine (known_any _).yields ?_); intro p0)
    | (go_at_call 11; (with_reducible refine (k_new w0 _ (by repeat (first | exact Ext.refl _ | assumption | refine Ext.more ?_ _ | refine Ext.drew ?_ | refine Ext.drewN ?_ _ | refine Ext.alloc ?_ _ | refine Ext.setCell ?_ (by simp; try omega) _ | refine Ext.trans ?_ (by assumption))) 3 0).mono ?_); rintro e v1 ⟨b, rfl, s1, x1⟩; rw [show max (1 : Int) (min 3 8) = 3 by decide, show max (0 : Int) (min 0 4) = 0 by decide] at s1; clear x1)
    | (go_at_call 12; (with_reducible refine (spawn_ok (p := 0) (wt := 3) (k' := kA) s1 (by decide) F.out.s0 (n := 2) (by decide) rfl).mono ?_); rintro e v2 ⟨rfl, s2⟩; clear s1)
    | (go_at_call 16; (with_reducible refine (sleep_ok (k' := kS t) s2 HAL.out F.out.ya (eS t)).mono ?_); rintro e v3 ⟨rfl, s3⟩; clear s2)
    | (go_at_call 17; (with_reducible refine (wait_er (k := (kS t)) (id := 2) (o := x) s3 HLA.out HYE.out).mono ?_); rintro e v4 ⟨rfl, s4⟩; clear s3)
    | (go_at_call 16; (with_reducible refine (sleep_er (k := (kS t)) (id := 2) (u := t) s4 HLA.out HYE.out).mono ?_); rintro e v5 ⟨rfl, s5⟩; clear s4; have S5 := hid s5; clear s5)
    | (go_at_call 18; (with_reducible refine (is_errno_to (r := true) rfl _).yields ?_); intro p1)
    | (go_at_call 19; (with_reducible refine (readyL_to (S5.out.ext (by repeat (first | exact Ext.refl _ | assumption | refine Ext.more ?_ _ | refine Ext.drew ?_ | refine Ext.drewN ?_ _ | refine Ext.alloc ?_ _ | refine Ext.setCell ?_ (by simp; try omega) _ | refine Ext.trans ?_ (by assumption)))) HRN.out).mono ?_); rintro e v6 ⟨rfl, x6⟩; have s6 := (S5.out.ext (by repeat (first | exact Ext.refl _ | assumption | refine Ext.more ?_ _ | refine Ext.drew ?_ | refine Ext.drewN ?_ _ | refine Ext.alloc ?_ _ | refine Ext.setCell ?_ (by simp; try omega) _ | refine Ext.trans ?_ (by assumption)))).ext x6; clear S5 x6 HRN)
    | (go_at_call 14; (with_reducible refine (exit_ok s6 HLA.out HE.out HK.out).mono ?_); rintro e v7 ⟨rfl, s7⟩; clear s6)
    | (go_at_call 21; (with_reducible refine (signal_ok s7 HF.out HG.out).mono ?_); rintro e v8 ⟨rfl, s8⟩; clear s7)
    | (go_at_call 20; (with_reducible refine (k_wake s8 HD.out HL.out).mono ?_); rintro e v9 ⟨vd, rfl, s9, o9⟩; obtain ⟨pd, cd, rfl⟩ := shapeOf o9; clear s8 o9; have S9 := hid s9; clear s9)
    | (go_at_call 22; (with_reducible refine (k_threads (S9.out.ext (by repeat (first | exact Ext.refl _ | assumption | refine Ext.more ?_ _ | refine Ext.drew ?_ | refine Ext.drewN ?_ _ | refine Ext.alloc ?_ _ | refine Ext.setCell ?_ (by simp; try omega) _ | refine Ext.trans ?_ (by assumption))))).mono ?_); rintro e v10 ⟨vt, rfl, x10, o10⟩; obtain ⟨pt, ct, et⟩ := shapeOf o10; rw [HT.out] at et; subst et; clear o10; have S10 := hid ((S9.out.ext (by repeat (first | exact Ext.refl _ | assumption | refine Ext.more ?_ _ | refine Ext.drew ?_ | refine Ext.drewN ?_ _ | refine Ext.alloc ?_ _ | refine Ext.setCell ?_ (by simp; try omega) _ | refine Ext.trans ?_ (by assumption)))).ext x10); clear x10)
    )
  go_returns
  exact ⟨rfl, S10.out.xt.trans (by repeat (first | exact Ext.refl _ | assumption | refine Ext.more ?_ _ | refine Ext.drew ?_ | refine Ext.drewN ?_ _ | refine Ext.alloc ?_ _ | refine Ext.setCell ?_ (by simp; try omega) _ | refine Ext.trans ?_ (by assumption)))⟩
set_option maxHeartbeats 8000000 in
theorem walk10 (how by' ob : Int) (t x y : Nat) (hh : how % 2 = 1) (hb : by' % 4 = 0) (ho : ob % 4 = x) (hx : x < 4) (ht : t < 256) (hy : y < 4) (hyx : y ≠ x) (hxy : ((x : Int) + 1) % 4 = y) (b0 : 0 ≤ how) (b1 : 0 ≤ by') (b2 : 0 ≤ ob) (w0 : World) :
    Calls Tryz.prog 4 #[.int .u8 how, .int .u8 by', .int .u8 ob, .int .u8 t] w0 (Yields w0 (.bool true)) := by
  have hqn := fun w => run_eql_nil_nil' (P := Tryz.prog) w Tryz.underlying29
  have hnn := fun w => run_neq_nil_nil' (P := Tryz.prog) w Tryz.underlying29
  have F := hid fa
  have HX := hid hx
  have HY := hid hy
  have HYX := hid hyx
  have et : IntKind.i64.wrap ((t : Int) - 1) = (t : Int) - 1 := IntWalk.i64_in _ (by omega)
  have ex : IntKind.i64.wrap ((x : Int) + 1) = (x : Int) + 1 := IntWalk.i64_in _ (by omega)
  have px : (0 : Int) ≤ (x : Int) + 1 := by omega
  have HLA : Hid ((kW x).last ≤ 1000000) := by show kA.last ≤ 1000000; rw [F.out.la]; decide
  have HYE : Hid (rdyE (kW x) 2 = 13) := rdyE_13 (by show stU LS 2 ≠ some true; rw [F.out.ts]; decide)
  have HRN : Hid (rdN (kW x).l 2 = false) := F.out.ns
  have HAL : Hid (kA.last ≤ 1000000) := by unfold Hid; rw [F.out.la]; decide
  have HD : Ti.dueIds t (kW x).M = [] := due_none (fun e he => by cases he)
  have HK : wakeK (kW x) t = { (kW x) with l := wakes LS [], M := Ti.sleepOn t (kW x).M } := by unfold wakeK; rw [HD]; rfl
  have HR : rdN (wakes LS []) 2 = false := F.out.ns
  have HD := hid HD
  have HK := hid HK
  have HR := hid HR
  clear hx hy hyx
  go_enter Tryz.func4, Tryz.ntmps4
  go_wp2_with (first
    | (go_at_call 10; (with_reducible refine (known_any _).yields ?_); intro p0)
    | (go_at_call 11; (with_reducible refine (k_new w0 _ (by repeat (first | exact Ext.refl _ | assumption | refine Ext.more ?_ _ | refine Ext.drew ?_ | refine Ext.drewN ?_ _ | refine Ext.alloc ?_ _ | refine Ext.setCell ?_ (by simp; try omega) _ | refine Ext.trans ?_ (by assumption))) 3 0).mono ?_); rintro e v1 ⟨b, rfl, s1, x1⟩; rw [show max (1 : Int) (min 3 8) = 3 by decide, show max (0 : Int) (min 0 4) = 0 by decide] at s1; clear x1)
    | (go_at_call 12; (with_reducible refine (spawn_ok (p := 0) (wt := 3) (k' := kA) s1 (by decide) F.out.s0 (n := 2) (by decide) rfl).mono ?_); rintro e v2 ⟨rfl, s2⟩; clear s1)
    | (go_at_call 17; (with_reducible refine (wait_ok (k' := kW x) s2 HAL.out (eW s2.ok HX.out).1 (eW s2.ok HX.out).2.1 (eW s2.ok HX.out).2.2).mono ?_); rintro e v3 ⟨rfl, s3⟩; clear s2)
    | (go_at_call 17; (with_reducible refine (wait_er (k := (kW x)) (id := 2) (o := x) s3 HLA.out HYE.out).mono ?_); rintro e v4 ⟨rfl, s4⟩; clear s3)
    | (go_at_call 16; (with_reducible refine (sleep_er (k := (kW x)) (id := 2) (u := t) s4 HLA.out HYE.out).mono ?_); rintro e v5 ⟨rfl, s5⟩; clear s4; have S5 := hid s5; clear s5)
    | (go_at_call 18; (with_reducible refine (is_errno_to (r := true) rfl _).yields ?_); intro p1)
    | (go_at_call 19; (with_reducible refine (readyL_to (S5.out.ext (by repeat (first | exact Ext.refl _ | assumption | refine Ext.more ?_ _ | refine Ext.drew ?_ | refine Ext.drewN ?_ _ | refine Ext.alloc ?_ _ | refine Ext.setCell ?_ (by simp; try omega) _ | refine Ext.trans ?_ (by assumption)))) HRN.out).mono ?_); rintro e v6 ⟨rfl, x6⟩; have s6 := (S5.out.ext (by repeat (first | exact Ext.refl _ | assumption | refine Ext.more ?_ _ | refine Ext.drew ?_ | refine Ext.drewN ?_ _ | refine Ext.alloc ?_ _ | refine Ext.setCell ?_ (by simp; try omega) _ | refine Ext.trans ?_ (by assumption)))).ext x6; clear S5 x6 HRN)
    | (go_at_call 20; (with_reducible refine (k_wake s6 HD.out HK.out).mono ?_); rintro e v7 ⟨vd, rfl, s7, -⟩; clear s6; have S7 := hid s7; clear s7)
    | (go_at_call 19; (with_reducible refine (readyL_to (S7.out.ext (by repeat (first | exact Ext.refl _ | assumption | refine Ext.more ?_ _ | refine Ext.drew ?_ | refine Ext.drewN ?_ _ | refine Ext.alloc ?_ _ | refine Ext.setCell ?_ (by simp; try omega) _ | refine Ext.trans ?_ (by assumption)))) HR.out).yields ?_); intro p7)
    )
  go_returns
  exact ⟨rfl, S7.out.xt.trans (by repeat (first | exact Ext.refl _ | assumption | refine Ext.more ?_ _ | refine Ext.drew ?_ | refine Ext.drewN ?_ _ | refine Ext.alloc ?_ _ | refine Ext.setCell ?_ (by simp; try omega) _ | refine Ext.trans ?_ (by assumption)))⟩
set_option maxHeartbeats 8000000 in
theorem walk11 (how by' ob : Int) (t x y : Nat) (hh : how % 2 = 1) (hb : by' % 4 = 1) (ho : ob % 4 = x) (hx : x < 4) (ht : t < 256) (hy : y < 4) (hyx : y ≠ x) (hxy : ((x : Int) + 1) % 4 = y) (b0 : 0 ≤ how) (b1 : 0 ≤ by') (b2 : 0 ≤ ob) (w0 : World) :
    Calls Tryz.prog 4 #[.int .u8 how, .int .u8 by', .int .u8 ob, .int .u8 t] w0 (Yields w0 (.bool true)) := by
  have hqn := fun w => run_eql_nil_nil' (P := Tryz.prog) w Tryz.underlying29
  have hnn := fun w => run_neq_nil_nil' (P := Tryz.prog) w Tryz.underlying29
  have F := hid fa
  have HX := hid hx
  have HY := hid hy
  have HYX := hid hyx
  have et : IntKind.i64.wrap ((t : Int) - 1) = (t : Int) - 1 := IntWalk.i64_in _ (by omega)
  have ex : IntKind.i64.wrap ((x : Int) + 1) = (x : Int) + 1 := IntWalk.i64_in _ (by omega)
  have px : (0 : Int) ≤ (x : Int) + 1 := by omega
  have HLA : Hid ((kW x).last ≤ 1000000) := by show kA.last ≤ 1000000; rw [F.out.la]; decide
  have HYE : Hid (rdyE (kW x) 2 = 13) := rdyE_13 (by show stU LS 2 ≠ some true; rw [F.out.ts]; decide)
  have HRN : Hid (rdN (kW x).l 2 = false) := F.out.ns
  have HAL : Hid (kA.last ≤ 1000000) := by unfold Hid; rw [F.out.la]; decide
  have hWx : (kW x).W x = [2] := (Ob.upd_same _ _ _ : Ob.upd (fun _ => ([] : List Int)) x [2] x = [2])
  have HE := (sig_one (k := (kW x)) HX.out hWx).1
  have HK : signalK (kW x) x = { (kW x) with l := rdyL LS 2 true, W := Ob.upd (kW x).W x [] } := (sig_one HX.out hWx).2
  have HR : rdN (rdyL LS 2 true) 2 = true := F.out.nr
  clear hWx
  have HE := hid HE
  have HK := hid HK
  have HR := hid HR
  clear hx hy hyx
  go_enter Tryz.func4, Tryz.ntmps4
  go_wp2_with (first
    | (go_at_call 10; (with_reducible refine (known_any _).yields ?_); intro p0)
    | (go_at_call 11; (with_reducible refine (k_new w0 _ (by repeat (first | exact Ext.refl _ | assumption | refine Ext.more ?_ _ | refine Ext.drew ?_ | refine Ext.drewN ?_ _ | refine Ext.alloc ?_ _ | refine Ext.setCell ?_ (by simp; try omega) _ | refine Ext.trans ?_ (by assumption))) 3 0).mono ?_); rintro e v1 ⟨b, rfl, s1, x1⟩; rw [show max (1 : Int) (min 3 8) = 3 by decide, show max (0 : Int) (min 0 4) = 0 by decide] at s1; clear x1)
    | (go_at_call 12; (with_reducible refine (spawn_ok (p := 0) (wt := 3) (k' := kA) s1 (by decide) F.out.s0 (n := 2) (by decide) rfl).mono ?_); rintro e v2 ⟨rfl, s2⟩; clear s1)
    | (go_at_call 17; (with_reducible refine (wait_ok (k' := kW x) s2 HAL.out (eW s2.ok HX.out).1 (eW s2.ok HX.out).2.1 (eW s2.ok HX.out).2.2).mono ?_); rintro e v3 ⟨rfl, s3⟩; clear s2)
    | (go_at_call 17; (with_reducible refine (wait_er (k := (kW x)) (id := 2) (o := x) s3 HLA.out HYE.out).mono ?_); rintro e v4 ⟨rfl, s4⟩; clear s3)
    | (go_at_call 16; (with_reducible refine (sleep_er (k := (kW x)) (id := 2) (u := t) s4 HLA.out HYE.out).mono ?_); rintro e v5 ⟨rfl, s5⟩; clear s4; have S5 := hid s5; clear s5)
    | (go_at_call 18; (with_reducible refine (is_errno_to (r := true) rfl _).yields ?_); intro p1)
    | (go_at_call 19; (with_reducible refine (readyL_to (S5.out.ext (by repeat (first | exact Ext.refl _ | assumption | refine Ext.more ?_ _ | refine Ext.drew ?_ | refine Ext.drewN ?_ _ | refine Ext.alloc ?_ _ | refine Ext.setCell ?_ (by simp; try omega) _ | refine Ext.trans ?_ (by assumption)))) HRN.out).mono ?_); rintro e v6 ⟨rfl, x6⟩; have s6 := (S5.out.ext (by repeat (first | exact Ext.refl _ | assumption | refine Ext.more ?_ _ | refine Ext.drew ?_ | refine Ext.drewN ?_ _ | refine Ext.alloc ?_ _ | refine Ext.setCell ?_ (by simp; try omega) _ | refine Ext.trans ?_ (by assumption)))).ext x6; clear S5 x6 HRN)
    | (go_at_call 21; (with_reducible refine (signal_ok s6 HE.out HK.out).mono ?_); rintro e v7 ⟨rfl, s7⟩; clear s6; have S7 := hid s7; clear s7)
    | (go_at_call 19; (with_reducible refine (readyL_to (S7.out.ext (by repeat (first | exact Ext.refl _ | assumption | refine Ext.more ?_ _ | refine Ext.drew ?_ | refine Ext.drewN ?_ _ | refine Ext.alloc ?_ _ | refine Ext.setCell ?_ (by simp; try omega) _ | refine Ext.trans ?_ (by assumption)))) HR.out).yields ?_); intro p7)
    )
  go_returns
  exact ⟨rfl, S7.out.xt.trans (by repeat (first | exact Ext.refl _ | assumption | refine Ext.more ?_ _ | refine Ext.drew ?_ | refine Ext.drewN ?_ _ | refine Ext.alloc ?_ _ | refine Ext.setCell ?_ (by simp; try omega) _ | refine Ext.trans ?_ (by assumption)))⟩
set_option maxHeartbeats 8000000 in
theorem walk12 (how by' ob : Int) (t x y : Nat) (hh : how % 2 = 1) (hb : by' % 4 = 2) (ho : ob % 4 = x) (hx : x < 4) (ht : t < 256) (hy : y < 4) (hyx : y ≠ x) (hxy : ((x : Int) + 1) % 4 = y) (b0 : 0 ≤ how) (b1 : 0 ≤ by') (b2 : 0 ≤ ob) (w0 : World) :
    Calls Tryz.prog 4 #[.int .u8 how, .int .u8 by', .int .u8 ob, .int .u8 t] w0 (Yields w0 (.bool true)) := by
  have hqn := fun w => run_eql_nil_nil' (P := Tryz.prog) w Tryz.underlying29
  have hnn := fun w => run_neq_nil_nil' (P := Tryz.prog) w Tryz.underlying29
  have F := hid fa
  have HX := hid hx
  have HY := hid hy
  have HYX := hid hyx
  have et : IntKind.i64.wrap ((t : Int) - 1) = (t : Int) - 1 := IntWalk.i64_in _ (by omega)
  have ex : IntKind.i64.wrap ((x : Int) + 1) = (x : Int) + 1 := IntWalk.i64_in _ (by omega)
  have px : (0 : Int) ≤ (x : Int) + 1 := by omega
  have HLA : Hid ((kW x).last ≤ 1000000) := by show kA.last ≤ 1000000; rw [F.out.la]; decide
  have HYE : Hid (rdyE (kW x) 2 = 13) := rdyE_13 (by show stU LS 2 ≠ some true; rw [F.out.ts]; decide)
  have HRN : Hid (rdN (kW x).l 2 = false) := F.out.ns
  have HAL : Hid (kA.last ≤ 1000000) := by unfold Hid; rw [F.out.la]; decide
  have HD : Ti.dueIds ((t : Int) - 1) (kW x).M = [] := due_none (fun e he => by cases he)
  have HK : wakeK (kW x) ((t : Int) - 1) = { (kW x) with M := Ti.sleepOn ((t : Int) - 1) (kW x).M } := by unfold wakeK; rw [HD]; rfl
  have hWy : ({ (kW x) with M := Ti.sleepOn ((t : Int) - 1) (kW x).M } : Kd).W y = [] := (Ob.upd_other HYX.out : Ob.upd (fun _ => ([] : List Int)) x [2] y = [])
  have HE := (sig_none (k := { (kW x) with M := Ti.sleepOn ((t : Int) - 1) (kW x).M }) HY.out hWy).1
  have HL := (sig_none (k := { (kW x) with M := Ti.sleepOn ((t : Int) - 1) (kW x).M }) HY.out hWy).2
  have HR : rdN (kW x).l 2 = false := F.out.ns
  clear hWy
  have HD := hid HD
  have HK := hid HK
  have HE := hid HE
  have HL := hid HL
  have HR := hid HR
  clear hx hy hyx
  go_enter Tryz.func4, Tryz.ntmps4
  go_wp2_with (first
    | (go_at_call 10; (with_reducible refine (known_any _).yields ?_); intro p0)
    | (go_at_call 11; (with_reducible refine (k_new w0 _ (by repeat (first | exact Ext.refl _ | assumption | refine Ext.more ?_ _ | refine Ext.drew ?_ | refine Ext.drewN ?_ _ | refine Ext.alloc ?_ _ | refine Ext.setCell ?_ (by simp; try omega) _ | refine Ext.trans ?_ (by assumption))) 3 0).mono ?_); rintro e v1 ⟨b, rfl, s1, x1⟩; rw [show max (1 : Int) (min 3 8) = 3 by decide, show max (0 : Int) (min 0 4) = 0 by decide] at s1; clear x1)
    | (go_at_call 12; (with_reducible refine (spawn_ok (p := 0) (wt := 3) (k' := kA) s1 (by decide) F.out.s0 (n := 2) (by decide) rfl).mono ?_); rintro e v2 ⟨rfl, s2⟩; clear s1)
    | (go_at_call 17; (with_reducible refine (wait_ok (k' := kW x) s2 HAL.out (eW s2.ok HX.out).1 (eW s2.ok HX.out).2.1 (eW s2.ok HX.out).2.2).mono ?_); rintro e v3 ⟨rfl, s3⟩; clear s2)
    | (go_at_call 17; (with_reducible refine (wait_er (k := (kW x)) (id := 2) (o := x) s3 HLA.out HYE.out).mono ?_); rintro e v4 ⟨rfl, s4⟩; clear s3)
    | (go_at_call 16; (with_reducible refine (sleep_er (k := (kW x)) (id := 2) (u := t) s4 HLA.out HYE.out).mono ?_); rintro e v5 ⟨rfl, s5⟩; clear s4; have S5 := hid s5; clear s5)
    | (go_at_call 18; (with_reducible refine (is_errno_to (r := true) rfl _).yields ?_); intro p1)
    | (go_at_call 19; (with_reducible refine (readyL_to (S5.out.ext (by repeat (first | exact Ext.refl _ | assumption | refine Ext.more ?_ _ | refine Ext.drew ?_ | refine Ext.drewN ?_ _ | refine Ext.alloc ?_ _ | refine Ext.setCell ?_ (by simp; try omega) _ | refine Ext.trans ?_ (by assumption)))) HRN.out).mono ?_); rintro e v6 ⟨rfl, x6⟩; have s6 := (S5.out.ext (by repeat (first | exact Ext.refl _ | assumption | refine Ext.more ?_ _ | refine Ext.drew ?_ | refine Ext.drewN ?_ _ | refine Ext.alloc ?_ _ | refine Ext.setCell ?_ (by simp; try omega) _ | refine Ext.trans ?_ (by assumption)))).ext x6; clear S5 x6 HRN)
    | (go_at_call 20; (with_reducible refine (k_wake s6 HD.out HK.out).mono ?_); rintro e v7 ⟨vd, rfl, s7, -⟩; clear s6)
    | (go_at_call 21; (with_reducible refine (signal_ok s7 HE.out HL.out).mono ?_); rintro e v8 ⟨rfl, s8⟩; clear s7; have S8 := hid s8; clear s8)
    | (go_at_call 19; (with_reducible refine (readyL_to (S8.out.ext (by repeat (first | exact Ext.refl _ | assumption | refine Ext.more ?_ _ | refine Ext.drew ?_ | refine Ext.drewN ?_ _ | refine Ext.alloc ?_ _ | refine Ext.setCell ?_ (by simp; try omega) _ | refine Ext.trans ?_ (by assumption)))) HR.out).yields ?_); intro p7)
    )
  go_returns
  exact ⟨rfl, S8.out.xt.trans (by repeat (first | exact Ext.refl _ | assumption | refine Ext.more ?_ _ | refine Ext.drew ?_ | refine Ext.drewN ?_ _ | refine Ext.alloc ?_ _ | refine Ext.setCell ?_ (by simp; try omega) _ | refine Ext.trans ?_ (by assumption)))⟩
set_option maxHeartbeats 8000000 in
theorem walk13 (how by' ob : Int) (t x y : Nat) (hh : how % 2 = 1) (hb : by' % 4 = 3) (ho : ob % 4 = x) (hx : x < 4) (ht : t < 256) (hy : y < 4) (hyx : y ≠ x) (hxy : ((x : Int) + 1) % 4 = y) (b0 : 0 ≤ how) (b1 : 0 ≤ by') (b2 : 0 ≤ ob) (w0 : World) :
    Calls Tryz.prog 4 #[.int .u8 how, .int .u8 by', .int .u8 ob, .int .u8 t] w0 (Yields w0 (.bool true)) := by
  have hqn := fun w => run_eql_nil_nil' (P := Tryz.prog) w Tryz.underlying29
  have hnn := fun w => run_neq_nil_nil' (P := Tryz.prog) w Tryz.underlying29
  have F := hid fa
  have HX := hid hx
  have HY := hid hy
  have HYX := hid hyx
  have et : IntKind.i64.wrap ((t : Int) - 1) = (t : Int) - 1 := IntWalk.i64_in _ (by omega)
  have ex : IntKind.i64.wrap ((x : Int) + 1) = (x : Int) + 1 := IntWalk.i64_in _ (by omega)
  have px : (0 : Int) ≤ (x : Int) + 1 := by omega
  have HLA : Hid ((kW x).last ≤ 1000000) := by show kA.last ≤ 1000000; rw [F.out.la]; decide
  have HYE : Hid (rdyE (kW x) 2 = 13) := rdyE_13 (by show stU LS 2 ≠ some true; rw [F.out.ts]; decide)
  have HRN : Hid (rdN (kW x).l 2 = false) := F.out.ns
  have HAL : Hid (kA.last ≤ 1000000) := by unfold Hid; rw [F.out.la]; decide
  have HE := (exit_zero (k := (kW x)) (id := 2) (r := false) F.out.ts).1
  have HK : exitK (kW x) 2 = ({ (kW x) with l := remL LS 2, M := Ti.others 2 (kW x).M, W := Ob.others 2 (kW x).W } : Kd) := (exit_zero (r := false) F.out.ts).2
  have hWx : ({ (kW x) with l := remL LS 2, M := Ti.others 2 (kW x).M, W := Ob.others 2 (kW x).W } : Kd).W x = [] := by show Ob.others 2 (Ob.upd (fun _ => []) x [2]) x = []; unfold Ob.others; rw [Ob.upd_same]; rfl
  have HF := (sig_none (k := ({ (kW x) with l := remL LS 2, M := Ti.others 2 (kW x).M, W := Ob.others 2 (kW x).W } : Kd)) HX.out hWx).1
  have HG : signalK ({ (kW x) with l := remL LS 2, M := Ti.others 2 (kW x).M, W := Ob.others 2 (kW x).W } : Kd) x = ({ ({ (kW x) with l := remL LS 2, M := Ti.others 2 (kW x).M, W := Ob.others 2 (kW x).W } : Kd) with c := Ob.upd ({ (kW x) with l := remL LS 2, M := Ti.others 2 (kW x).M, W := Ob.others 2 (kW x).W } : Kd).c x (min (({ (kW x) with l := remL LS 2, M := Ti.others 2 (kW x).M, W := Ob.others 2 (kW x).W } : Kd).c x + 1) 255) } : Kd) := (sig_none HX.out hWx).2
  have HD : Ti.dueIds t ({ ({ (kW x) with l := remL LS 2, M := Ti.others 2 (kW x).M, W := Ob.others 2 (kW x).W } : Kd) with c := Ob.upd ({ (kW x) with l := remL LS 2, M := Ti.others 2 (kW x).M, W := Ob.others 2 (kW x).W } : Kd).c x (min (({ (kW x) with l := remL LS 2, M := Ti.others 2 (kW x).M, W := Ob.others 2 (kW x).W } : Kd).c x + 1) 255) } : Kd).M = [] := due_none (fun e he => by have he : e ∈ Ti.others 2 [] := he; simp [Ti.others] at he)
  have HL : wakeK ({ ({ (kW x) with l := remL LS 2, M := Ti.others 2 (kW x).M, W := Ob.others 2 (kW x).W } : Kd) with c := Ob.upd ({ (kW x) with l := remL LS 2, M := Ti.others 2 (kW x).M, W := Ob.others 2 (kW x).W } : Kd).c x (min (({ (kW x) with l := remL LS 2, M := Ti.others 2 (kW x).M, W := Ob.others 2 (kW x).W } : Kd).c x + 1) 255) } : Kd) t = { ({ ({ (kW x) with l := remL LS 2, M := Ti.others 2 (kW x).M, W := Ob.others 2 (kW x).W } : Kd) with c := Ob.upd ({ (kW x) with l := remL LS 2, M := Ti.others 2 (kW x).M, W := Ob.others 2 (kW x).W } : Kd).c x (min (({ (kW x) with l := remL LS 2, M := Ti.others 2 (kW x).M, W := Ob.others 2 (kW x).W } : Kd).c x + 1) 255) } : Kd) with M := Ti.sleepOn t ({ ({ (kW x) with l := remL LS 2, M := Ti.others 2 (kW x).M, W := Ob.others 2 (kW x).W } : Kd) with c := Ob.upd ({ (kW x) with l := remL LS 2, M := Ti.others 2 (kW x).M, W := Ob.others 2 (kW x).W } : Kd).c x (min (({ (kW x) with l := remL LS 2, M := Ti.others 2 (kW x).M, W := Ob.others 2 (kW x).W } : Kd).c x + 1) 255) } : Kd).M } := by unfold wakeK; rw [HD]; rfl
  have HT : (tids (remL LS 2)).length = 1 := F.out.tx
  clear hWx
  have HE := hid HE
  have HK := hid HK
  have HF := hid HF
  have HG := hid HG
  have HD := hid HD
  have HL := hid HL
  have HT := hid HT
  clear hx hy hyx
  go_enter Tryz.func4, Tryz.ntmps4
  go_wp2_with (first
    | (go_at_call 10; (with_reducible refine (known_any _).yields ?_); intro p0)
    | (go_at_call 11; (with_reducible refine (k_new w0 _ (by repeat (first | exact Ext.refl _ | assumption | refine Ext.more ?_ _ | refine Ext.drew ?_ | refine Ext.drewN ?_ _ | refine Ext.alloc ?_ _ | refine Ext.setCell ?_ (by simp; try omega) _ | refine Ext.trans ?_ (by assumption))) 3 0).mono ?_); rintro e v1 ⟨b, rfl, s1, x1⟩; rw [show max (1 : Int) (min 3 8) = 3 by decide, show max (0 : Int) (min 0 4) = 0 by decide] at s1; clear x1)
    | (go_at_call 12; (with_reducible refine (spawn_ok (p := 0) (wt := 3) (k' := kA) s1 (by decide) F.out.s0 (n := 2) (by decide) rfl).mono ?_); rintro e v2 ⟨rfl, s2⟩; clear s1)
    | (go_at_call 17; (with_reducible refine (wait_ok (k' := kW x) s2 HAL.out (eW s2.ok HX.out).1 (eW s2.ok HX.out).2.1 (eW s2.ok HX.out).2.2).mono ?_); rintro e v3 ⟨rfl, s3⟩; clear s2)
    | (go_at_call 17; (with_reducible refine (wait_er (k := (kW x)) (id := 2) (o := x) s3 HLA.out HYE.out).mono ?_); rintro e v4 ⟨rfl, s4⟩; clear s3)
    | (go_at_call 16; (with_reducible refine (sleep_er (k := (kW x)) (id := 2) (u := t) s4 HLA.out HYE.out).mono ?_); rintro e v5 ⟨rfl, s5⟩; clear s4; have S5 := hid s5; clear s5)
    | (go_at_call 18; (with_reducible refine (is_errno_to (r := true) rfl _).yields ?_); intro p1)
    | (go_at_call 19; (with_reducible refine (readyL_to (S5.out.ext (by repeat (first | exact Ext.refl _ | assumption | refine Ext.more ?_ _ | refine Ext.drew ?_ | refine Ext.drewN ?_ _ | refine Ext.alloc ?_ _ | refine Ext.setCell ?_ (by simp; try omega) _ | refine Ext.trans ?_ (by assumption)))) HRN.out).mono ?_); rintro e v6 ⟨rfl, x6⟩; have s6 := (S5.out.ext (by repeat (first | exact Ext.refl _ | assumption | refine Ext.more ?_ _ | refine Ext.drew ?_ | refine Ext.drewN ?_ _ | refine Ext.alloc ?_ _ | refine Ext.setCell ?_ (by simp; try omega) _ | refine Ext.trans ?_ (by assumption)))).ext x6; clear S5 x6 HRN)
    | (go_at_call 14; (with_reducible refine (exit_ok s6 HLA.out HE.out HK.out).mono ?_); rintro e v7 ⟨rfl, s7⟩; clear s6)
    | (go_at_call 21; (with_reducible refine (signal_ok s7 HF.out HG.out).mono ?_); rintro e v8 ⟨rfl, s8⟩; clear s7)
    | (go_at_call 20; (with_reducible refine (k_wake s8 HD.out HL.out).mono ?_); rintro e v9 ⟨vd, rfl, s9, o9⟩; obtain ⟨pd, cd, rfl⟩ := shapeOf o9; clear s8 o9; have S9 := hid s9; clear s9)
    | (go_at_call 22; (with_reducible refine (k_threads (S9.out.ext (by repeat (first | exact Ext.refl _ | assumption | refine Ext.more ?_ _ | refine Ext.drew ?_ | refine Ext.drewN ?_ _ | refine Ext.alloc ?_ _ | refine Ext.setCell ?_ (by simp; try omega) _ | refine Ext.trans ?_ (by assumption))))).mono ?_); rintro e v10 ⟨vt, rfl, x10, o10⟩; obtain ⟨pt, ct, et⟩ := shapeOf o10; rw [HT.out] at et; subst et; clear o10; have S10 := hid ((S9.out.ext (by repeat (first | exact Ext.refl _ | assumption | refine Ext.more ?_ _ | refine Ext.drew ?_ | refine Ext.drewN ?_ _ | refine Ext.alloc ?_ _ | refine Ext.setCell ?_ (by simp; try omega) _ | refine Ext.trans ?_ (by assumption)))).ext x10); clear x10)
    )
  go_returns
  exact ⟨rfl, S10.out.xt.trans (by repeat (first | exact Ext.refl _ | assumption | refine Ext.more ?_ _ | refine Ext.drew ?_ | refine Ext.drewN ?_ _ | refine Ext.alloc ?_ _ | refine Ext.setCell ?_ (by simp; try omega) _ | refine Ext.trans ?_ (by assumption)))⟩
theorem walk (how by' ob n : Int) (b0 : 0 ≤ how) (b1 : 0 ≤ by') (b2 : 0 ≤ ob) (b3 : 0 ≤ n) (b4 : n < 256) (w0 : World) :
    Calls Tryz.prog 4 #[.int .u8 how, .int .u8 by', .int .u8 ob, .int .u8 n] w0 (Yields w0 (.bool true)) := by
  obtain ⟨t, rfl⟩ : ∃ t : Nat, n = t := ⟨n.toNat, by omega⟩
  obtain ⟨x, ho⟩ : ∃ x : Nat, ob % 4 = x := ⟨(ob % 4).toNat, by omega⟩
  obtain ⟨y, hy⟩ : ∃ y : Nat, ((x : Int) + 1) % 4 = y := ⟨(((x : Int) + 1) % 4).toNat, by omega⟩
  have h1 : how % 2 = 0 ∨ how % 2 = 1 := by omega
  have h2 : by' % 4 = 0 ∨ by' % 4 = 1 ∨ by' % 4 = 2 ∨ by' % 4 = 3 := by omega
  rcases h1 with h1 | h1 <;> rcases h2 with h2 | h2 | h2 | h2
  · exact walk00 how by' ob t x y h1 h2 ho (by omega) (by omega) (by omega) (by omega) hy b0 b1 b2 w0
  · exact walk01 how by' ob t x y h1 h2 ho (by omega) (by omega) (by omega) (by omega) hy b0 b1 b2 w0
  · exact walk02 how by' ob t x y h1 h2 ho (by omega) (by omega) (by omega) (by omega) hy b0 b1 b2 w0
  · exact walk03 how by' ob t x y h1 h2 ho (by omega) (by omega) (by omega) (by omega) hy b0 b1 b2 w0
  · exact walk10 how by' ob t x y h1 h2 ho (by omega) (by omega) (by omega) (by omega) hy b0 b1 b2 w0
  · exact walk11 how by' ob t x y h1 h2 ho (by omega) (by omega) (by omega) (by omega) hy b0 b1 b2 w0
  · exact walk12 how by' ob t x y h1 h2 ho (by omega) (by omega) (by omega) (by omega) hy b0 b1 b2 w0
  · exact walk13 how by' ob t x y h1 h2 ho (by omega) (by omega) (by omega) (by omega) hy b0 b1 b2 w0
set_option linter.unusedVariables false in
set_option maxRecDepth 100000 in
theorem lifted (os : Os) (started : os.Started) (H : Type) (enc : TypeId × Value → H) :
    ReturnsInHanded {} Tryz.checked os 4 .any (Rows.kernelStatesSpec.pre6 enc Tryz.prog Tryz.f4 Rows.kernelStatesRow.domain false) (Rows.kernelStatesSpec.post enc Tryz.prog Tryz.f4 false true false false) := by
  refine returnsInHanded_of_change (C := Tryz.checked) Own.own started (by kernel_rfl) Tryz.func4
    (ChangeSpec.witness6 (enc := enc) (C := Tryz.checked) false ⟨#[], #[.int .u8 0, .int .u8 0, .int .u8 0, .int .u8 0], []⟩ 8 (by kernel_rfl) (by kernel_rfl) (by kernel_rfl) (by kernel_rfl)) ?_
  intro W base args ds gs before hval0 hW hcnd _
  have hval : ∀ (j : Nat) t v, Tryz.f4.params[j]? = some t → args[j]? = some v → Value.okWide Tryz.prog W .any base t v := hval0
  have hW' := hW
  obtain ⟨p, q, hA0, hV, rfl, hfz, hnd⟩ := hW
  have hA : DataW.TrodAll enc Tryz.prog W 0 (fun _ => true) true Tryz.f4.params.toList args.toList ds p := hA0
  rw [Tryz.params4] at hA hval
  obtain ⟨v0, vs0, d0, ds0, p0, q0, hargs, rfl, rfl, h0, r0⟩ := trodAll_cons hA
  obtain ⟨v1, vs1, d1, ds1, p1, q1, rfl, rfl, rfl, h1, r1⟩ := trodAll_cons r0
  obtain ⟨v2, vs2, d2, ds2, p2, q2, rfl, rfl, rfl, h2, r2⟩ := trodAll_cons r1
  obtain ⟨v3, vs3, d3, ds3, p3, q3, rfl, rfl, rfl, h3, r3⟩ := trodAll_cons r2
  obtain ⟨rfl, rfl, rfl⟩ := trodAll_nil r3
  obtain rfl : args = #[v0, v1, v2, v3] := by cases args; simp_all
  obtain ⟨rfl, rfl⟩ := trodVars_none hV
  have k0 := h0
  have lt0 : ∀ x ∈ p0, x.block < W.heap.size := by obtain ⟨m, hm⟩ := k0; exact DataW.trod_lt m _ _ _ hm
  have k1 := h1
  have lt1 : ∀ x ∈ p1, x.block < W.heap.size := by obtain ⟨m, hm⟩ := k1; exact DataW.trod_lt m _ _ _ hm
  have k2 := h2
  have lt2 : ∀ x ∈ p2, x.block < W.heap.size := by obtain ⟨m, hm⟩ := k2; exact DataW.trod_lt m _ _ _ hm
  have k3 := h3
  have lt3 : ∀ x ∈ p3, x.block < W.heap.size := by obtain ⟨m, hm⟩ := k3; exact DataW.trod_lt m _ _ _ hm
  obtain ⟨n0, rfl, rfl, rfl, wn0⟩ := open_int Tryz.underlying5 (hval 0 5 v0 rfl rfl) h0
  obtain ⟨n1, rfl, rfl, rfl, wn1⟩ := open_int Tryz.underlying5 (hval 1 5 v1 rfl rfl) h1
  obtain ⟨n2, rfl, rfl, rfl, wn2⟩ := open_int Tryz.underlying5 (hval 2 5 v2 rfl rfl) h2
  obtain ⟨n3, rfl, rfl, rfl, wn3⟩ := open_int Tryz.underlying5 (hval 3 5 v3 rfl rfl) h3
  have bn0 := bounds_u8 wn0
  have bn1 := bounds_u8 wn1
  have bn2 := bounds_u8 wn2
  have bn3 := bounds_u8 wn3
  clear hA0 hval0
  refine (walk n0 n1 n2 n3 (by omega) (by omega) (by omega) (by omega) (by omega) W).mono fun e W' ⟨he, hx⟩ => ?_
  subst he
  exact ⟨_, rfl, _, _, _, [], _, [], hW', trodAll_mk1 (shut_bool Tryz.underlying4 _), (trodAll_cons_mk (Below.trod Own.laidOut (by kernel_rfl) (of_decide_eq_true (by kernel_rfl)) k0 hx.below lt0) (trodAll_cons_mk (Below.trod Own.laidOut (by kernel_rfl) (of_decide_eq_true (by kernel_rfl)) k1 hx.below lt1) (trodAll_cons_mk (Below.trod Own.laidOut (by kernel_rfl) (of_decide_eq_true (by kernel_rfl)) k2 hx.below lt2) (trodAll_cons_mk (Below.trod Own.laidOut (by kernel_rfl) (of_decide_eq_true (by kernel_rfl)) k3 hx.below lt3) trodAll_mk0)))), rfl, hx.below.frame _, fun h => by cases h⟩

theorem proved : Rows.KernelStatesSaid :=
  OpenClaim.holds_of_wide 4 Tryz.f4 rfl rfl rfl rfl rfl rfl rfl ⟨rfl, rfl, rfl, rfl, rfl⟩ rfl rfl rfl rfl rfl (by kernel_rfl) Tryz.func4 (by kernel_rfl)
    (of_decide_eq_true (by kernel_rfl)) (by unfold Func.isWrapper; first | (rw [if_pos (by decide +kernel)]; kernel_rfl) | (rw [if_neg (by decide +kernel)]; exact ⟨rfl, rfl⟩))
    (fun os started H enc _ => lifted os started H enc)

end kernelStates
end Go.Proofs.YtocicffmajbecaaGreat
