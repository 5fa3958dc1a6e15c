/- KernelWakes: all whose time has come wake at once, by their numbers; who exited doesn't: the law answers true. No conditions. -/
import Derived.Test.YtocicffmajbecaaGreatPkAll
import Derived.WalkKit
import Derived.WalkSpells
import Derived.WalkLawsBesides
import Derived.Handy
import Derived.Test.YtocicffmajbecaaGreatErr
import Derived.Test.YtocicffmajbecaaGreatOwn2
import Derived.Deep.LoopGhost
import Derived.IntWalk
namespace Go.Proofs.YtocicffmajbecaaGreat
open Go.RowKit
set_option linter.unusedSimpArgs false
namespace Pk
open Kn
theorem thrPos {l : List Nd} (hw : Wf l) {n : Nd} (hn : n ∈ l) (ht : n.thr = true) : 0 < n.id := by
  have h0 := (hw.sk.clo n hn).1
  rcases Int.lt_or_eq_of_le h0 with h | h
  · exact h
  · obtain ⟨r, hr, hr0, hrp, -⟩ := hw.root
    have := par_thr hw hn ht
    rw [uniqU hw.sk.ids hn hr (by omega)] at this
    omega
theorem run_st {th gr : Int} {k : Kd} (hk : KOk th gr k) {n : Int} (h : runK k.l = (n, true)) : 1 ≤ n ∧ n ≤ k.last ∧ stU k.l n = some true := by
  obtain ⟨r, hr, hr0, -, -⟩ := hk.wf.root
  cases hrd : r.rdy with
  | false =>
    have := hk.wf.run_none hr hr0 hrd
    simp [runK, this] at h
  | true =>
    obtain ⟨R, hR, -, t, ht, e1, e2, e3⟩ := hk.wf.run hr hr0 hrd
    have hn : R.1 = n := by
      simp only [runK, hR] at h
      exact congrArg Prod.fst h
    obtain ⟨m, hm, ek⟩ := (run_sim 6 hR).back ht
    obtain ⟨k1, k2, k3, k4, k5⟩ := keyR_eq ek
    have hid : m.id = n := by rw [k1, e1, hn]
    have hp := thrPos hk.wf hm (k3.trans e2)
    have hl := hk.low m hm
    exact ⟨by omega, by omega, (stU_some hk.wf.sk.ids).2 ⟨m, hm, hid, k3.trans e2, k5.trans e3⟩⟩
theorem run_no {l : List Nd} {n : Int} (h : runK l = (n, false)) : n = 0 := by
  unfold runK at h
  cases hR : runU 6 l 0 with
  | none => rw [hR] at h; exact (congrArg Prod.fst h).symm
  | some R => rw [hR] at h; cases h
end Pk
end Go.Proofs.YtocicffmajbecaaGreat

namespace Go.Proofs.YtocicffmajbecaaGreat
open Go.RowKit
set_option maxRecDepth 100000
set_option linter.unusedSimpArgs false
namespace Pk
open Rw (En)
open Kn

def rdN (l : List Nd) (id : Int) : Bool := match getU l id with
  | none => false
  | some n => n.rdy
theorem rdN_of {l : List Nd} {id : Int} {r : Bool} (h : stU l id = some r) : rdN l id = r := by
  unfold stU at h
  unfold rdN
  cases hg : getU l id with
  | none => rw [hg] at h; cases h
  | some n =>
    rw [hg] at h
    cases ht : n.thr <;> simp [ht] at h
    exact h
section
variable {w0 w w' : World} {b : Nat} {th gr : Int} {k : Kd}
set_option maxHeartbeats 4000000 in
theorem readyL_any (h : S w0 b th gr k w) (id : Int) : Calls Tryz.prog 19 #[.pointer (some ⟨b, 0, none⟩), .int .i64 id] w (Yields w (.bool (rdN k.l id))) := by
  have CN := hid (fun w' (e : Ext w w') => k_nodes (h.ext e))
  have hb := h.lt
  have hlen := h.ok.wf.sk.len
  have HI := hid h.ok.wf.sk.ids
  clear h
  generalize k.l = l at *
  go_enter Tryz.func19, Tryz.ntmps19
  go_wp2_with fail
  (with_reducible refine (CN.out _ (by repeat (first | exact Ext.refl _ | assumption | refine Ext.more ?_ _ | refine Ext.drew ?_ | refine Ext.drewN ?_ _ | refine Ext.alloc ?_ _ | refine Ext.setCell ?_ (by simp; try omega) _ | refine Ext.trans ?_ (by assumption)))).mono ?_)
  rintro e w1 ⟨vn, rfl, hx1, hn⟩
  obtain ⟨p, cap, rfl, hc1, hc2⟩ := hn.shape
  have HN := hid hn
  have HX1 := hid hx1
  rw [List.length_map] at hc1
  unfold maxLen at hc2
  clear hn hx1
  rw [List.length_map]
  go_wp2_with fail
  go_loopw [6] (fun s wr => ∃ i : Nat, s = .int .i64 i ∧ i ≤ l.length ∧ Ext w1 wr ∧ Hid (∀ n ∈ l.take i, n.id ≠ id)) (fun s _ => (l.length - (intOf s).toNat))
  case atStart => exact ⟨0, rfl, Nat.zero_le _, Ext.refl _, fun n hn => by simp at hn⟩
  case round =>
    obtain ⟨i, rfl, hi, X, hno⟩ := hrel
    by_cases hlt : i < l.length
    · obtain ⟨g, off, rfl, e0, -, -, -, -, e5⟩ := HN.out.at i (by simpa using hlt)
      rw [List.getElem_map] at e0 e5
      simp only [Nd.nn] at e0 e5
      have f0 := X.cell e0
      have f5 := X.cell e5
      clear e0 e5
      have i1 : (i : Int) < l.length := by omega
      have HM : Hid (l[i] ∈ l) := List.getElem_mem hlt
      have HT : Hid (l.take (i + 1) = l.take i ++ [l[i]]) := List.take_succ_eq_append_getElem hlt
      generalize l[i] = n at *
      by_cases he : n.id = id
      · have j1 : (n.id == id) = true := by simpa using he
        have HR : Hid (rdN l id = n.rdy) := by
          unfold rdN Hid
          rw [← he, getU_of HI.out HM.out]
        clear he
        go_wp2
        go_returns
        exact ⟨by rw [HR.out]; rfl, (HX1.out.trans X).trans (by repeat (first | exact Ext.refl _ | assumption | refine Ext.more ?_ _ | refine Ext.drew ?_ | refine Ext.drewN ?_ _ | refine Ext.alloc ?_ _ | refine Ext.setCell ?_ (by simp; try omega) _ | refine Ext.trans ?_ (by assumption)))⟩
      · have j1 : (n.id == id) = false := by simpa using he
        have HS : Hid (∀ m ∈ l.take (i + 1), m.id ≠ id) := fun m hm => by
          rw [HT.out] at hm
          rcases List.mem_append.1 hm with hm | hm
          · exact hno.out m hm
          · rw [List.mem_singleton.1 hm]; exact he
        clear he
        go_wp2
        go_roundw
        case rel => exact ⟨i + 1, by go_num, by omega, X, HS.out⟩
        case measure => simp [intOf]; omega
    · have HR : Hid (rdN l id = false) := by
        have hn := hno.out
        rw [List.take_of_length_le (by omega)] at hn
        unfold rdN Hid
        rw [getU_none.2 hn]
      go_wp2
      go_returns
      exact ⟨by rw [HR.out]; rfl, HX1.out.trans X⟩
theorem readyL_to (h : S w0 b th gr k w) {id : Int} {r : Bool} (e : rdN k.l id = r) : Calls Tryz.prog 19 #[.pointer (some ⟨b, 0, none⟩), .int .i64 id] w (Yields w (.bool r)) := e ▸ readyL_any h id
end
end Pk
end Go.Proofs.YtocicffmajbecaaGreat

namespace Go.Proofs.YtocicffmajbecaaGreat
open Go.RowKit
set_option maxRecDepth 100000
set_option linter.unusedSimpArgs false
namespace Pk
open Rw (En)
open Kn

def q1 : Kd := runK' k0
def q2 : Kd := spawnK 2 q1 0 2
def q3 : Kd := groupK 1 q2 0 1
def q4 : Kd := sleepK q3 1 9
def q5 : Kd := waitK q4 2 0
def q6 : Kd := signalK q5 0
def q7 : Kd := runK' q6
def q8 : Kd := { q7 with l := wakes q7.l [1], M := Ti.sleepOn 9 q7.M }
theorem shapeOf {w : World} {base T n m : Nat} {v : Value} {xs : List Value} (h : w.ownsRow base T n v m xs) : ∃ p c, v = .slice p m c := by
  rcases h.2 with ⟨rfl, rfl⟩ | ⟨g, cap, cur, rfl, _⟩
  · exact ⟨none, 0, rfl⟩
  · exact ⟨_, cap, rfl⟩
theorem due_one {k : Kd} {tick id u : Int} (h : k.M = [(id, u)]) (hu : u ≤ tick) : Ti.dueIds tick k.M = [id] := by
  unfold Ti.dueIds
  refine Ti.sortI_of ?_ (List.pairwise_singleton _ _)
  unfold Ti.isDue
  rw [h]
  simp [hu]
structure QF : Prop where
  r0 : runK k0.l = (1, true)
  s1 : spawnE 2 q1 0 2 = 0
  l1 : q1.last = 1
  s2 : spawnE 2 q2 0 2 = 14
  l2 : q2.last = 2
  g2 : groupE 1 q2 0 1 = 0
  l3 : q3.last = 3
  y3 : rdyE q3 1 = 0
  l4 : q4.last = 3
  w4 : (waitA q4 2 0).on = false ∧ (waitA q4 2 0).err = 0
  r5 : rootR q5.l = false
  i5 : (Ob.sigR 0 q5.c q5.W).err = 0
  r6 : runK q6.l = (2, true)
  m7 : q7.M = [(1, 9)]
  u8 : stU q8.l 7 = none
  t8 : (tids q8.l).length = 2
  n8 : q8.l.length = 4
theorem qf : QF := by
  constructor
  all_goals first | kernel_rfl | (constructor <;> kernel_rfl) | decide
set_option maxHeartbeats 8000000 in
theorem known_any (w : World) : Calls Tryz.prog 10 #[] w (Yields w (.bool true)) := by
  have F := hid qf
  have hqn := fun w => run_eql_nil_nil' (P := Tryz.prog) w Tryz.underlying29
  have hnn := fun w => run_neq_nil_nil' (P := Tryz.prog) w Tryz.underlying29
  go_enter Tryz.func10, Tryz.ntmps10
  go_wp2_with fail
  (with_reducible refine (k_new w w (Ext.refl w) 2 1).mono ?_)
  rintro e v1 ⟨b, rfl, s1, -⟩
  rw [show max (1 : Int) (min 2 8) = 2 by decide, show max (0 : Int) (min 1 4) = 1 by decide] at s1
  go_wp2_with fail
  (with_reducible refine (k_run (k' := q1) s1 F.out.r0 rfl).mono ?_)
  rintro e v2 ⟨rfl, s2⟩
  clear s1
  go_wp2_with fail
  (with_reducible refine (spawn_ok (p := 0) (wt := 2) (k' := q2) s2 (by rw [F.out.l1]; decide) F.out.s1 (n := 2) (by rw [F.out.l1]; decide) rfl).mono ?_)
  rintro e v3 ⟨rfl, s3⟩
  clear s2
  go_wp2_with fail
  (with_reducible refine (spawn_er (p := 0) (wt := 2) s3 (by rw [F.out.l2]; decide) F.out.s2 (by decide)).mono ?_)
  rintro e v4 ⟨rfl, s4⟩
  clear s3
  go_wp2_with fail
  (with_reducible refine (group_ok (p := 0) (wt := 1) (k' := q3) s4 (by rw [F.out.l2]; decide) F.out.g2 (n := 3) (by rw [F.out.l2]; decide) rfl).mono ?_)
  rintro e v5 ⟨rfl, s5⟩
  clear s4
  go_wp2_with fail
  (with_reducible refine (sleep_ok (id := 1) (u := 9) (k' := q4) s5 (by rw [F.out.l3]; decide) F.out.y3 rfl).mono ?_)
  rintro e v6 ⟨rfl, s6⟩
  clear s5
  go_wp2_with fail
  (with_reducible refine (wait_ok (id := 2) (o := 0) (k' := q5) s6 (by rw [F.out.l4]; decide) F.out.w4.1 F.out.w4.2 rfl).mono ?_)
  rintro e v7 ⟨rfl, s7⟩
  clear s6
  go_wp2_with fail
  (with_reducible refine (k_runnable s7 F.out.r5).mono ?_)
  rintro e v8 ⟨rfl, x8⟩
  have s8 := s7.ext x8
  clear s7 x8
  go_wp2_with fail
  (with_reducible refine (signal_ok (o := 0) (k' := q6) s8 F.out.i5 rfl).mono ?_)
  rintro e v9 ⟨rfl, s9⟩
  clear s8
  go_wp2_with fail
  (with_reducible refine (k_run (k' := q7) s9 F.out.r6 rfl).mono ?_)
  rintro e v10 ⟨rfl, s10⟩
  clear s9
  have hd : Ti.dueIds 9 q7.M = [1] := due_one F.out.m7 (by decide)
  have h8 : wakeK q7 9 = q8 := by
    unfold wakeK
    rw [hd]
    rfl
  go_wp2_with fail
  (with_reducible refine (k_wake (k' := q8) s10 hd h8).mono ?_)
  rintro e v11 ⟨vd, rfl, s11, o11⟩
  clear s10 hd h8
  go_wp2_with fail
  (with_reducible refine (exit_er (id := 7) s11 F.out.u8).mono ?_)
  rintro e v12 ⟨rfl, x12⟩
  have s12 := s11.ext x12
  have o12 := owns_ext o11 x12
  clear s11 o11
  rcases o12.2 with ⟨e, e0⟩ | ⟨g', cap', cur, rfl, e2, e3, e4, e5, e6, e7⟩
  · cases e0
  have c0 : v12.cell? ⟨g', 0, none⟩ = some (.int .i64 1) := by
    have : ([Value.int .i64 1])[0]? = some (.int .i64 1) := rfl
    have e7 : cur.toList.take 1 = [Value.int .i64 1] := e7
    rw [← e7, List.getElem?_take, if_pos (by decide)] at this
    simp only [World.cell?, e3]
    simpa using this
  have hg := (World.ownsRow.lt o12 g' rfl).2
  clear o12 e2 e3 e4 e5 e6 e7
  go_wp2_with (first
    | (go_at_call 18; (with_reducible refine (is_errno_to (r := true) rfl _).yields ?_); intro p1))
  (with_reducible refine (k_threads (s12.ext (by repeat (first | exact Ext.refl _ | assumption | refine Ext.more ?_ _ | refine Ext.drew ?_ | refine Ext.drewN ?_ _ | refine Ext.alloc ?_ _ | refine Ext.setCell ?_ (by simp; try omega) _ | refine Ext.trans ?_ (by assumption))))).mono ?_)
  rintro e v13 ⟨vt, rfl, x13, o13⟩
  obtain ⟨p3, c3, rfl⟩ : ∃ p c, vt = .slice p 2 c := by
    have := shapeOf o13
    rwa [F.out.t8] at this
  have X13 := hid x13
  clear o13 x13
  go_wp2_with fail
  (with_reducible refine (k_nodes ((s12.ext (by repeat (first | exact Ext.refl _ | assumption | refine Ext.more ?_ _ | refine Ext.drew ?_ | refine Ext.drewN ?_ _ | refine Ext.alloc ?_ _ | refine Ext.setCell ?_ (by simp; try omega) _ | refine Ext.trans ?_ (by assumption)))).ext X13.out)).mono ?_)
  rintro e v14 ⟨vn, rfl, x14, o14⟩
  obtain ⟨p4, c4, rfl⟩ : ∃ p c, vn = .slice p 4 c := by
    obtain ⟨p, c, e, -, -⟩ := o14.shape
    rw [List.length_map, F.out.n8] at e
    exact ⟨p, c, e⟩
  have S14 := hid (((s12.ext (by repeat (first | exact Ext.refl _ | assumption | refine Ext.more ?_ _ | refine Ext.drew ?_ | refine Ext.drewN ?_ _ | refine Ext.alloc ?_ _ | refine Ext.setCell ?_ (by simp; try omega) _ | refine Ext.trans ?_ (by assumption)))).ext X13.out).ext x14)
  clear s12 o14 x14 X13
  go_wp2
  go_returns
  exact ⟨rfl, S14.out.xt.trans (by repeat (first | exact Ext.refl _ | assumption | refine Ext.more ?_ _ | refine Ext.drew ?_ | refine Ext.drewN ?_ _ | refine Ext.alloc ?_ _ | refine Ext.setCell ?_ (by simp; try omega) _ | refine Ext.trans ?_ (by assumption)))⟩
end Pk
end Go.Proofs.YtocicffmajbecaaGreat

namespace Go.Proofs.YtocicffmajbecaaGreat
open Go.RowKit
set_option linter.unusedSimpArgs false
namespace Pk
open Rw (En)
open Kn
theorem due_none {M : List En} {tick : Int} (h : ∀ e ∈ M, tick < e.2) : Ti.dueIds tick M = [] := by
  unfold Ti.dueIds
  refine Ti.sortI_of ?_ List.Pairwise.nil
  unfold Ti.isDue
  have : (M.filter fun e => decide (e.2 ≤ tick)) = [] := List.filter_eq_nil_iff.2 fun e he => by
    have := h e he
    simp; omega
  rw [this]
  simp
theorem sig_none {k : Kd} {x : Nat} (hx : x < 4) (hW : k.W x = []) : (Ob.sigR x k.c k.W).err = 0 ∧ signalK k x = { k with c := Ob.upd k.c x (min (k.c x + 1) 255) } := by
  rcases signal_cases k x with ⟨h, -⟩ | ⟨i, hi, e, h1, h2, h3⟩ | ⟨i, id, rest, hi, e, h1, -⟩
  · omega
  · obtain rfl : x = i := by omega
    exact ⟨by rw [h2], h3⟩
  · obtain rfl : x = i := by omega
    rw [hW] at h1; cases h1
theorem sig_one {k : Kd} {x : Nat} {id : Int} {rest : List Int} (hx : x < 4) (hW : k.W x = id :: rest) : (Ob.sigR x k.c k.W).err = 0 ∧ signalK k x = { k with l := rdyL k.l id true, W := Ob.upd k.W x rest } := by
  rcases signal_cases k x with ⟨h, -⟩ | ⟨i, hi, e, h1, h2, h3⟩ | ⟨i, id', rest', hi, e, h1, h2, h3⟩
  · omega
  · obtain rfl : x = i := by omega
    rw [hW] at h1; cases h1
  · obtain rfl : x = i := by omega
    rw [hW] at h1
    injection h1 with e1 e2
    subst e1 e2
    exact ⟨by rw [h2], h3⟩
/-- One who is ready begins to wait. -/
theorem wait_new {th gr : Int} {k : Kd} (hk : KOk th gr k) {id : Int} {x : Nat} (hx : x < 4) (hs : stU k.l id = some true) (hc : k.c x = 0) : (waitA k id x).on = false ∧ (waitA k id x).err = 0 ∧ waitK k id x = { k with l := rdyL k.l id false, W := Ob.upd k.W x (k.W x ++ [id]) } := by
  rcases wait_cases hk id x with ⟨e, h0, h1, h2, h3, -⟩ | ⟨i, hi, e, -, h1, -⟩ | ⟨i, hi, e, -, h1, h2, h3⟩
  · exfalso
    have h10 : e = 10 := h1.resolve_left fun e13 => (h2.1 e13) hs
    subst h10
    unfold waitA at h3
    rw [if_pos (rdyE_zero.2 hs)] at h3
    unfold Ob.waitR at h3
    rw [if_neg (by omega)] at h3
    split at h3
    · cases h3
    · split at h3 <;> cases h3
  · obtain rfl : x = i := by omega
    omega
  · obtain rfl : x = i := by omega
    exact ⟨by rw [h2], by rw [h2], h3⟩
/-- One who is ready goes on. -/
theorem wait_go {th gr : Int} {k : Kd} (hk : KOk th gr k) {id : Int} {x : Nat} (hx : x < 4) (hs : stU k.l id = some true) (hc : 0 < k.c x) : (waitA k id x).on = true ∧ (waitA k id x).err = 0 ∧ waitK k id x = { k with c := Ob.upd k.c x (k.c x - 1) } := by
  rcases wait_cases hk id x with ⟨e, h0, h1, h2, h3, -⟩ | ⟨i, hi, e, -, h1, h2, h3⟩ | ⟨i, hi, e, -, h1, -⟩
  · exfalso
    have h10 : e = 10 := h1.resolve_left fun e13 => (h2.1 e13) hs
    subst h10
    unfold waitA at h3
    rw [if_pos (rdyE_zero.2 hs)] at h3
    unfold Ob.waitR at h3
    rw [if_neg (by omega)] at h3
    split at h3
    · cases h3
    · split at h3 <;> cases h3
  · obtain rfl : x = i := by omega
    exact ⟨by rw [h2], by rw [h2], h3⟩
  · obtain rfl : x = i := by omega
    omega
theorem rdyE_13 {k : Kd} {id : Int} (h : stU k.l id ≠ some true) : rdyE k id = 13 := by
  unfold rdyE
  rw [if_neg h]
theorem exit_zero {k : Kd} {id : Int} {r : Bool} (h : stU k.l id = some r) : exitE k id = 0 ∧ exitK k id = { k with l := remL k.l id, M := Ti.others id k.M, W := Ob.others id k.W } := by
  have e1 : exitE k id = 0 := by unfold exitE; rw [if_neg (by rw [h]; simp)]
  exact ⟨e1, by unfold exitK; rw [if_pos e1]⟩
end Pk
end Go.Proofs.YtocicffmajbecaaGreat

namespace Go.Proofs.YtocicffmajbecaaGreat
open Go.RowKit
set_option linter.unusedSimpArgs false
set_option maxRecDepth 100000
namespace Pk
open Rw (En)
open Kn

structure V where
  r : Int → Option Bool
  last : Int
  c : Nat → Int
  W : Nat → List Int
  M : List En
  n : Int
/-- One told ready or not. -/
def V.turn (v : V) (id : Int) (q : Option Bool) : V := { v with r := fun j => if j = id then q else v.r j }
def KV (w0 : World) (b : Nat) (v : V) (w : World) : Prop :=
  ∃ k, S w0 b 8 0 k w ∧ k.last = v.last ∧ (∀ j, stU k.l j = v.r j) ∧ (∀ x, x < 4 → k.c x = v.c x) ∧ (∀ x, x < 4 → k.W x = v.W x) ∧ k.M = v.M ∧ (cntT k.l : Int) = v.n
def v0 : V := ⟨fun j => if j = 1 then some true else none, 1, fun _ => 0, fun _ => [], [], 1⟩
theorem stU_k0 (j : Int) : stU k0.l j = if j = 1 then some true else none := by
  have e : k0.l = [⟨0, -1, 1, 0, false, true, 0⟩, ⟨1, 0, 1, 0, true, true, 0⟩] := by kernel_rfl
  rw [e]
  unfold stU getU
  by_cases h0 : j = 0
  · subst h0; rfl
  · by_cases h1 : j = 1
    · subst h1; rfl
    · have a0 : ((0 : Int) == j) = false := by simpa using fun e : (0 : Int) = j => h0 e.symm
      have a1 : ((1 : Int) == j) = false := by simpa using fun e : (1 : Int) = j => h1 e.symm
      simp [List.find?, a0, a1, h1]
section
variable {w0 w w' : World} {b x : Nat} {v : V} {id : Int}
theorem KV.ext (h : KV w0 b v w) (e : Ext w w') : KV w0 b v w' := by
  obtain ⟨k, h1, h2⟩ := h
  exact ⟨k, h1.ext e, h2⟩
theorem KV.lt (h : KV w0 b v w) : b < w.heap.size := by
  obtain ⟨k, h1, -⟩ := h
  exact h1.lt
theorem KV.xt (h : KV w0 b v w) : Ext w0 w := by
  obtain ⟨k, h1, -⟩ := h
  exact h1.xt
/-- Told alike. -/
theorem KV.told {u : V} (h : KV w0 b v w) (hl : v.last = u.last) (hr : ∀ j, v.r j = u.r j) (hc : ∀ x, x < 4 → v.c x = u.c x) (hW : ∀ x, x < 4 → v.W x = u.W x) (hM : v.M = u.M) (hn : v.n = u.n) : KV w0 b u w := by
  obtain ⟨k, h1, h2, h3, h4, h5, h6, h7⟩ := h
  exact ⟨k, h1, h2.trans hl, fun j => (h3 j).trans (hr j), fun x hx => (h4 x hx).trans (hc x hx), fun x hx => (h5 x hx).trans (hW x hx), h6.trans hM, h7.trans hn⟩
theorem kv_new (w0 w : World) (hx : Ext w0 w) :
    Calls Tryz.prog 11 #[.int .i64 8, .int .i64 0] w fun e w' => ∃ b, e = .returned (.pointer (some ⟨b, 0, none⟩)) ∧ KV w0 b v0 w' ∧ Ext w w' :=
  (k_new w0 w hx 8 0).mono fun _ _ ⟨b, q, h, x⟩ => ⟨b, q, ⟨k0, h, rfl, stU_k0, fun _ _ => rfl, fun _ _ => rfl, rfl, by decide⟩, x⟩
theorem stU_spawn {th gr : Int} {k : Kd} (hk : KOk th gr k) {p wt : Int} (h : spawnE th k p wt = 0) (j : Int) : stU (spawnK th k p wt).l j = if j = k.last + 1 then some true else stU k.l j := by
  have hl1 := hk.l1
  have hz := addK_zero (k := k) (q := th - cntT k.l) (p := p) (wt := wt) (t := true) (by rw [addE_spawn hk]; exact h)
  have hs := fun j => stU_add hk.wf hz j
  unfold spawnK
  rw [if_pos h]
  show stU (rdyL (addL k.l p (k.last + 1) wt true) (k.last + 1) true) j = _
  rw [stU_rdy (b := false) (hk.wf.addL _ _ _ _) (by rw [hs, if_pos rfl]; rfl) true j, hs]
  by_cases e : j = k.last + 1
  · rw [if_pos e, if_pos e]
  · rw [if_neg e, if_neg e, if_neg e]
theorem spawn_cntT {th gr : Int} {k : Kd} (hk : KOk th gr k) {p wt : Int} (h : spawnE th k p wt = 0) : cntT (spawnK th k p wt).l = cntT k.l + 1 := by
  have hl1 := hk.l1
  have hz := addK_zero (k := k) (q := th - cntT k.l) (p := p) (wt := wt) (t := true) (by rw [addE_spawn hk]; exact h)
  obtain ⟨q1, q2, -⟩ := cnt_add (l := k.l) (by omega) hz
  unfold spawnK
  rw [if_pos h]
  show cntT (rdyL (addL k.l p (k.last + 1) wt true) (k.last + 1) true) = _
  rw [(cnt_same (kd_rdy _ _ _)).1, q1]; rfl
theorem root_grp {l : List Nd} (hw : Wf l) : grpU l 0 = true := by
  obtain ⟨r, hr, h0, -, ht⟩ := hw.root
  unfold grpU
  rw [← h0, getU_of hw.sk.ids hr]
  simp [ht]
theorem kv_spawn (h : KV w0 b v w) (hn : v.n < 8) (hl : v.last ≤ 1000) :
    Calls Tryz.prog 12 #[.pointer (some ⟨b, 0, none⟩), .int .i64 0, .int .i64 1] w fun e w' => e = .returned (.tuple #[.int .i64 (v.last + 1), .nilIface]) ∧
      KV w0 b { v with r := fun j => if j = v.last + 1 then some true else v.r j, last := v.last + 1, n := v.n + 1 } w' := by
  obtain ⟨k, h1, h2, h3, h4, h5, h6, h7⟩ := h
  have he : spawnE 8 k 0 1 = 0 := by
    unfold spawnE
    rw [if_neg (by decide), if_neg (by rw [root_grp h1.ok.wf]; decide), if_neg (by omega)]
  have hk : spawnK 8 k 0 1 = { k with l := (spawnK 8 k 0 1).l, last := k.last + 1 } := by unfold spawnK; rw [if_pos he]
  refine (spawn_ok h1 (by omega) he (by rw [h2]) rfl).mono fun e w' ⟨q, s⟩ => ⟨q, _, s, ?_, fun j => ?_, ?_, ?_, ?_, ?_⟩
  · rw [hk]; show k.last + 1 = v.last + 1; rw [h2]
  · rw [stU_spawn h1.ok he, h2, h3]
  · rw [hk]; exact h4
  · rw [hk]; exact h5
  · rw [hk]; exact h6
  · rw [spawn_cntT h1.ok he]
    show ((cntT k.l + 1 : Nat) : Int) = v.n + 1
    omega
theorem cntT_rdy (l : List Nd) (id : Int) (r : Bool) : cntT (rdyL l id r) = cntT l := (cnt_same (kd_rdy l id r)).1
theorem kv_wait (h : KV w0 b v w) (hl : v.last ≤ 1000) (hr : v.r id = some true) (hx : x < 4) (hc : v.c x = 0) :
    Calls Tryz.prog 17 #[.pointer (some ⟨b, 0, none⟩), .int .i64 id, .int .i64 x] w fun e w' => e = .returned (.tuple #[.bool false, .nilIface]) ∧ KV w0 b { v.turn id (some false) with W := Ob.upd v.W x (v.W x ++ [id]) } w' := by
  obtain ⟨k, h1, h2, h3, h4, h5, h6, h7⟩ := h
  have hs : stU k.l id = some true := (h3 id).trans hr
  obtain ⟨a1, a2, a3⟩ := wait_new h1.ok hx hs (by rw [h4 x hx, hc])
  refine (wait_ok h1 (by omega) a1 a2 a3).mono fun e w' ⟨q, s⟩ => ⟨q, _, s, h2, fun j => ?_, h4, fun y hy => ?_, h6, ?_⟩
  · show stU (rdyL k.l id false) j = if j = id then some false else v.r j
    rw [stU_rdy h1.ok.wf hs, h3]
  · show Ob.upd k.W x (k.W x ++ [id]) y = Ob.upd v.W x (v.W x ++ [id]) y
    unfold Ob.upd
    rw [h5 x hx, h5 y hy]
  · show ((cntT (rdyL k.l id false) : Nat) : Int) = v.n
    rw [cntT_rdy]; exact h7
theorem kv_go (h : KV w0 b v w) (hl : v.last ≤ 1000) (hr : v.r id = some true) (hx : x < 4) (hc : 0 < v.c x) :
    Calls Tryz.prog 17 #[.pointer (some ⟨b, 0, none⟩), .int .i64 id, .int .i64 x] w fun e w' => e = .returned (.tuple #[.bool true, .nilIface]) ∧ KV w0 b { v with c := Ob.upd v.c x (v.c x - 1) } w' := by
  obtain ⟨k, h1, h2, h3, h4, h5, h6, h7⟩ := h
  obtain ⟨a1, a2, a3⟩ := wait_go h1.ok hx ((h3 id).trans hr) (by rw [h4 x hx]; exact hc)
  refine (wait_ok h1 (by omega) a1 a2 a3).mono fun e w' ⟨q, s⟩ => ⟨q, _, s, h2, h3, fun y hy => ?_, h5, h6, h7⟩
  show Ob.upd k.c x (k.c x - 1) y = Ob.upd v.c x (v.c x - 1) y
  unfold Ob.upd
  rw [h4 x hx, h4 y hy]
theorem kv_sig1 {rest : List Int} (h : KV w0 b v w) (hx : x < 4) (hW : v.W x = id :: rest) :
    Calls Tryz.prog 21 #[.pointer (some ⟨b, 0, none⟩), .int .i64 x] w fun e w' => e = .returned .nilIface ∧ KV w0 b { v.turn id (some true) with W := Ob.upd v.W x rest } w' := by
  obtain ⟨k, h1, h2, h3, h4, h5, h6, h7⟩ := h
  have hkW : k.W x = id :: rest := (h5 x hx).trans hW
  obtain ⟨a1, a2⟩ := sig_one hx hkW
  have hs : stU k.l id = some false := (h1.ok.head hx hkW).1
  refine (signal_ok h1 a1 a2).mono fun e w' ⟨q, s⟩ => ⟨q, _, s, h2, fun j => ?_, h4, fun y hy => ?_, h6, ?_⟩
  · show stU (rdyL k.l id true) j = if j = id then some true else v.r j
    rw [stU_rdy h1.ok.wf hs, h3]
  · show Ob.upd k.W x rest y = Ob.upd v.W x rest y
    unfold Ob.upd
    rw [h5 y hy]
  · show ((cntT (rdyL k.l id true) : Nat) : Int) = v.n
    rw [cntT_rdy]; exact h7
theorem kv_sig0 (h : KV w0 b v w) (hx : x < 4) (hW : v.W x = []) :
    Calls Tryz.prog 21 #[.pointer (some ⟨b, 0, none⟩), .int .i64 x] w fun e w' => e = .returned .nilIface ∧ KV w0 b { v with c := Ob.upd v.c x (min (v.c x + 1) 255) } w' := by
  obtain ⟨k, h1, h2, h3, h4, h5, h6, h7⟩ := h
  obtain ⟨a1, a2⟩ := sig_none hx ((h5 x hx).trans hW)
  refine (signal_ok h1 a1 a2).mono fun e w' ⟨q, s⟩ => ⟨q, _, s, h2, h3, fun y hy => ?_, h5, h6, h7⟩
  show Ob.upd k.c x (min (k.c x + 1) 255) y = Ob.upd v.c x (min (v.c x + 1) 255) y
  unfold Ob.upd
  rw [h4 x hx, h4 y hy]
theorem kv_sleep (h : KV w0 b v w) (hl : v.last ≤ 1000) (hr : v.r id = some true) (u : Int) :
    Calls Tryz.prog 16 #[.pointer (some ⟨b, 0, none⟩), .int .i64 id, .int .i64 u] w fun e w' => e = .returned .nilIface ∧ KV w0 b { v.turn id (some false) with M := Ti.put id u v.M } w' := by
  obtain ⟨k, h1, h2, h3, h4, h5, h6, h7⟩ := h
  have hs : stU k.l id = some true := (h3 id).trans hr
  have he := rdyE_zero.2 hs
  refine (sleep_ok h1 (by omega) he (u := u) (k' := { k with l := rdyL k.l id false, M := Ti.put id u k.M }) (by unfold sleepK; rw [if_pos he])).mono fun e w' ⟨q, s⟩ => ⟨q, _, s, h2, fun j => ?_, h4, h5, ?_, ?_⟩
  · show stU (rdyL k.l id false) j = if j = id then some false else v.r j
    rw [stU_rdy h1.ok.wf hs, h3]
  · show Ti.put id u k.M = Ti.put id u v.M
    rw [h6]
  · show ((cntT (rdyL k.l id false) : Nat) : Int) = v.n
    rw [cntT_rdy]; exact h7
theorem kv_exit {q : Bool} (h : KV w0 b v w) (hl : v.last ≤ 1000) (hr : v.r id = some q) :
    Calls Tryz.prog 14 #[.pointer (some ⟨b, 0, none⟩), .int .i64 id] w fun e w' => e = .returned .nilIface ∧ KV w0 b { v.turn id none with M := Ti.others id v.M, W := Ob.others id v.W, n := v.n - 1 } w' := by
  obtain ⟨k, h1, h2, h3, h4, h5, h6, h7⟩ := h
  have hs : stU k.l id = some q := (h3 id).trans hr
  obtain ⟨a1, a2⟩ := exit_zero hs
  obtain ⟨c1, -⟩ := cnt_rem h1.ok.wf hs
  refine (exit_ok h1 (by omega) a1 a2).mono fun e w' ⟨q, s⟩ => ⟨q, _, s, h2, fun j => ?_, h4, fun y hy => ?_, ?_, ?_⟩
  · show stU (remL k.l id) j = if j = id then none else v.r j
    rw [stU_rem h1.ok.wf hs, h3]
  · show Ob.others id k.W y = Ob.others id v.W y
    exact Ob.others_same (h5 y hy)
  · show Ti.others id k.M = Ti.others id v.M
    rw [h6]
  · show ((cntT (remL k.l id) : Nat) : Int) = v.n - 1
    omega
theorem kv_wake (h : KV w0 b v w) (tick : Int) {ds : List Int} (hd : Ti.dueIds tick v.M = ds) :
    Calls Tryz.prog 20 #[.pointer (some ⟨b, 0, none⟩), .int .i64 tick] w fun e w' => ∃ vd, e = .returned vd ∧ KV w0 b { v with r := fun j => if j ∈ ds then some true else v.r j, M := Ti.sleepOn tick v.M } w' ∧
      w'.ownsRow w.heap.size 3 1 vd ds.length (ds.map fun i => .int .i64 i) := by
  obtain ⟨k, h1, h2, h3, h4, h5, h6, h7⟩ := h
  subst hd
  refine (k_wake h1 (by rw [h6]) rfl).mono fun e w' ⟨vd, q, s, o⟩ => ⟨vd, q, ⟨_, s, h2, fun j => ?_, h4, h5, ?_, ?_⟩, o⟩
  · rw [(h1.ok.wake tick).2 j, h6, h3]
  · show Ti.sleepOn tick k.M = Ti.sleepOn tick v.M
    rw [h6]
  · show ((cntT (wakes k.l (Ti.dueIds tick k.M)) : Nat) : Int) = v.n
    rw [(cnt_same (kd_wakes _ _)).1]; exact h7
theorem rdy_mem {k : Kd} {th gr : Int} (hk : KOk th gr k) (hs : stU k.l id = some true) : ∃ n ∈ k.l, n.id = id ∧ n.rdy = true := by
  obtain ⟨n, hn, e1, -, e3⟩ := (stU_some hk.wf.sk.ids).1 hs
  exact ⟨n, hn, e1, e3⟩
theorem kv_run (h : KV w0 b v w) (hr : v.r id = some true) (ho : ∀ j, v.r j = some true → j = id) :
    Calls Tryz.prog 15 #[.pointer (some ⟨b, 0, none⟩)] w fun e w' => e = .returned (.tuple #[.int .i64 id, .bool true]) ∧ KV w0 b v w' := by
  obtain ⟨k, h1, h2, h3, h4, h5, h6, h7⟩ := h
  obtain ⟨n, hn, e1, e3⟩ := rdy_mem h1.ok ((h3 id).trans hr)
  obtain ⟨r, R, -, -, -, hR, -⟩ := h1.ok.wf.quantum hn e3
  have hk : runK k.l = (R.1, true) := by simp [runK, hR]
  obtain ⟨-, -, hst⟩ := run_st h1.ok hk
  have hid : R.1 = id := ho _ ((h3 _).symm.trans hst)
  rw [hid] at hk
  refine (k_run h1 hk rfl).mono fun e w' ⟨q, s⟩ => ⟨q, _, s, h2, fun j => ?_, h4, h5, h6, ?_⟩
  · show stU (runL k.l) j = v.r j
    rw [stU_run h1.ok.wf]; exact h3 j
  · show ((cntT (runL k.l) : Nat) : Int) = v.n
    rw [(cnt_same (kd_sim (runL_sim k.l).s)).1]; exact h7
theorem kv_quiet (h : KV w0 b v w) (ho : ∀ j, v.r j ≠ some true) : Calls Tryz.prog 23 #[.pointer (some ⟨b, 0, none⟩)] w (Yields w (.bool false)) := by
  obtain ⟨k, h1, h2, h3, h4, h5, h6, h7⟩ := h
  refine k_runnable h1 ?_
  obtain ⟨r, hr, h0, hq⟩ := h1.ok.wf.quiet fun m hm ht => by
    cases hrd : m.rdy with
    | false => rfl
    | true => exact absurd ((h3 m.id).symm.trans ((stU_some h1.ok.wf.sk.ids).2 ⟨m, hm, rfl, ht, hrd⟩)) (ho m.id)
  unfold rootR
  rw [← h0, getU_of h1.ok.wf.sk.ids hr]
  exact hq
theorem kv_ready {q : Bool} (h : KV w0 b v w) (hr : v.r id = some q) : Calls Tryz.prog 19 #[.pointer (some ⟨b, 0, none⟩), .int .i64 id] w (Yields w (.bool q)) := by
  obtain ⟨k, h1, h2, h3, -⟩ := h
  exact readyL_to h1 (rdN_of ((h3 id).trans hr))
end
end Pk
end Go.Proofs.YtocicffmajbecaaGreat

namespace Go.Proofs.YtocicffmajbecaaGreat
open Go.ChangeShapes Go.WideShapes Go.ChangeAt Go.RowKit Go.Joins Go.Deep
set_option linter.unusedSimpArgs false
set_option maxRecDepth 100000

namespace kernelWakes
open Pk Kn
open Rw (En)
def ent (l : List Int) (t : Nat) : En := ((t : Int) + 2, l.getD t 0)
/-- The first i sleep, the last one first. -/
def slp (l : List Int) : Nat → List En
  | 0 => []
  | i + 1 => ent l i :: slp l i
theorem mem_slp {l : List Int} {e : En} : ∀ {i : Nat}, e ∈ slp l i ↔ ∃ t, t < i ∧ e = ent l t
  | 0 => ⟨fun h => absurd h (by simp [slp]), fun ⟨t, h, _⟩ => absurd h (by omega)⟩
  | i + 1 => by
    rw [slp, List.mem_cons, mem_slp]
    constructor
    · rintro (h | ⟨t, h1, h2⟩)
      · exact ⟨i, by omega, h⟩
      · exact ⟨t, by omega, h2⟩
    · rintro ⟨t, h1, h2⟩
      by_cases e : t = i
      · subst e; exact .inl h2
      · exact .inr ⟨t, by omega, h2⟩
theorem put_slp (l : List Int) (i : Nat) : Ti.put ((i : Int) + 2) (l.getD i 0) (slp l i) = slp l (i + 1) := by
  unfold Ti.put Ti.others
  rw [List.filter_eq_self.2]
  · rfl
  · intro e he
    obtain ⟨t, h1, rfl⟩ := mem_slp.1 he
    have : (t : Int) + 2 ≠ (i : Int) + 2 := by omega
    simpa [ent] using this
/-- Who is due: not the one that exited. -/
def sel (l : List Int) (j : Nat) (tick : Int) (t : Nat) : Bool := decide (t ≠ j) && decide (l.getD t 0 ≤ tick)
def due (l : List Int) (j : Nat) (tick : Int) (i : Nat) : List Nat := (List.range i).filter (sel l j tick)
theorem due_succ (l : List Int) (j : Nat) (tick : Int) (i : Nat) : due l j tick (i + 1) = due l j tick i ++ if sel l j tick i = true then [i] else [] := by
  unfold due
  rw [List.range_succ, List.filter_append]
  cases h : sel l j tick i <;> simp [h]
theorem due_le (l : List Int) (j : Nat) (tick : Int) {i n : Nat} (h : i ≤ n) : ∃ r, due l j tick n = due l j tick i ++ r := by
  obtain ⟨d, rfl⟩ : ∃ d, n = i + d := ⟨n - i, by omega⟩
  clear h
  induction d with
  | zero => exact ⟨[], by simp⟩
  | succ d ih =>
    obtain ⟨r, hr⟩ := ih
    rw [← Nat.add_assoc, due_succ, hr]
    exact ⟨_, List.append_assoc _ _ _⟩
def ids (L : List Nat) : List Int := L.map fun t : Nat => (t : Int) + 2
theorem slp_ids (l : List Int) (j : Nat) (tick : Int) : ∀ i, ((Ti.isDue tick (Ti.others ((j : Int) + 2) (slp l i))).map (·.1)).Perm (ids (due l j tick i))
  | 0 => List.Perm.refl _
  | i + 1 => by
    have ih := slp_ids l j tick i
    rw [due_succ]
    unfold ids
    rw [List.map_append]
    refine List.Perm.trans ?_ List.perm_append_comm
    unfold Ti.others Ti.isDue at ih ⊢
    rw [slp, List.filter_cons]
    by_cases hj : i = j
    · subst hj
      have h1 : (((ent l i).1 != (i : Int) + 2) = true) = False := by simp [ent]
      have h2 : sel l i tick i = false := by simp [sel]
      rw [h2]
      simp only [h1, if_false, Bool.false_eq_true, List.map_nil, List.nil_append]
      exact ih
    · have h1 : ((ent l i).1 != (j : Int) + 2) = true := by
        have : (i : Int) + 2 ≠ (j : Int) + 2 := by omega
        simpa [ent] using this
      rw [if_pos h1, List.filter_cons]
      by_cases hu : l.getD i 0 ≤ tick
      · have h2 : sel l j tick i = true := by simp only [sel, hj, hu, ne_eq, not_false_eq_true, decide_true, Bool.and_self]
        have h3 : decide ((ent l i).2 ≤ tick) = true := decide_eq_true hu
        rw [h2, if_pos h3]
        simp only [if_true, List.map_cons, List.map_nil, List.singleton_append]
        exact List.Perm.cons _ ih
      · have h2 : sel l j tick i = false := by simp only [sel, hu, decide_false, Bool.and_false]
        have h3 : (decide ((ent l i).2 ≤ tick) = true) = False := by
          have : ¬ (ent l i).2 ≤ tick := hu
          simp [this]
        rw [h2]
        simp only [h3, if_false, Bool.false_eq_true, List.map_nil, List.nil_append]
        exact ih
theorem due_is (l : List Int) (j : Nat) (tick : Int) (n : Nat) : Ti.dueIds tick (Ti.others ((j : Int) + 2) (slp l n)) = ids (due l j tick n) := by
  refine Ti.sortI_of (slp_ids l j tick n) ?_
  unfold ids due
  refine List.pairwise_map.2 ((List.Pairwise.filter _ (List.pairwise_lt_range)).imp fun h => ?_)
  omega
/-- Threads 2 to i + 1 sleep. -/
def vS (l : List Int) (i : Nat) : V := ⟨fun j => if j = 1 then some true else if 2 ≤ j ∧ j ≤ (i : Int) + 1 then some false else none, (i : Int) + 1, fun _ => 0, fun _ => [], slp l i, (i : Int) + 1⟩
section
variable {w0 w : World} {b i j n : Nat} {l : List Int} {tick : Int}
theorem spawn (h : KV w0 b (vS l i) w) (hi : i < 7) :
    Calls Tryz.prog 12 #[.pointer (some ⟨b, 0, none⟩), .int .i64 0, .int .i64 1] w fun e w' => e = .returned (.tuple #[.int .i64 (i + 2), .nilIface]) ∧
      KV w0 b { vS l i with r := fun j => if j = (i : Int) + 2 then some true else (vS l i).r j, last := (i : Int) + 2, n := (i : Int) + 2 } w' := by
  refine (kv_spawn h (by show (i : Int) + 1 < 8; omega) (by show (i : Int) + 1 ≤ 1000; omega)).mono fun e w' ⟨q, s⟩ => ⟨?_, s.told ?_ (fun j => ?_) (fun _ _ => rfl) (fun _ _ => rfl) rfl ?_⟩
  · rw [q]
    show Ending.returned (.tuple #[.int .i64 ((i : Int) + 1 + 1), .nilIface]) = _
    rw [show (i : Int) + 1 + 1 = i + 2 by omega]
  · show (i : Int) + 1 + 1 = (i : Int) + 2; omega
  · show (if j = (i : Int) + 1 + 1 then some true else (vS l i).r j) = if j = (i : Int) + 2 then some true else (vS l i).r j
    rw [show (i : Int) + 1 + 1 = i + 2 by omega]
  · show (i : Int) + 1 + 1 = (i : Int) + 2; omega
theorem sleep (h : KV w0 b { vS l i with r := fun j => if j = (i : Int) + 2 then some true else (vS l i).r j, last := (i : Int) + 2, n := (i : Int) + 2 } w) (hi : i < 7) {u : Int} (hu : u = l.getD i 0) :
    Calls Tryz.prog 16 #[.pointer (some ⟨b, 0, none⟩), .int .i64 (i + 2), .int .i64 u] w fun e w' => e = .returned .nilIface ∧ KV w0 b (vS l (i + 1)) w' := by
  subst hu
  refine (kv_sleep h (by show (i : Int) + 2 ≤ 1000; omega) (by show (if (i : Int) + 2 = (i : Int) + 2 then some true else (vS l i).r ((i : Int) + 2)) = some true; rw [if_pos rfl]) (l.getD i 0)).mono fun e w' ⟨q, s⟩ => ⟨q, s.told ?_ (fun j => ?_) (fun _ _ => rfl) (fun _ _ => rfl) (put_slp l i) ?_⟩
  · show (i : Int) + 2 = ((i + 1 : Nat) : Int) + 1; omega
  · show (if j = (i : Int) + 2 then some false else if j = (i : Int) + 2 then some true else if j = 1 then some true else if 2 ≤ j ∧ j ≤ (i : Int) + 1 then some false else none) = if j = 1 then some true else if 2 ≤ j ∧ j ≤ ((i + 1 : Nat) : Int) + 1 then some false else none
    repeat' split
    all_goals first | rfl | (exfalso; omega)
  · show (i : Int) + 2 = ((i + 1 : Nat) : Int) + 1; omega
/-- One of them is gone. -/
def vX (l : List Int) (n j : Nat) : V := { (vS l n).turn ((j : Int) + 2) none with M := Ti.others ((j : Int) + 2) (slp l n), W := Ob.others ((j : Int) + 2) (fun _ => []), n := (n : Int) + 1 - 1 }
theorem exit (h : KV w0 b (vS l n) w) (hn : n ≤ 7) (hj : j < n) {id : Int} (hid : id = (j : Int) + 2) :
    Calls Tryz.prog 14 #[.pointer (some ⟨b, 0, none⟩), .int .i64 id] w fun e w' => e = .returned .nilIface ∧ KV w0 b (vX l n j) w' := by
  subst hid
  exact kv_exit h (by show (n : Int) + 1 ≤ 1000; omega) (q := false) (by show (if (j : Int) + 2 = 1 then some true else if 2 ≤ (j : Int) + 2 ∧ (j : Int) + 2 ≤ (n : Int) + 1 then some false else none) = some false; rw [if_neg (by omega), if_pos (by omega)])
/-- Those that are due woke. -/
def vK (l : List Int) (n j : Nat) (tick : Int) : V := { vX l n j with r := fun i => if i ∈ ids (due l j tick n) then some true else (vX l n j).r i, M := Ti.sleepOn tick (vX l n j).M }
theorem wake (h : KV w0 b (vX l n j) w) :
    Calls Tryz.prog 20 #[.pointer (some ⟨b, 0, none⟩), .int .i64 tick] w fun e w' => ∃ vd, e = .returned vd ∧ KV w0 b (vK l n j tick) w' ∧ w'.ownsRow w.heap.size 3 1 vd (ids (due l j tick n)).length ((ids (due l j tick n)).map fun i => .int .i64 i) :=
  kv_wake h tick (due_is l j tick n)
theorem again (h : KV w0 b (vK l n j tick) w) :
    Calls Tryz.prog 20 #[.pointer (some ⟨b, 0, none⟩), .int .i64 tick] w fun e w' => (∃ p c, e = .returned (.slice p 0 c)) ∧ Ext w0 w' := by
  refine (kv_wake h tick (ds := []) (due_none fun e he => ?_)).mono fun e w' ⟨vd, q, s, o⟩ => ⟨?_, s.xt⟩
  · have he : e ∈ Ti.sleepOn tick (vX l n j).M := he
    unfold Ti.sleepOn at he
    have := (List.mem_filter.1 he).2
    simp at this
    exact this
  · obtain ⟨p, c, rfl⟩ := shapeOf o
    exact ⟨p, c, q⟩
theorem seen (h : KV w0 b (vK l n j tick) w) (hi : i < n) (hs : sel l j tick i = true) {id : Int} (hid : id = (i : Int) + 2) :
    Calls Tryz.prog 19 #[.pointer (some ⟨b, 0, none⟩), .int .i64 id] w (Yields w (.bool true)) := by
  subst hid
  refine kv_ready h ?_
  show (if (i : Int) + 2 ∈ ids (due l j tick n) then some true else _) = some true
  rw [if_pos]
  exact List.mem_map.2 ⟨i, List.mem_filter.2 ⟨List.mem_range.2 hi, hs⟩, rfl⟩
theorem at_due (hi : i < n) (hs : sel l j tick i = true) : (due l j tick i).length < (due l j tick n).length ∧ (ids (due l j tick n))[(due l j tick i).length]? = some ((i : Int) + 2) := by
  obtain ⟨r, hr⟩ := due_le l j tick (show i + 1 ≤ n by omega)
  rw [due_succ, if_pos hs] at hr
  constructor
  · rw [hr]; simp
  · unfold ids
    rw [List.getElem?_map, hr]
    simp
end
set_option maxHeartbeats 8000000 in
theorem walk (v : Value) (l : List Int) (gone tick : Int) (hg0 : 0 ≤ gone) (hg1 : gone ≤ 255) (ht0 : 0 ≤ tick) (ht1 : tick ≤ 255) (w0 : World) (hl : Nums .u8 w0 v l) :
    Calls Tryz.prog 7 #[v, .int .u8 gone, .int .u8 tick] w0 (Yields w0 (.bool true)) := by
  have hqn := fun w => run_eql_nil_nil' (P := Tryz.prog) w Tryz.underlying29
  have hnn := fun w => run_neq_nil_nil' (P := Tryz.prog) w Tryz.underlying29
  obtain ⟨p, cap, rfl, hc1, hc2⟩ := hl.shape
  by_cases h0 : l.length = 0
  · have i0 : decide ((l.length : Int) < 1) = true := by rw [decide_eq_true_iff]; omega
    go_enter Tryz.func7, Tryz.ntmps7
    go_wp2_with (go_at_call 10; (with_reducible refine (known_any _).yields ?_); intro p0)
    go_returns
    exact ⟨rfl, (by repeat (first | exact Ext.refl _ | assumption | refine Ext.more ?_ _ | refine Ext.drew ?_ | refine Ext.drewN ?_ _ | refine Ext.alloc ?_ _ | refine Ext.setCell ?_ (by simp; try omega) _ | refine Ext.trans ?_ (by assumption)))⟩
  by_cases h20 : 7 < l.length
  · have i0 : decide ((l.length : Int) < 1) = false := by rw [decide_eq_false_iff_not]; omega
    have i1 : decide ((7 : Int) < (l.length : Int)) = true := by rw [decide_eq_true_iff]; omega
    go_enter Tryz.func7, Tryz.ntmps7
    go_wp2_with (go_at_call 10; (with_reducible refine (known_any _).yields ?_); intro p0)
    go_returns
    exact ⟨rfl, (by repeat (first | exact Ext.refl _ | assumption | refine Ext.more ?_ _ | refine Ext.drew ?_ | refine Ext.drewN ?_ _ | refine Ext.alloc ?_ _ | refine Ext.setCell ?_ (by simp; try omega) _ | refine Ext.trans ?_ (by assumption)))⟩
  have i0 : decide ((l.length : Int) < 1) = false := by rw [decide_eq_false_iff_not]; omega
  have i1 : decide ((7 : Int) < (l.length : Int)) = false := by rw [decide_eq_false_iff_not]; omega
  have HL := hid hl
  have HN := hid (show 1 ≤ l.length ∧ l.length ≤ 7 by omega)
  clear hl hc1 hc2 h0 h20
  go_enter Tryz.func7, Tryz.ntmps7
  go_wp2_with (first
    | (go_at_call 10; (with_reducible refine (known_any _).yields ?_); intro p0)
    | (go_at_call 11; (with_reducible refine (kv_new w0 _ (by repeat (first | exact Ext.refl _ | assumption | refine Ext.more ?_ _ | refine Ext.drew ?_ | refine Ext.drewN ?_ _ | refine Ext.alloc ?_ _ | refine Ext.setCell ?_ (by simp; try omega) _ | refine Ext.trans ?_ (by assumption)))).mono ?_); rintro e v1 ⟨b, rfl, s1, x1⟩; have I0 : Hid (KV w0 b (vS l 0) v1) := s1.told rfl (fun j => by show (if j = 1 then some true else none) = if j = 1 then some true else if 2 ≤ j ∧ j ≤ ((0 : Nat) : Int) + 1 then some false else none; by_cases e : j = 1 <;> (first | rw [if_pos e, if_pos e] | rw [if_neg e, if_neg e, if_neg (by omega)])) (fun _ _ => rfl) (fun _ _ => rfl) rfl rfl; clear s1 x1))
  clear i0 i1
  go_loopw [8] (fun v wr => ∃ i : Nat, v = .int .i64 i ∧ i ≤ l.length ∧ Hid (KV w0 b (vS l i) wr)) (fun v _ => (10 - (intOf v).toNat))
  case atStart => exact ⟨0, rfl, Nat.zero_le _, I0.out⟩
  case round =>
    obtain ⟨i, rfl, hi, I⟩ := hrel
    have hbl := I.out.lt
    have hn7 := HN.out
    by_cases hlt : i < l.length
    · obtain ⟨g, off, rfl, c0, cw⟩ := HL.out.at i hlt
      simp only [Nat.mul_one] at c0
      have hu := bounds_u8 cw
      have hg : Hid (l.getD i 0 = l[i]) := by rw [Hid, List.getD_eq_getElem?_getD, List.getElem?_eq_getElem hlt]; rfl
      generalize l[i] = P at *
      have C0 := hid c0
      have i2 : (i : Int) < (l.length : Int) := by omega
      have CS := hid (fun w' (e : Ext wr w') => spawn (I.out.ext e) (by omega))
      have j2 : ((i : Int) + 2 != (i : Int) + 2) = false := by simp
      have ei : IntKind.i64.wrap ((i : Int) + 2) = (i : Int) + 2 := IntWalk.i64_in _ (by omega)
      have hi7 : i < 7 := by omega
      clear c0 cw I0
      go_wp2_with (first
        | (go_at_call 12; (with_reducible refine (CS.out _ (by repeat (first | exact Ext.refl _ | assumption | refine Ext.more ?_ _ | refine Ext.drew ?_ | refine Ext.drewN ?_ _ | refine Ext.alloc ?_ _ | refine Ext.setCell ?_ (by simp; try omega) _ | refine Ext.trans ?_ (by assumption)))).mono ?_); rintro e v2 ⟨rfl, i2⟩; have I2 := hid i2; have c2 := i2.xt.cell C0.out; have hb2 := i2.lt; clear i2)
        | (go_at_call 16; (with_reducible refine (sleep (I2.out.ext (by repeat (first | exact Ext.refl _ | assumption | refine Ext.more ?_ _ | refine Ext.drew ?_ | refine Ext.drewN ?_ _ | refine Ext.alloc ?_ _ | refine Ext.setCell ?_ (by simp; try omega) _ | refine Ext.trans ?_ (by assumption)))) hi7 hg.out.symm).mono ?_); rintro e v3 ⟨rfl, i3⟩; have I3 := hid i3; have hb3 := i3.lt; clear i3))
      go_roundw
      case rel => exact ⟨i + 1, by go_num, by omega, I3.out.ext (by repeat (first | exact Ext.refl _ | assumption | refine Ext.more ?_ _ | refine Ext.drew ?_ | refine Ext.drewN ?_ _ | refine Ext.alloc ?_ _ | refine Ext.setCell ?_ (by simp; try omega) _ | refine Ext.trans ?_ (by assumption)))⟩
      case measure => simp [intOf]; omega
    · obtain ⟨n, hn⟩ : ∃ n : Nat, l.length = n := ⟨_, rfl⟩
      have I1 : Hid (KV w0 b (vS l n) wr) := by
        have := I.out
        rwa [show i = n by omega] at this
      rw [hn] at hlt hi hn7
      have HNN := hid hn7
      obtain ⟨t, ht⟩ : ∃ t : Nat, gone % (n : Int) = t := ⟨(gone % (n : Int)).toNat, by have := Int.emod_nonneg gone (show (n : Int) ≠ 0 by omega); omega⟩
      have m0 : (0 : Int) < n := by omega
      have htm : t < n := by have := Int.emod_lt_of_pos gone m0; omega
      have HTM := hid htm
      have mne : ((n : Int) == 0) = false := by rw [beq_eq_false_iff_ne]; omega
      have mnn : ¬ (n : Int) = 0 := by omega
      have e1 : IntKind.i64.wrap ((t : Int) + 2) = (t : Int) + 2 := IntWalk.i64_in _ (by omega)
      clear I hi I0
      go_wp2_with (first
        | (go_at_call 14; (with_reducible refine (exit (I1.out.ext (by repeat (first | exact Ext.refl _ | assumption | refine Ext.more ?_ _ | refine Ext.drew ?_ | refine Ext.drewN ?_ _ | refine Ext.alloc ?_ _ | refine Ext.setCell ?_ (by simp; try omega) _ | refine Ext.trans ?_ (by assumption)))) HNN.out.2 HTM.out rfl).mono ?_); rintro e v2 ⟨rfl, i2⟩; have I2 := hid i2; have hb2 := i2.lt; clear i2)
        | (go_at_call 20; (with_reducible refine (wake (I2.out.ext (by repeat (first | exact Ext.refl _ | assumption | refine Ext.more ?_ _ | refine Ext.drew ?_ | refine Ext.drewN ?_ _ | refine Ext.alloc ?_ _ | refine Ext.setCell ?_ (by simp; try omega) _ | refine Ext.trans ?_ (by assumption))))).mono ?_); rintro e v3 ⟨vd, rfl, i3, o3⟩; have I3 := hid i3; have hb3 := i3.lt; clear i3; obtain ⟨pd, cd, rfl, -, -, hat⟩ := ints_of_owns o3; have HAT := hid hat; clear o3 hat))
      obtain ⟨D, hD⟩ : ∃ D : Nat, (ids (due l t tick n)).length = D := ⟨_, rfl⟩
      (try simp only [hD])
      have HDD := hid hD
      have HD2 : Hid (D = (due l t tick n).length) := by rw [Hid, ← hD]; unfold ids; simp
      clear hD hlt mne mnn m0 htm e1 ht
      go_loopw [13, 14] (fun u v wr => ∃ (c i : Nat), u = .int .i64 c ∧ v = .int .i64 i ∧ i ≤ n ∧ Hid (c = (due l t tick i).length) ∧ c ≤ i ∧ Hid (KV w0 b (vK l n t tick) wr) ∧ Hid (Ext v3 wr)) (fun _ v _ => (10 - (intOf v).toNat))
      case atStart => exact ⟨0, 0, rfl, rfl, Nat.zero_le _, rfl, Nat.le_refl _, I3.out, Ext.refl _⟩
      case round =>
        obtain ⟨c, i, rfl, rfl, hi, HC, hci, I, HX⟩ := hrel
        have hbk := I.out.lt
        have hn7 := HNN.out
        have htm := HTM.out
        by_cases hlt : i < n
        · have hlt2 : i < l.length := by omega
          obtain ⟨g, off, rfl, c0, cw⟩ := HL.out.at i hlt2
          simp only [Nat.mul_one] at c0
          have hu := bounds_u8 cw
          have hg : Hid (l.getD i 0 = l[i]) := by rw [Hid, List.getD_eq_getElem?_getD, List.getElem?_eq_getElem hlt2]; rfl
          generalize l[i] = P at *
          have c1 := I.out.xt.cell c0
          have i2 : (i : Int) < (n : Int) := by omega
          clear c0 cw
          by_cases hit : i = t
          · have i3 : ((i : Int) == (t : Int)) = true := by rw [beq_iff_eq]; omega
            have HS : Hid ((due l t tick (i + 1)).length = (due l t tick i).length) := by
              rw [Hid, due_succ, show sel l t tick i = false by simp [sel, hit]]; simp
            go_wp2_with fail
            go_roundw
            case rel => exact ⟨c, i + 1, rfl, by go_num, by omega, HC.out.trans HS.out.symm, by omega, I.out.ext (by repeat (first | exact Ext.refl _ | assumption | refine Ext.more ?_ _ | refine Ext.drew ?_ | refine Ext.drewN ?_ _ | refine Ext.alloc ?_ _ | refine Ext.setCell ?_ (by simp; try omega) _ | refine Ext.trans ?_ (by assumption))), HX.out.trans (by repeat (first | exact Ext.refl _ | assumption | refine Ext.more ?_ _ | refine Ext.drew ?_ | refine Ext.drewN ?_ _ | refine Ext.alloc ?_ _ | refine Ext.setCell ?_ (by simp; try omega) _ | refine Ext.trans ?_ (by assumption)))⟩
            case measure => simp [intOf]; omega
          · have i3 : ((i : Int) == (t : Int)) = false := by rw [beq_eq_false_iff_ne]; omega
            by_cases hpt : P ≤ tick
            · have i4 : decide (tick < P) = false := by rw [decide_eq_false_iff_not]; omega
              have hsel : sel l t tick i = true := by
                unfold sel
                rw [hg.out]
                simp [hit, hpt]
              have HSEL := hid hsel
              have HS : Hid ((due l t tick (i + 1)).length = (due l t tick i).length + 1) := by
                rw [Hid, due_succ, hsel]; simp
              obtain ⟨d1, d2⟩ := at_due (n := n) hlt hsel
              obtain ⟨gb, go, rfl, hc⟩ := HAT.out (by rw [HDD.out, HD2.out]; omega)
              have d0 := hc _ _ d2
              rw [← HC.out] at d0
              simp only [Nat.mul_one] at d0
              have d0 := HX.out.cell d0
              have hcD : c < D := by rw [HD2.out, HC.out]; exact d1
              have i5 : decide ((D : Int) ≤ (c : Int)) = false := by rw [decide_eq_false_iff_not]; omega
              have i6 : (c : Int) < (D : Int) := by omega
              have j2 : ((i : Int) + 2 != (i : Int) + 2) = false := by simp
              have ei : IntKind.i64.wrap ((i : Int) + 2) = (i : Int) + 2 := IntWalk.i64_in _ (by omega)
              clear d2 hc d1 hsel
              go_wp2_with (go_at_call 19; (with_reducible refine (seen (I.out.ext (by repeat (first | exact Ext.refl _ | assumption | refine Ext.more ?_ _ | refine Ext.drew ?_ | refine Ext.drewN ?_ _ | refine Ext.alloc ?_ _ | refine Ext.setCell ?_ (by simp; try omega) _ | refine Ext.trans ?_ (by assumption)))) hlt HSEL.out rfl).mono ?_); rintro e v4 ⟨rfl, x4⟩; have I4 := hid ((I.out.ext (by repeat (first | exact Ext.refl _ | assumption | refine Ext.more ?_ _ | refine Ext.drew ?_ | refine Ext.drewN ?_ _ | refine Ext.alloc ?_ _ | refine Ext.setCell ?_ (by simp; try omega) _ | refine Ext.trans ?_ (by assumption)))).ext x4); have HX4 := hid ((HX.out.trans (by repeat (first | exact Ext.refl _ | assumption | refine Ext.more ?_ _ | refine Ext.drew ?_ | refine Ext.drewN ?_ _ | refine Ext.alloc ?_ _ | refine Ext.setCell ?_ (by simp; try omega) _ | refine Ext.trans ?_ (by assumption)))).trans x4); clear x4)
              go_roundw
              case rel => exact ⟨c + 1, i + 1, by go_num, by go_num, by omega, by rw [Hid, HS.out, HC.out], by omega, I4.out.ext (by repeat (first | exact Ext.refl _ | assumption | refine Ext.more ?_ _ | refine Ext.drew ?_ | refine Ext.drewN ?_ _ | refine Ext.alloc ?_ _ | refine Ext.setCell ?_ (by simp; try omega) _ | refine Ext.trans ?_ (by assumption))), HX4.out.trans (by repeat (first | exact Ext.refl _ | assumption | refine Ext.more ?_ _ | refine Ext.drew ?_ | refine Ext.drewN ?_ _ | refine Ext.alloc ?_ _ | refine Ext.setCell ?_ (by simp; try omega) _ | refine Ext.trans ?_ (by assumption)))⟩
              case measure => simp [intOf]; omega
            · have i4 : decide (tick < P) = true := by rw [decide_eq_true_iff]; omega
              have HS : Hid ((due l t tick (i + 1)).length = (due l t tick i).length) := by
                rw [Hid, due_succ, show sel l t tick i = false by unfold sel; rw [hg.out]; simp [hpt]]; simp
              go_wp2_with fail
              go_roundw
              case rel => exact ⟨c, i + 1, rfl, by go_num, by omega, HC.out.trans HS.out.symm, by omega, I.out.ext (by repeat (first | exact Ext.refl _ | assumption | refine Ext.more ?_ _ | refine Ext.drew ?_ | refine Ext.drewN ?_ _ | refine Ext.alloc ?_ _ | refine Ext.setCell ?_ (by simp; try omega) _ | refine Ext.trans ?_ (by assumption))), HX.out.trans (by repeat (first | exact Ext.refl _ | assumption | refine Ext.more ?_ _ | refine Ext.drew ?_ | refine Ext.drewN ?_ _ | refine Ext.alloc ?_ _ | refine Ext.setCell ?_ (by simp; try omega) _ | refine Ext.trans ?_ (by assumption)))⟩
              case measure => simp [intOf]; omega
        · have hcD : c = D := by rw [HC.out, HD2.out, show i = n by omega]
          have i5 : ((c : Int) == (D : Int)) = true := by rw [beq_iff_eq]; omega
          go_wp2_with (go_at_call 20; (with_reducible refine (again (I.out.ext (by repeat (first | exact Ext.refl _ | assumption | refine Ext.more ?_ _ | refine Ext.drew ?_ | refine Ext.drewN ?_ _ | refine Ext.alloc ?_ _ | refine Ext.setCell ?_ (by simp; try omega) _ | refine Ext.trans ?_ (by assumption))))).mono ?_); rintro e v4 ⟨⟨pz, cz, rfl⟩, x4⟩; have HX4 := hid x4; clear x4)
          go_returns
          exact ⟨rfl, HX4.out⟩
set_option linter.unusedVariables false in
set_option maxRecDepth 100000 in
theorem lifted (os : Os) (started : os.Started) (H : Type) (enc : TypeId × Value → H) :
    ReturnsInHanded {} Tryz.checked os 7 .any (Rows.kernelWakesSpec.pre6 enc Tryz.prog Tryz.f7 Rows.kernelWakesRow.domain false) (Rows.kernelWakesSpec.post enc Tryz.prog Tryz.f7 false true false false) := by
  refine returnsInHanded_of_change (C := Tryz.checked) Own.own started (by kernel_rfl) Tryz.func7
    (ChangeSpec.witness6 (enc := enc) (C := Tryz.checked) false ⟨#[], #[.slice none 0 0, .int .u8 0, .int .u8 0], []⟩ 8 (by kernel_rfl) (by kernel_rfl) (by kernel_rfl) (by kernel_rfl)) ?_
  intro W base args ds gs before hval0 hW hcnd _
  have hval : ∀ (j : Nat) t v, Tryz.f7.params[j]? = some t → args[j]? = some v → Value.okWide Tryz.prog W .any base t v := hval0
  have hW' := hW
  obtain ⟨p, q, hA0, hV, rfl, hfz, hnd⟩ := hW
  have hA : DataW.TrodAll enc Tryz.prog W 0 (fun _ => true) true Tryz.f7.params.toList args.toList ds p := hA0
  rw [Tryz.params7] at hA hval
  obtain ⟨v0, vs0, d0, ds0, p0, q0, hargs, rfl, rfl, h0, r0⟩ := trodAll_cons hA
  obtain ⟨v1, vs1, d1, ds1, p1, q1, rfl, rfl, rfl, h1, r1⟩ := trodAll_cons r0
  obtain ⟨v2, vs2, d2, ds2, p2, q2, rfl, rfl, rfl, h2, r2⟩ := trodAll_cons r1
  obtain ⟨rfl, rfl, rfl⟩ := trodAll_nil r2
  obtain rfl : args = #[v0, v1, v2] := by cases args; simp_all
  obtain ⟨rfl, rfl⟩ := trodVars_none hV
  have k0 := h0
  have lt0 : ∀ x ∈ p0, x.block < W.heap.size := by obtain ⟨m, hm⟩ := k0; exact DataW.trod_lt m _ _ _ hm
  have k1 := h1
  have lt1 : ∀ x ∈ p1, x.block < W.heap.size := by obtain ⟨m, hm⟩ := k1; exact DataW.trod_lt m _ _ _ hm
  have k2 := h2
  have lt2 : ∀ x ∈ p2, x.block < W.heap.size := by obtain ⟨m, hm⟩ := k2; exact DataW.trod_lt m _ _ _ hm
  obtain ⟨a0, len0, cap0, rfl⟩ := okWide_slice Tryz.underlying48 (hval 0 48 v0 rfl rfl)
  obtain ⟨l, hl⟩ := Own.open_nums Tryz.underlying48 Tryz.underlying5 (by kernel_rfl) h0
  obtain ⟨n1, rfl, rfl, rfl, wn1⟩ := open_int Tryz.underlying5 (hval 1 5 v1 rfl rfl) h1
  obtain ⟨n2, rfl, rfl, rfl, wn2⟩ := open_int Tryz.underlying5 (hval 2 5 v2 rfl rfl) h2
  have bn1 := bounds_u8 wn1
  have bn2 := bounds_u8 wn2
  clear hA0 hval0
  refine (walk _ l n1 n2 (by omega) (by omega) (by omega) (by omega) W hl).mono fun e W' ⟨he, hx⟩ => ?_
  subst he
  exact ⟨_, rfl, _, _, _, [], _, [], hW', trodAll_mk1 (shut_bool Tryz.underlying4 _), (trodAll_cons_mk (Below.trod Own.laidOut (by kernel_rfl) (of_decide_eq_true (by kernel_rfl)) k0 hx.below lt0) (trodAll_cons_mk (Below.trod Own.laidOut (by kernel_rfl) (of_decide_eq_true (by kernel_rfl)) k1 hx.below lt1) (trodAll_cons_mk (Below.trod Own.laidOut (by kernel_rfl) (of_decide_eq_true (by kernel_rfl)) k2 hx.below lt2) trodAll_mk0))), rfl, hx.below.frame _, fun h => by cases h⟩

theorem proved : Rows.KernelWakesSaid :=
  OpenClaim.holds_of_wide 7 Tryz.f7 rfl rfl rfl rfl rfl rfl rfl ⟨rfl, rfl, rfl, rfl, rfl⟩ rfl rfl rfl rfl rfl (by kernel_rfl) Tryz.func7 (by kernel_rfl)
    (of_decide_eq_true (by kernel_rfl)) (by unfold Func.isWrapper; first | (rw [if_pos (by decide +kernel)]; kernel_rfl) | (rw [if_neg (by decide +kernel)]; exact ⟨rfl, rfl⟩))
    (fun os started H enc _ => lifted os started H enc)

end kernelWakes
end Go.Proofs.YtocicffmajbecaaGreat
