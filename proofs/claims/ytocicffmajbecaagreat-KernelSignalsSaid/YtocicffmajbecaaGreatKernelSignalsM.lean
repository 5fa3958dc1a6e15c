/- KernelSignals: signals wake those who wait in the order in which they began to, one each; those that nobody waits for let as many go on later: the law answers true. No conditions. -/
import Derived.Test.YtocicffmajbecaaGreatPkAll
import Derived.WalkKit
import Derived.WalkSpells
import Derived.WalkLawsBesides
import Derived.Handy
import Derived.Test.YtocicffmajbecaaGreatErr
import Derived.Test.YtocicffmajbecaaGreatOwn2
import Derived.Deep.LoopGhost
import Derived.IntWalk
namespace Go.Proofs.YtocicffmajbecaaGreat
open Go.RowKit
set_option linter.unusedSimpArgs false
namespace Pk
open Kn
theorem thrPos {l : List Nd} (hw : Wf l) {n : Nd} (hn : n ∈ l) (ht : n.thr = true) : 0 < n.id := by
  have h0 := (hw.sk.clo n hn).1
  rcases Int.lt_or_eq_of_le h0 with h | h
  · exact h
  · obtain ⟨r, hr, hr0, hrp, -⟩ := hw.root
    have := par_thr hw hn ht
    rw [uniqU hw.sk.ids hn hr (by omega)] at this
    omega
theorem run_st {th gr : Int} {k : Kd} (hk : KOk th gr k) {n : Int} (h : runK k.l = (n, true)) : 1 ≤ n ∧ n ≤ k.last ∧ stU k.l n = some true := by
  obtain ⟨r, hr, hr0, -, -⟩ := hk.wf.root
  cases hrd : r.rdy with
  | false =>
    have := hk.wf.run_none hr hr0 hrd
    simp [runK, this] at h
  | true =>
    obtain ⟨R, hR, -, t, ht, e1, e2, e3⟩ := hk.wf.run hr hr0 hrd
    have hn : R.1 = n := by
      simp only [runK, hR] at h
      exact congrArg Prod.fst h
    obtain ⟨m, hm, ek⟩ := (run_sim 6 hR).back ht
    obtain ⟨k1, k2, k3, k4, k5⟩ := keyR_eq ek
    have hid : m.id = n := by rw [k1, e1, hn]
    have hp := thrPos hk.wf hm (k3.trans e2)
    have hl := hk.low m hm
    exact ⟨by omega, by omega, (stU_some hk.wf.sk.ids).2 ⟨m, hm, hid, k3.trans e2, k5.trans e3⟩⟩
theorem run_no {l : List Nd} {n : Int} (h : runK l = (n, false)) : n = 0 := by
  unfold runK at h
  cases hR : runU 6 l 0 with
  | none => rw [hR] at h; exact (congrArg Prod.fst h).symm
  | some R => rw [hR] at h; cases h
end Pk
end Go.Proofs.YtocicffmajbecaaGreat

namespace Go.Proofs.YtocicffmajbecaaGreat
open Go.RowKit
set_option maxRecDepth 100000
set_option linter.unusedSimpArgs false
namespace Pk
open Rw (En)
open Kn

def rdN (l : List Nd) (id : Int) : Bool := match getU l id with
  | none => false
  | some n => n.rdy
theorem rdN_of {l : List Nd} {id : Int} {r : Bool} (h : stU l id = some r) : rdN l id = r := by
  unfold stU at h
  unfold rdN
  cases hg : getU l id with
  | none => rw [hg] at h; cases h
  | some n =>
    rw [hg] at h
    cases ht : n.thr <;> simp [ht] at h
    exact h
section
variable {w0 w w' : World} {b : Nat} {th gr : Int} {k : Kd}
set_option maxHeartbeats 4000000 in
theorem readyL_any (h : S w0 b th gr k w) (id : Int) : Calls Tryz.prog 19 #[.pointer (some ⟨b, 0, none⟩), .int .i64 id] w (Yields w (.bool (rdN k.l id))) := by
  have CN := hid (fun w' (e : Ext w w') => k_nodes (h.ext e))
  have hb := h.lt
  have hlen := h.ok.wf.sk.len
  have HI := hid h.ok.wf.sk.ids
  clear h
  generalize k.l = l at *
  go_enter Tryz.func19, Tryz.ntmps19
  go_wp2_with fail
  (with_reducible refine (CN.out _ (by repeat (first | exact Ext.refl _ | assumption | refine Ext.more ?_ _ | refine Ext.drew ?_ | refine Ext.drewN ?_ _ | refine Ext.alloc ?_ _ | refine Ext.setCell ?_ (by simp; try omega) _ | refine Ext.trans ?_ (by assumption)))).mono ?_)
  rintro e w1 ⟨vn, rfl, hx1, hn⟩
  obtain ⟨p, cap, rfl, hc1, hc2⟩ := hn.shape
  have HN := hid hn
  have HX1 := hid hx1
  rw [List.length_map] at hc1
  unfold maxLen at hc2
  clear hn hx1
  rw [List.length_map]
  go_wp2_with fail
  go_loopw [6] (fun s wr => ∃ i : Nat, s = .int .i64 i ∧ i ≤ l.length ∧ Ext w1 wr ∧ Hid (∀ n ∈ l.take i, n.id ≠ id)) (fun s _ => (l.length - (intOf s).toNat))
  case atStart => exact ⟨0, rfl, Nat.zero_le _, Ext.refl _, fun n hn => by simp at hn⟩
  case round =>
    obtain ⟨i, rfl, hi, X, hno⟩ := hrel
    by_cases hlt : i < l.length
    · obtain ⟨g, off, rfl, e0, -, -, -, -, e5⟩ := HN.out.at i (by simpa using hlt)
      rw [List.getElem_map] at e0 e5
      simp only [Nd.nn] at e0 e5
      have f0 := X.cell e0
      have f5 := X.cell e5
      clear e0 e5
      have i1 : (i : Int) < l.length := by omega
      have HM : Hid (l[i] ∈ l) := List.getElem_mem hlt
      have HT : Hid (l.take (i + 1) = l.take i ++ [l[i]]) := List.take_succ_eq_append_getElem hlt
      generalize l[i] = n at *
      by_cases he : n.id = id
      · have j1 : (n.id == id) = true := by simpa using he
        have HR : Hid (rdN l id = n.rdy) := by
          unfold rdN Hid
          rw [← he, getU_of HI.out HM.out]
        clear he
        go_wp2
        go_returns
        exact ⟨by rw [HR.out]; rfl, (HX1.out.trans X).trans (by repeat (first | exact Ext.refl _ | assumption | refine Ext.more ?_ _ | refine Ext.drew ?_ | refine Ext.drewN ?_ _ | refine Ext.alloc ?_ _ | refine Ext.setCell ?_ (by simp; try omega) _ | refine Ext.trans ?_ (by assumption)))⟩
      · have j1 : (n.id == id) = false := by simpa using he
        have HS : Hid (∀ m ∈ l.take (i + 1), m.id ≠ id) := fun m hm => by
          rw [HT.out] at hm
          rcases List.mem_append.1 hm with hm | hm
          · exact hno.out m hm
          · rw [List.mem_singleton.1 hm]; exact he
        clear he
        go_wp2
        go_roundw
        case rel => exact ⟨i + 1, by go_num, by omega, X, HS.out⟩
        case measure => simp [intOf]; omega
    · have HR : Hid (rdN l id = false) := by
        have hn := hno.out
        rw [List.take_of_length_le (by omega)] at hn
        unfold rdN Hid
        rw [getU_none.2 hn]
      go_wp2
      go_returns
      exact ⟨by rw [HR.out]; rfl, HX1.out.trans X⟩
theorem readyL_to (h : S w0 b th gr k w) {id : Int} {r : Bool} (e : rdN k.l id = r) : Calls Tryz.prog 19 #[.pointer (some ⟨b, 0, none⟩), .int .i64 id] w (Yields w (.bool r)) := e ▸ readyL_any h id
end
end Pk
end Go.Proofs.YtocicffmajbecaaGreat

namespace Go.Proofs.YtocicffmajbecaaGreat
open Go.RowKit
set_option maxRecDepth 100000
set_option linter.unusedSimpArgs false
namespace Pk
open Rw (En)
open Kn

def q1 : Kd := runK' k0
def q2 : Kd := spawnK 2 q1 0 2
def q3 : Kd := groupK 1 q2 0 1
def q4 : Kd := sleepK q3 1 9
def q5 : Kd := waitK q4 2 0
def q6 : Kd := signalK q5 0
def q7 : Kd := runK' q6
def q8 : Kd := { q7 with l := wakes q7.l [1], M := Ti.sleepOn 9 q7.M }
theorem shapeOf {w : World} {base T n m : Nat} {v : Value} {xs : List Value} (h : w.ownsRow base T n v m xs) : ∃ p c, v = .slice p m c := by
  rcases h.2 with ⟨rfl, rfl⟩ | ⟨g, cap, cur, rfl, _⟩
  · exact ⟨none, 0, rfl⟩
  · exact ⟨_, cap, rfl⟩
theorem due_one {k : Kd} {tick id u : Int} (h : k.M = [(id, u)]) (hu : u ≤ tick) : Ti.dueIds tick k.M = [id] := by
  unfold Ti.dueIds
  refine Ti.sortI_of ?_ (List.pairwise_singleton _ _)
  unfold Ti.isDue
  rw [h]
  simp [hu]
structure QF : Prop where
  r0 : runK k0.l = (1, true)
  s1 : spawnE 2 q1 0 2 = 0
  l1 : q1.last = 1
  s2 : spawnE 2 q2 0 2 = 14
  l2 : q2.last = 2
  g2 : groupE 1 q2 0 1 = 0
  l3 : q3.last = 3
  y3 : rdyE q3 1 = 0
  l4 : q4.last = 3
  w4 : (waitA q4 2 0).on = false ∧ (waitA q4 2 0).err = 0
  r5 : rootR q5.l = false
  i5 : (Ob.sigR 0 q5.c q5.W).err = 0
  r6 : runK q6.l = (2, true)
  m7 : q7.M = [(1, 9)]
  u8 : stU q8.l 7 = none
  t8 : (tids q8.l).length = 2
  n8 : q8.l.length = 4
theorem qf : QF := by
  constructor
  all_goals first | kernel_rfl | (constructor <;> kernel_rfl) | decide
set_option maxHeartbeats 8000000 in
theorem known_any (w : World) : Calls Tryz.prog 10 #[] w (Yields w (.bool true)) := by
  have F := hid qf
  have hqn := fun w => run_eql_nil_nil' (P := Tryz.prog) w Tryz.underlying29
  have hnn := fun w => run_neq_nil_nil' (P := Tryz.prog) w Tryz.underlying29
  go_enter Tryz.func10, Tryz.ntmps10
  go_wp2_with fail
  (with_reducible refine (k_new w w (Ext.refl w) 2 1).mono ?_)
  rintro e v1 ⟨b, rfl, s1, -⟩
  rw [show max (1 : Int) (min 2 8) = 2 by decide, show max (0 : Int) (min 1 4) = 1 by decide] at s1
  go_wp2_with fail
  (with_reducible refine (k_run (k' := q1) s1 F.out.r0 rfl).mono ?_)
  rintro e v2 ⟨rfl, s2⟩
  clear s1
  go_wp2_with fail
  (with_reducible refine (spawn_ok (p := 0) (wt := 2) (k' := q2) s2 (by rw [F.out.l1]; decide) F.out.s1 (n := 2) (by rw [F.out.l1]; decide) rfl).mono ?_)
  rintro e v3 ⟨rfl, s3⟩
  clear s2
  go_wp2_with fail
  (with_reducible refine (spawn_er (p := 0) (wt := 2) s3 (by rw [F.out.l2]; decide) F.out.s2 (by decide)).mono ?_)
  rintro e v4 ⟨rfl, s4⟩
  clear s3
  go_wp2_with fail
  (with_reducible refine (group_ok (p := 0) (wt := 1) (k' := q3) s4 (by rw [F.out.l2]; decide) F.out.g2 (n := 3) (by rw [F.out.l2]; decide) rfl).mono ?_)
  rintro e v5 ⟨rfl, s5⟩
  clear s4
  go_wp2_with fail
  (with_reducible refine (sleep_ok (id := 1) (u := 9) (k' := q4) s5 (by rw [F.out.l3]; decide) F.out.y3 rfl).mono ?_)
  rintro e v6 ⟨rfl, s6⟩
  clear s5
  go_wp2_with fail
  (with_reducible refine (wait_ok (id := 2) (o := 0) (k' := q5) s6 (by rw [F.out.l4]; decide) F.out.w4.1 F.out.w4.2 rfl).mono ?_)
  rintro e v7 ⟨rfl, s7⟩
  clear s6
  go_wp2_with fail
  (with_reducible refine (k_runnable s7 F.out.r5).mono ?_)
  rintro e v8 ⟨rfl, x8⟩
  have s8 := s7.ext x8
  clear s7 x8
  go_wp2_with fail
  (with_reducible refine (signal_ok (o := 0) (k' := q6) s8 F.out.i5 rfl).mono ?_)
  rintro e v9 ⟨rfl, s9⟩
  clear s8
  go_wp2_with fail
  (with_reducible refine (k_run (k' := q7) s9 F.out.r6 rfl).mono ?_)
  rintro e v10 ⟨rfl, s10⟩
  clear s9
  have hd : Ti.dueIds 9 q7.M = [1] := due_one F.out.m7 (by decide)
  have h8 : wakeK q7 9 = q8 := by
    unfold wakeK
    rw [hd]
    rfl
  go_wp2_with fail
  (with_reducible refine (k_wake (k' := q8) s10 hd h8).mono ?_)
  rintro e v11 ⟨vd, rfl, s11, o11⟩
  clear s10 hd h8
  go_wp2_with fail
  (with_reducible refine (exit_er (id := 7) s11 F.out.u8).mono ?_)
  rintro e v12 ⟨rfl, x12⟩
  have s12 := s11.ext x12
  have o12 := owns_ext o11 x12
  clear s11 o11
  rcases o12.2 with ⟨e, e0⟩ | ⟨g', cap', cur, rfl, e2, e3, e4, e5, e6, e7⟩
  · cases e0
  have c0 : v12.cell? ⟨g', 0, none⟩ = some (.int .i64 1) := by
    have : ([Value.int .i64 1])[0]? = some (.int .i64 1) := rfl
    have e7 : cur.toList.take 1 = [Value.int .i64 1] := e7
    rw [← e7, List.getElem?_take, if_pos (by decide)] at this
    simp only [World.cell?, e3]
    simpa using this
  have hg := (World.ownsRow.lt o12 g' rfl).2
  clear o12 e2 e3 e4 e5 e6 e7
  go_wp2_with (first
    | (go_at_call 18; (with_reducible refine (is_errno_to (r := true) rfl _).yields ?_); intro p1))
  (with_reducible refine (k_threads (s12.ext (by repeat (first | exact Ext.refl _ | assumption | refine Ext.more ?_ _ | refine Ext.drew ?_ | refine Ext.drewN ?_ _ | refine Ext.alloc ?_ _ | refine Ext.setCell ?_ (by simp; try omega) _ | refine Ext.trans ?_ (by assumption))))).mono ?_)
  rintro e v13 ⟨vt, rfl, x13, o13⟩
  obtain ⟨p3, c3, rfl⟩ : ∃ p c, vt = .slice p 2 c := by
    have := shapeOf o13
    rwa [F.out.t8] at this
  have X13 := hid x13
  clear o13 x13
  go_wp2_with fail
  (with_reducible refine (k_nodes ((s12.ext (by repeat (first | exact Ext.refl _ | assumption | refine Ext.more ?_ _ | refine Ext.drew ?_ | refine Ext.drewN ?_ _ | refine Ext.alloc ?_ _ | refine Ext.setCell ?_ (by simp; try omega) _ | refine Ext.trans ?_ (by assumption)))).ext X13.out)).mono ?_)
  rintro e v14 ⟨vn, rfl, x14, o14⟩
  obtain ⟨p4, c4, rfl⟩ : ∃ p c, vn = .slice p 4 c := by
    obtain ⟨p, c, e, -, -⟩ := o14.shape
    rw [List.length_map, F.out.n8] at e
    exact ⟨p, c, e⟩
  have S14 := hid (((s12.ext (by repeat (first | exact Ext.refl _ | assumption | refine Ext.more ?_ _ | refine Ext.drew ?_ | refine Ext.drewN ?_ _ | refine Ext.alloc ?_ _ | refine Ext.setCell ?_ (by simp; try omega) _ | refine Ext.trans ?_ (by assumption)))).ext X13.out).ext x14)
  clear s12 o14 x14 X13
  go_wp2
  go_returns
  exact ⟨rfl, S14.out.xt.trans (by repeat (first | exact Ext.refl _ | assumption | refine Ext.more ?_ _ | refine Ext.drew ?_ | refine Ext.drewN ?_ _ | refine Ext.alloc ?_ _ | refine Ext.setCell ?_ (by simp; try omega) _ | refine Ext.trans ?_ (by assumption)))⟩
end Pk
end Go.Proofs.YtocicffmajbecaaGreat

namespace Go.Proofs.YtocicffmajbecaaGreat
open Go.RowKit
set_option linter.unusedSimpArgs false
namespace Pk
open Rw (En)
open Kn
theorem due_none {M : List En} {tick : Int} (h : ∀ e ∈ M, tick < e.2) : Ti.dueIds tick M = [] := by
  unfold Ti.dueIds
  refine Ti.sortI_of ?_ List.Pairwise.nil
  unfold Ti.isDue
  have : (M.filter fun e => decide (e.2 ≤ tick)) = [] := List.filter_eq_nil_iff.2 fun e he => by
    have := h e he
    simp; omega
  rw [this]
  simp
theorem sig_none {k : Kd} {x : Nat} (hx : x < 4) (hW : k.W x = []) : (Ob.sigR x k.c k.W).err = 0 ∧ signalK k x = { k with c := Ob.upd k.c x (min (k.c x + 1) 255) } := by
  rcases signal_cases k x with ⟨h, -⟩ | ⟨i, hi, e, h1, h2, h3⟩ | ⟨i, id, rest, hi, e, h1, -⟩
  · omega
  · obtain rfl : x = i := by omega
    exact ⟨by rw [h2], h3⟩
  · obtain rfl : x = i := by omega
    rw [hW] at h1; cases h1
theorem sig_one {k : Kd} {x : Nat} {id : Int} {rest : List Int} (hx : x < 4) (hW : k.W x = id :: rest) : (Ob.sigR x k.c k.W).err = 0 ∧ signalK k x = { k with l := rdyL k.l id true, W := Ob.upd k.W x rest } := by
  rcases signal_cases k x with ⟨h, -⟩ | ⟨i, hi, e, h1, h2, h3⟩ | ⟨i, id', rest', hi, e, h1, h2, h3⟩
  · omega
  · obtain rfl : x = i := by omega
    rw [hW] at h1; cases h1
  · obtain rfl : x = i := by omega
    rw [hW] at h1
    injection h1 with e1 e2
    subst e1 e2
    exact ⟨by rw [h2], h3⟩
/-- One who is ready begins to wait. -/
theorem wait_new {th gr : Int} {k : Kd} (hk : KOk th gr k) {id : Int} {x : Nat} (hx : x < 4) (hs : stU k.l id = some true) (hc : k.c x = 0) : (waitA k id x).on = false ∧ (waitA k id x).err = 0 ∧ waitK k id x = { k with l := rdyL k.l id false, W := Ob.upd k.W x (k.W x ++ [id]) } := by
  rcases wait_cases hk id x with ⟨e, h0, h1, h2, h3, -⟩ | ⟨i, hi, e, -, h1, -⟩ | ⟨i, hi, e, -, h1, h2, h3⟩
  · exfalso
    have h10 : e = 10 := h1.resolve_left fun e13 => (h2.1 e13) hs
    subst h10
    unfold waitA at h3
    rw [if_pos (rdyE_zero.2 hs)] at h3
    unfold Ob.waitR at h3
    rw [if_neg (by omega)] at h3
    split at h3
    · cases h3
    · split at h3 <;> cases h3
  · obtain rfl : x = i := by omega
    omega
  · obtain rfl : x = i := by omega
    exact ⟨by rw [h2], by rw [h2], h3⟩
/-- One who is ready goes on. -/
theorem wait_go {th gr : Int} {k : Kd} (hk : KOk th gr k) {id : Int} {x : Nat} (hx : x < 4) (hs : stU k.l id = some true) (hc : 0 < k.c x) : (waitA k id x).on = true ∧ (waitA k id x).err = 0 ∧ waitK k id x = { k with c := Ob.upd k.c x (k.c x - 1) } := by
  rcases wait_cases hk id x with ⟨e, h0, h1, h2, h3, -⟩ | ⟨i, hi, e, -, h1, h2, h3⟩ | ⟨i, hi, e, -, h1, -⟩
  · exfalso
    have h10 : e = 10 := h1.resolve_left fun e13 => (h2.1 e13) hs
    subst h10
    unfold waitA at h3
    rw [if_pos (rdyE_zero.2 hs)] at h3
    unfold Ob.waitR at h3
    rw [if_neg (by omega)] at h3
    split at h3
    · cases h3
    · split at h3 <;> cases h3
  · obtain rfl : x = i := by omega
    exact ⟨by rw [h2], by rw [h2], h3⟩
  · obtain rfl : x = i := by omega
    omega
theorem rdyE_13 {k : Kd} {id : Int} (h : stU k.l id ≠ some true) : rdyE k id = 13 := by
  unfold rdyE
  rw [if_neg h]
theorem exit_zero {k : Kd} {id : Int} {r : Bool} (h : stU k.l id = some r) : exitE k id = 0 ∧ exitK k id = { k with l := remL k.l id, M := Ti.others id k.M, W := Ob.others id k.W } := by
  have e1 : exitE k id = 0 := by unfold exitE; rw [if_neg (by rw [h]; simp)]
  exact ⟨e1, by unfold exitK; rw [if_pos e1]⟩
end Pk
end Go.Proofs.YtocicffmajbecaaGreat

namespace Go.Proofs.YtocicffmajbecaaGreat
open Go.RowKit
set_option linter.unusedSimpArgs false
set_option maxRecDepth 100000
namespace Pk
open Rw (En)
open Kn

structure V where
  r : Int → Option Bool
  last : Int
  c : Nat → Int
  W : Nat → List Int
  M : List En
  n : Int
/-- One told ready or not. -/
def V.turn (v : V) (id : Int) (q : Option Bool) : V := { v with r := fun j => if j = id then q else v.r j }
def KV (w0 : World) (b : Nat) (v : V) (w : World) : Prop :=
  ∃ k, S w0 b 8 0 k w ∧ k.last = v.last ∧ (∀ j, stU k.l j = v.r j) ∧ (∀ x, x < 4 → k.c x = v.c x) ∧ (∀ x, x < 4 → k.W x = v.W x) ∧ k.M = v.M ∧ (cntT k.l : Int) = v.n
def v0 : V := ⟨fun j => if j = 1 then some true else none, 1, fun _ => 0, fun _ => [], [], 1⟩
theorem stU_k0 (j : Int) : stU k0.l j = if j = 1 then some true else none := by
  have e : k0.l = [⟨0, -1, 1, 0, false, true, 0⟩, ⟨1, 0, 1, 0, true, true, 0⟩] := by kernel_rfl
  rw [e]
  unfold stU getU
  by_cases h0 : j = 0
  · subst h0; rfl
  · by_cases h1 : j = 1
    · subst h1; rfl
    · have a0 : ((0 : Int) == j) = false := by simpa using fun e : (0 : Int) = j => h0 e.symm
      have a1 : ((1 : Int) == j) = false := by simpa using fun e : (1 : Int) = j => h1 e.symm
      simp [List.find?, a0, a1, h1]
section
variable {w0 w w' : World} {b x : Nat} {v : V} {id : Int}
theorem KV.ext (h : KV w0 b v w) (e : Ext w w') : KV w0 b v w' := by
  obtain ⟨k, h1, h2⟩ := h
  exact ⟨k, h1.ext e, h2⟩
theorem KV.lt (h : KV w0 b v w) : b < w.heap.size := by
  obtain ⟨k, h1, -⟩ := h
  exact h1.lt
theorem KV.xt (h : KV w0 b v w) : Ext w0 w := by
  obtain ⟨k, h1, -⟩ := h
  exact h1.xt
/-- Told alike. -/
theorem KV.told {u : V} (h : KV w0 b v w) (hl : v.last = u.last) (hr : ∀ j, v.r j = u.r j) (hc : ∀ x, x < 4 → v.c x = u.c x) (hW : ∀ x, x < 4 → v.W x = u.W x) (hM : v.M = u.M) (hn : v.n = u.n) : KV w0 b u w := by
  obtain ⟨k, h1, h2, h3, h4, h5, h6, h7⟩ := h
  exact ⟨k, h1, h2.trans hl, fun j => (h3 j).trans (hr j), fun x hx => (h4 x hx).trans (hc x hx), fun x hx => (h5 x hx).trans (hW x hx), h6.trans hM, h7.trans hn⟩
theorem kv_new (w0 w : World) (hx : Ext w0 w) :
    Calls Tryz.prog 11 #[.int .i64 8, .int .i64 0] w fun e w' => ∃ b, e = .returned (.pointer (some ⟨b, 0, none⟩)) ∧ KV w0 b v0 w' ∧ Ext w w' :=
  (k_new w0 w hx 8 0).mono fun _ _ ⟨b, q, h, x⟩ => ⟨b, q, ⟨k0, h, rfl, stU_k0, fun _ _ => rfl, fun _ _ => rfl, rfl, by decide⟩, x⟩
theorem stU_spawn {th gr : Int} {k : Kd} (hk : KOk th gr k) {p wt : Int} (h : spawnE th k p wt = 0) (j : Int) : stU (spawnK th k p wt).l j = if j = k.last + 1 then some true else stU k.l j := by
  have hl1 := hk.l1
  have hz := addK_zero (k := k) (q := th - cntT k.l) (p := p) (wt := wt) (t := true) (by rw [addE_spawn hk]; exact h)
  have hs := fun j => stU_add hk.wf hz j
  unfold spawnK
  rw [if_pos h]
  show stU (rdyL (addL k.l p (k.last + 1) wt true) (k.last + 1) true) j = _
  rw [stU_rdy (b := false) (hk.wf.addL _ _ _ _) (by rw [hs, if_pos rfl]; rfl) true j, hs]
  by_cases e : j = k.last + 1
  · rw [if_pos e, if_pos e]
  · rw [if_neg e, if_neg e, if_neg e]
theorem spawn_cntT {th gr : Int} {k : Kd} (hk : KOk th gr k) {p wt : Int} (h : spawnE th k p wt = 0) : cntT (spawnK th k p wt).l = cntT k.l + 1 := by
  have hl1 := hk.l1
  have hz := addK_zero (k := k) (q := th - cntT k.l) (p := p) (wt := wt) (t := true) (by rw [addE_spawn hk]; exact h)
  obtain ⟨q1, q2, -⟩ := cnt_add (l := k.l) (by omega) hz
  unfold spawnK
  rw [if_pos h]
  show cntT (rdyL (addL k.l p (k.last + 1) wt true) (k.last + 1) true) = _
  rw [(cnt_same (kd_rdy _ _ _)).1, q1]; rfl
theorem root_grp {l : List Nd} (hw : Wf l) : grpU l 0 = true := by
  obtain ⟨r, hr, h0, -, ht⟩ := hw.root
  unfold grpU
  rw [← h0, getU_of hw.sk.ids hr]
  simp [ht]
theorem kv_spawn (h : KV w0 b v w) (hn : v.n < 8) (hl : v.last ≤ 1000) :
    Calls Tryz.prog 12 #[.pointer (some ⟨b, 0, none⟩), .int .i64 0, .int .i64 1] w fun e w' => e = .returned (.tuple #[.int .i64 (v.last + 1), .nilIface]) ∧
      KV w0 b { v with r := fun j => if j = v.last + 1 then some true else v.r j, last := v.last + 1, n := v.n + 1 } w' := by
  obtain ⟨k, h1, h2, h3, h4, h5, h6, h7⟩ := h
  have he : spawnE 8 k 0 1 = 0 := by
    unfold spawnE
    rw [if_neg (by decide), if_neg (by rw [root_grp h1.ok.wf]; decide), if_neg (by omega)]
  have hk : spawnK 8 k 0 1 = { k with l := (spawnK 8 k 0 1).l, last := k.last + 1 } := by unfold spawnK; rw [if_pos he]
  refine (spawn_ok h1 (by omega) he (by rw [h2]) rfl).mono fun e w' ⟨q, s⟩ => ⟨q, _, s, ?_, fun j => ?_, ?_, ?_, ?_, ?_⟩
  · rw [hk]; show k.last + 1 = v.last + 1; rw [h2]
  · rw [stU_spawn h1.ok he, h2, h3]
  · rw [hk]; exact h4
  · rw [hk]; exact h5
  · rw [hk]; exact h6
  · rw [spawn_cntT h1.ok he]
    show ((cntT k.l + 1 : Nat) : Int) = v.n + 1
    omega
theorem cntT_rdy (l : List Nd) (id : Int) (r : Bool) : cntT (rdyL l id r) = cntT l := (cnt_same (kd_rdy l id r)).1
theorem kv_wait (h : KV w0 b v w) (hl : v.last ≤ 1000) (hr : v.r id = some true) (hx : x < 4) (hc : v.c x = 0) :
    Calls Tryz.prog 17 #[.pointer (some ⟨b, 0, none⟩), .int .i64 id, .int .i64 x] w fun e w' => e = .returned (.tuple #[.bool false, .nilIface]) ∧ KV w0 b { v.turn id (some false) with W := Ob.upd v.W x (v.W x ++ [id]) } w' := by
  obtain ⟨k, h1, h2, h3, h4, h5, h6, h7⟩ := h
  have hs : stU k.l id = some true := (h3 id).trans hr
  obtain ⟨a1, a2, a3⟩ := wait_new h1.ok hx hs (by rw [h4 x hx, hc])
  refine (wait_ok h1 (by omega) a1 a2 a3).mono fun e w' ⟨q, s⟩ => ⟨q, _, s, h2, fun j => ?_, h4, fun y hy => ?_, h6, ?_⟩
  · show stU (rdyL k.l id false) j = if j = id then some false else v.r j
    rw [stU_rdy h1.ok.wf hs, h3]
  · show Ob.upd k.W x (k.W x ++ [id]) y = Ob.upd v.W x (v.W x ++ [id]) y
    unfold Ob.upd
    rw [h5 x hx, h5 y hy]
  · show ((cntT (rdyL k.l id false) : Nat) : Int) = v.n
    rw [cntT_rdy]; exact h7
theorem kv_go (h : KV w0 b v w) (hl : v.last ≤ 1000) (hr : v.r id = some true) (hx : x < 4) (hc : 0 < v.c x) :
    Calls Tryz.prog 17 #[.pointer (some ⟨b, 0, none⟩), .int .i64 id, .int .i64 x] w fun e w' => e = .returned (.tuple #[.bool true, .nilIface]) ∧ KV w0 b { v with c := Ob.upd v.c x (v.c x - 1) } w' := by
  obtain ⟨k, h1, h2, h3, h4, h5, h6, h7⟩ := h
  obtain ⟨a1, a2, a3⟩ := wait_go h1.ok hx ((h3 id).trans hr) (by rw [h4 x hx]; exact hc)
  refine (wait_ok h1 (by omega) a1 a2 a3).mono fun e w' ⟨q, s⟩ => ⟨q, _, s, h2, h3, fun y hy => ?_, h5, h6, h7⟩
  show Ob.upd k.c x (k.c x - 1) y = Ob.upd v.c x (v.c x - 1) y
  unfold Ob.upd
  rw [h4 x hx, h4 y hy]
theorem kv_sig1 {rest : List Int} (h : KV w0 b v w) (hx : x < 4) (hW : v.W x = id :: rest) :
    Calls Tryz.prog 21 #[.pointer (some ⟨b, 0, none⟩), .int .i64 x] w fun e w' => e = .returned .nilIface ∧ KV w0 b { v.turn id (some true) with W := Ob.upd v.W x rest } w' := by
  obtain ⟨k, h1, h2, h3, h4, h5, h6, h7⟩ := h
  have hkW : k.W x = id :: rest := (h5 x hx).trans hW
  obtain ⟨a1, a2⟩ := sig_one hx hkW
  have hs : stU k.l id = some false := (h1.ok.head hx hkW).1
  refine (signal_ok h1 a1 a2).mono fun e w' ⟨q, s⟩ => ⟨q, _, s, h2, fun j => ?_, h4, fun y hy => ?_, h6, ?_⟩
  · show stU (rdyL k.l id true) j = if j = id then some true else v.r j
    rw [stU_rdy h1.ok.wf hs, h3]
  · show Ob.upd k.W x rest y = Ob.upd v.W x rest y
    unfold Ob.upd
    rw [h5 y hy]
  · show ((cntT (rdyL k.l id true) : Nat) : Int) = v.n
    rw [cntT_rdy]; exact h7
theorem kv_sig0 (h : KV w0 b v w) (hx : x < 4) (hW : v.W x = []) :
    Calls Tryz.prog 21 #[.pointer (some ⟨b, 0, none⟩), .int .i64 x] w fun e w' => e = .returned .nilIface ∧ KV w0 b { v with c := Ob.upd v.c x (min (v.c x + 1) 255) } w' := by
  obtain ⟨k, h1, h2, h3, h4, h5, h6, h7⟩ := h
  obtain ⟨a1, a2⟩ := sig_none hx ((h5 x hx).trans hW)
  refine (signal_ok h1 a1 a2).mono fun e w' ⟨q, s⟩ => ⟨q, _, s, h2, h3, fun y hy => ?_, h5, h6, h7⟩
  show Ob.upd k.c x (min (k.c x + 1) 255) y = Ob.upd v.c x (min (v.c x + 1) 255) y
  unfold Ob.upd
  rw [h4 x hx, h4 y hy]
theorem kv_sleep (h : KV w0 b v w) (hl : v.last ≤ 1000) (hr : v.r id = some true) (u : Int) :
    Calls Tryz.prog 16 #[.pointer (some ⟨b, 0, none⟩), .int .i64 id, .int .i64 u] w fun e w' => e = .returned .nilIface ∧ KV w0 b { v.turn id (some false) with M := Ti.put id u v.M } w' := by
  obtain ⟨k, h1, h2, h3, h4, h5, h6, h7⟩ := h
  have hs : stU k.l id = some true := (h3 id).trans hr
  have he := rdyE_zero.2 hs
  refine (sleep_ok h1 (by omega) he (u := u) (k' := { k with l := rdyL k.l id false, M := Ti.put id u k.M }) (by unfold sleepK; rw [if_pos he])).mono fun e w' ⟨q, s⟩ => ⟨q, _, s, h2, fun j => ?_, h4, h5, ?_, ?_⟩
  · show stU (rdyL k.l id false) j = if j = id then some false else v.r j
    rw [stU_rdy h1.ok.wf hs, h3]
  · show Ti.put id u k.M = Ti.put id u v.M
    rw [h6]
  · show ((cntT (rdyL k.l id false) : Nat) : Int) = v.n
    rw [cntT_rdy]; exact h7
theorem kv_exit {q : Bool} (h : KV w0 b v w) (hl : v.last ≤ 1000) (hr : v.r id = some q) :
    Calls Tryz.prog 14 #[.pointer (some ⟨b, 0, none⟩), .int .i64 id] w fun e w' => e = .returned .nilIface ∧ KV w0 b { v.turn id none with M := Ti.others id v.M, W := Ob.others id v.W, n := v.n - 1 } w' := by
  obtain ⟨k, h1, h2, h3, h4, h5, h6, h7⟩ := h
  have hs : stU k.l id = some q := (h3 id).trans hr
  obtain ⟨a1, a2⟩ := exit_zero hs
  obtain ⟨c1, -⟩ := cnt_rem h1.ok.wf hs
  refine (exit_ok h1 (by omega) a1 a2).mono fun e w' ⟨q, s⟩ => ⟨q, _, s, h2, fun j => ?_, h4, fun y hy => ?_, ?_, ?_⟩
  · show stU (remL k.l id) j = if j = id then none else v.r j
    rw [stU_rem h1.ok.wf hs, h3]
  · show Ob.others id k.W y = Ob.others id v.W y
    exact Ob.others_same (h5 y hy)
  · show Ti.others id k.M = Ti.others id v.M
    rw [h6]
  · show ((cntT (remL k.l id) : Nat) : Int) = v.n - 1
    omega
theorem kv_wake (h : KV w0 b v w) (tick : Int) {ds : List Int} (hd : Ti.dueIds tick v.M = ds) :
    Calls Tryz.prog 20 #[.pointer (some ⟨b, 0, none⟩), .int .i64 tick] w fun e w' => ∃ vd, e = .returned vd ∧ KV w0 b { v with r := fun j => if j ∈ ds then some true else v.r j, M := Ti.sleepOn tick v.M } w' ∧
      w'.ownsRow w.heap.size 3 1 vd ds.length (ds.map fun i => .int .i64 i) := by
  obtain ⟨k, h1, h2, h3, h4, h5, h6, h7⟩ := h
  subst hd
  refine (k_wake h1 (by rw [h6]) rfl).mono fun e w' ⟨vd, q, s, o⟩ => ⟨vd, q, ⟨_, s, h2, fun j => ?_, h4, h5, ?_, ?_⟩, o⟩
  · rw [(h1.ok.wake tick).2 j, h6, h3]
  · show Ti.sleepOn tick k.M = Ti.sleepOn tick v.M
    rw [h6]
  · show ((cntT (wakes k.l (Ti.dueIds tick k.M)) : Nat) : Int) = v.n
    rw [(cnt_same (kd_wakes _ _)).1]; exact h7
theorem rdy_mem {k : Kd} {th gr : Int} (hk : KOk th gr k) (hs : stU k.l id = some true) : ∃ n ∈ k.l, n.id = id ∧ n.rdy = true := by
  obtain ⟨n, hn, e1, -, e3⟩ := (stU_some hk.wf.sk.ids).1 hs
  exact ⟨n, hn, e1, e3⟩
theorem kv_run (h : KV w0 b v w) (hr : v.r id = some true) (ho : ∀ j, v.r j = some true → j = id) :
    Calls Tryz.prog 15 #[.pointer (some ⟨b, 0, none⟩)] w fun e w' => e = .returned (.tuple #[.int .i64 id, .bool true]) ∧ KV w0 b v w' := by
  obtain ⟨k, h1, h2, h3, h4, h5, h6, h7⟩ := h
  obtain ⟨n, hn, e1, e3⟩ := rdy_mem h1.ok ((h3 id).trans hr)
  obtain ⟨r, R, -, -, -, hR, -⟩ := h1.ok.wf.quantum hn e3
  have hk : runK k.l = (R.1, true) := by simp [runK, hR]
  obtain ⟨-, -, hst⟩ := run_st h1.ok hk
  have hid : R.1 = id := ho _ ((h3 _).symm.trans hst)
  rw [hid] at hk
  refine (k_run h1 hk rfl).mono fun e w' ⟨q, s⟩ => ⟨q, _, s, h2, fun j => ?_, h4, h5, h6, ?_⟩
  · show stU (runL k.l) j = v.r j
    rw [stU_run h1.ok.wf]; exact h3 j
  · show ((cntT (runL k.l) : Nat) : Int) = v.n
    rw [(cnt_same (kd_sim (runL_sim k.l).s)).1]; exact h7
theorem kv_quiet (h : KV w0 b v w) (ho : ∀ j, v.r j ≠ some true) : Calls Tryz.prog 23 #[.pointer (some ⟨b, 0, none⟩)] w (Yields w (.bool false)) := by
  obtain ⟨k, h1, h2, h3, h4, h5, h6, h7⟩ := h
  refine k_runnable h1 ?_
  obtain ⟨r, hr, h0, hq⟩ := h1.ok.wf.quiet fun m hm ht => by
    cases hrd : m.rdy with
    | false => rfl
    | true => exact absurd ((h3 m.id).symm.trans ((stU_some h1.ok.wf.sk.ids).2 ⟨m, hm, rfl, ht, hrd⟩)) (ho m.id)
  unfold rootR
  rw [← h0, getU_of h1.ok.wf.sk.ids hr]
  exact hq
theorem kv_ready {q : Bool} (h : KV w0 b v w) (hr : v.r id = some q) : Calls Tryz.prog 19 #[.pointer (some ⟨b, 0, none⟩), .int .i64 id] w (Yields w (.bool q)) := by
  obtain ⟨k, h1, h2, h3, -⟩ := h
  exact readyL_to h1 (rdN_of ((h3 id).trans hr))
end
end Pk
end Go.Proofs.YtocicffmajbecaaGreat

namespace Go.Proofs.YtocicffmajbecaaGreat
open Go.ChangeShapes Go.WideShapes Go.ChangeAt Go.RowKit Go.Joins Go.Deep
set_option linter.unusedSimpArgs false
set_option maxRecDepth 100000

namespace kernelSignals
open Pk Kn
/-- The first c of threads n + 1, n, .. -/
def fall (n c : Nat) : List Int := (List.range c).map fun t : Nat => (n : Int) + 1 - t
theorem fall_succ (n c : Nat) : fall n (c + 1) = fall n c ++ [(n : Int) + 1 - c] := by simp [fall, List.range_succ]
theorem fall_drop {n c i : Nat} (h : i < c) : (fall n c).drop i = ((n : Int) + 1 - i) :: (fall n c).drop (i + 1) := by
  have hl : i < (fall n c).length := by simpa [fall] using h
  rw [List.drop_eq_getElem_cons hl]
  congr 1
  simp [fall]
theorem fall_end {n c i : Nat} (h : c ≤ i) : (fall n c).drop i = [] := List.drop_eq_nil_of_le (by simpa [fall] using h)
/-- Threads 1 to i + 1. -/
def vA (i : Nat) : V := ⟨fun j => if 1 ≤ j ∧ j ≤ (i : Int) + 1 then some true else none, (i : Int) + 1, fun _ => 0, fun _ => [], [], (i : Int) + 1⟩
/-- The last c of them wait. -/
def vB (n x c : Nat) : V := ⟨fun j => if (n : Int) + 2 - c ≤ j ∧ j ≤ (n : Int) + 1 then some false else if 1 ≤ j ∧ j ≤ (n : Int) + 1 then some true else none, (n : Int) + 1, fun _ => 0, fun y => if y = x then fall n c else [], [], (n : Int) + 1⟩
/-- So many signals later; so many are counted. -/
def vC (n x s q : Nat) : V := ⟨fun j => if 2 ≤ j ∧ j ≤ (n : Int) + 1 - s then some false else if 1 ≤ j ∧ j ≤ (n : Int) + 1 then some true else none, (n : Int) + 1, fun y => if y = x then (q : Int) else 0, fun y => if y = x then (fall n n).drop s else [], [], (n : Int) + 1⟩
section
variable {w0 w : World} {b n x c i s q : Nat}
theorem spawn (h : KV w0 b (vA i) w) (hi : i < 7) :
    Calls Tryz.prog 12 #[.pointer (some ⟨b, 0, none⟩), .int .i64 0, .int .i64 1] w fun e w' => e = .returned (.tuple #[.int .i64 (i + 2), .nilIface]) ∧ KV w0 b (vA (i + 1)) w' := by
  refine (kv_spawn h (by show (i : Int) + 1 < 8; omega) (by show (i : Int) + 1 ≤ 1000; omega)).mono fun e w' ⟨q, s⟩ => ⟨?_, s.told ?_ (fun j => ?_) (fun _ _ => rfl) (fun _ _ => rfl) rfl ?_⟩
  · rw [q]
    show Ending.returned (.tuple #[.int .i64 ((i : Int) + 1 + 1), .nilIface]) = _
    rw [show (i : Int) + 1 + 1 = i + 2 by omega]
  · show (i : Int) + 1 + 1 = ((i + 1 : Nat) : Int) + 1; omega
  · show (if j = (i : Int) + 1 + 1 then some true else if 1 ≤ j ∧ j ≤ (i : Int) + 1 then some true else none) = if 1 ≤ j ∧ j ≤ ((i + 1 : Nat) : Int) + 1 then some true else none
    repeat' split
    all_goals first | rfl | (exfalso; omega)
  · show (i : Int) + 1 + 1 = ((i + 1 : Nat) : Int) + 1; omega
theorem start (h : KV w0 b (vA n) w) : KV w0 b (vB n x 0) w := by
  refine h.told rfl (fun j => ?_) (fun _ _ => rfl) (fun y _ => ?_) rfl rfl
  · show (if 1 ≤ j ∧ j ≤ (n : Int) + 1 then some true else none) = if (n : Int) + 2 - ((0 : Nat) : Int) ≤ j ∧ j ≤ (n : Int) + 1 then some false else if 1 ≤ j ∧ j ≤ (n : Int) + 1 then some true else none
    repeat' split
    all_goals first | rfl | (exfalso; omega)
  · show [] = if y = x then fall n 0 else []
    split <;> rfl
theorem wait (h : KV w0 b (vB n x c) w) (hc : c < n) (hn : n ≤ 7) (hx : x < 4) {id : Int} (hid : id = (n : Int) + 1 - c) :
    Calls Tryz.prog 17 #[.pointer (some ⟨b, 0, none⟩), .int .i64 id, .int .i64 x] w fun e w' => e = .returned (.tuple #[.bool false, .nilIface]) ∧ KV w0 b (vB n x (c + 1)) w' := by
  subst hid
  refine (kv_wait h (by show (n : Int) + 1 ≤ 1000; omega) (by show (if (n : Int) + 2 - c ≤ (n : Int) + 1 - c ∧ (n : Int) + 1 - c ≤ (n : Int) + 1 then some false else if 1 ≤ (n : Int) + 1 - c ∧ (n : Int) + 1 - c ≤ (n : Int) + 1 then some true else none) = some true; rw [if_neg (by omega), if_pos (by omega)]) hx rfl).mono fun e w' ⟨q, s⟩ => ⟨q, s.told rfl (fun j => ?_) (fun _ _ => rfl) (fun y _ => ?_) rfl rfl⟩
  · show (if j = (n : Int) + 1 - c then some false else if (n : Int) + 2 - c ≤ j ∧ j ≤ (n : Int) + 1 then some false else if 1 ≤ j ∧ j ≤ (n : Int) + 1 then some true else none) = if (n : Int) + 2 - ((c + 1 : Nat) : Int) ≤ j ∧ j ≤ (n : Int) + 1 then some false else if 1 ≤ j ∧ j ≤ (n : Int) + 1 then some true else none
    repeat' split
    all_goals first | rfl | (exfalso; omega)
  · show (if y = x then (if x = x then fall n c else []) ++ [(n : Int) + 1 - c] else if y = x then fall n c else []) = if y = x then fall n (c + 1) else []
    by_cases e : y = x
    · rw [if_pos e, if_pos rfl, if_pos e, fall_succ]
    · rw [if_neg e, if_neg e, if_neg e]
theorem turnTo (h : KV w0 b (vB n x n) w) : KV w0 b (vC n x 0 0) w := by
  refine h.told rfl (fun j => ?_) (fun y _ => ?_) (fun y _ => ?_) rfl rfl
  · show (if (n : Int) + 2 - n ≤ j ∧ j ≤ (n : Int) + 1 then some false else if 1 ≤ j ∧ j ≤ (n : Int) + 1 then some true else none) = if 2 ≤ j ∧ j ≤ (n : Int) + 1 - ((0 : Nat) : Int) then some false else if 1 ≤ j ∧ j ≤ (n : Int) + 1 then some true else none
    repeat' split
    all_goals first | rfl | (exfalso; omega)
  · show (0 : Int) = if y = x then ((0 : Nat) : Int) else 0
    split <;> rfl
  · show (if y = x then fall n n else []) = if y = x then (fall n n).drop 0 else []
    rw [List.drop_zero]
theorem signal (h : KV w0 b (vC n x s (s - n)) w) (hx : x < 4) (hs : s ≤ 20) :
    Calls Tryz.prog 21 #[.pointer (some ⟨b, 0, none⟩), .int .i64 x] w fun e w' => e = .returned .nilIface ∧ KV w0 b (vC n x (s + 1) (s + 1 - n)) w' := by
  by_cases hlt : s < n
  · refine (kv_sig1 (id := (n : Int) + 1 - s) (rest := (fall n n).drop (s + 1)) h hx (by show (if x = x then (fall n n).drop s else []) = _; rw [if_pos rfl, fall_drop hlt])).mono fun e w' ⟨q, k⟩ => ⟨q, k.told rfl (fun j => ?_) (fun y _ => ?_) (fun y _ => ?_) rfl rfl⟩
    · show (if j = (n : Int) + 1 - s then some true else if 2 ≤ j ∧ j ≤ (n : Int) + 1 - s then some false else if 1 ≤ j ∧ j ≤ (n : Int) + 1 then some true else none) = if 2 ≤ j ∧ j ≤ (n : Int) + 1 - ((s + 1 : Nat) : Int) then some false else if 1 ≤ j ∧ j ≤ (n : Int) + 1 then some true else none
      repeat' split
      all_goals first | rfl | (exfalso; omega)
    · show (if y = x then ((s - n : Nat) : Int) else 0) = if y = x then ((s + 1 - n : Nat) : Int) else 0
      rw [show s - n = 0 by omega, show s + 1 - n = 0 by omega]
    · show (if y = x then (fall n n).drop (s + 1) else if y = x then (fall n n).drop s else []) = if y = x then (fall n n).drop (s + 1) else []
      by_cases e : y = x
      · rw [if_pos e, if_pos e]
      · rw [if_neg e, if_neg e, if_neg e]
  · refine (kv_sig0 h hx (by show (if x = x then (fall n n).drop s else []) = _; rw [if_pos rfl, fall_end (by omega)])).mono fun e w' ⟨q, k⟩ => ⟨q, k.told rfl (fun j => ?_) (fun y _ => ?_) (fun y _ => ?_) rfl rfl⟩
    · show (if 2 ≤ j ∧ j ≤ (n : Int) + 1 - s then some false else if 1 ≤ j ∧ j ≤ (n : Int) + 1 then some true else none) = if 2 ≤ j ∧ j ≤ (n : Int) + 1 - ((s + 1 : Nat) : Int) then some false else if 1 ≤ j ∧ j ≤ (n : Int) + 1 then some true else none
      repeat' split
      all_goals first | rfl | (exfalso; omega)
    · show (if y = x then min ((if x = x then ((s - n : Nat) : Int) else 0) + 1) 255 else if y = x then ((s - n : Nat) : Int) else 0) = if y = x then ((s + 1 - n : Nat) : Int) else 0
      by_cases e : y = x
      · rw [if_pos e, if_pos rfl, if_pos e]; omega
      · rw [if_neg e, if_neg e, if_neg e]
    · show (if y = x then (fall n n).drop s else []) = if y = x then (fall n n).drop (s + 1) else []
      rw [fall_end (by omega), fall_end (by omega)]
theorem told (h : KV w0 b (vC n x s q) w) (hi : i < n) {id : Int} (hid : id = (n : Int) + 1 - i) {r : Bool} (hr : r = decide (i < s)) :
    Calls Tryz.prog 19 #[.pointer (some ⟨b, 0, none⟩), .int .i64 id] w (Yields w (.bool r)) := by
  subst hid hr
  refine kv_ready h ?_
  show (if 2 ≤ (n : Int) + 1 - i ∧ (n : Int) + 1 - i ≤ (n : Int) + 1 - s then some false else if 1 ≤ (n : Int) + 1 - i ∧ (n : Int) + 1 - i ≤ (n : Int) + 1 then some true else none) = some (decide (i < s))
  by_cases e : i < s
  · rw [if_neg (by omega), if_pos (by omega), decide_eq_true e]
  · rw [if_pos (by omega), decide_eq_false e]
theorem one (hn : 1 ≤ n) : (vC n x s q).r 1 = some true := by
  show (if 2 ≤ (1 : Int) ∧ (1 : Int) ≤ (n : Int) + 1 - s then some false else if 1 ≤ (1 : Int) ∧ (1 : Int) ≤ (n : Int) + 1 then some true else none) = some true
  rw [if_neg (by omega), if_pos (by omega)]
theorem go (h : KV w0 b (vC n x s (q + 1)) w) (hn : 1 ≤ n ∧ n ≤ 7) (hx : x < 4) :
    Calls Tryz.prog 17 #[.pointer (some ⟨b, 0, none⟩), .int .i64 1, .int .i64 x] w fun e w' => e = .returned (.tuple #[.bool true, .nilIface]) ∧ KV w0 b (vC n x s q) w' := by
  refine (kv_go h (by show (n : Int) + 1 ≤ 1000; omega) (one hn.1) hx (by show 0 < (if x = x then ((q + 1 : Nat) : Int) else 0); rw [if_pos rfl]; omega)).mono fun e w' ⟨a, k⟩ => ⟨a, k.told rfl (fun _ => rfl) (fun y _ => ?_) (fun _ _ => rfl) rfl rfl⟩
  show (if y = x then (if x = x then ((q + 1 : Nat) : Int) else 0) - 1 else if y = x then ((q + 1 : Nat) : Int) else 0) = if y = x then (q : Int) else 0
  by_cases e : y = x
  · rw [if_pos e, if_pos rfl, if_pos e]; omega
  · rw [if_neg e, if_neg e, if_neg e]
theorem stay (h : KV w0 b (vC n x s 0) w) (hn : 1 ≤ n ∧ n ≤ 7) (hx : x < 4) :
    Calls Tryz.prog 17 #[.pointer (some ⟨b, 0, none⟩), .int .i64 1, .int .i64 x] w fun e w' => e = .returned (.tuple #[.bool false, .nilIface]) ∧ ∃ v, KV w0 b v w' ∧ v.r 1 = some false :=
  (kv_wait h (by show (n : Int) + 1 ≤ 1000; omega) (one hn.1) hx (by show (if x = x then ((0 : Nat) : Int) else 0) = 0; rw [if_pos rfl]; rfl)).mono fun e w' ⟨a, k⟩ => ⟨a, _, k, by show (if (1 : Int) = 1 then some false else (vC n x s 0).r 1) = some false; rw [if_pos rfl]⟩
end
set_option maxHeartbeats 8000000 in
theorem walk (n m more obj : Int) (hn0 : 0 ≤ n) (hm0 : 0 ≤ m) (hr0 : 0 ≤ more) (ho0 : 0 ≤ obj) (w0 : World) :
    Calls Tryz.prog 9 #[.int .u8 n, .int .u8 m, .int .u8 more, .int .u8 obj] w0 (Yields w0 (.bool true)) := by
  have hqn := fun w => run_eql_nil_nil' (P := Tryz.prog) w Tryz.underlying29
  have hnn := fun w => run_neq_nil_nil' (P := Tryz.prog) w Tryz.underlying29
  obtain ⟨r, hr⟩ : ∃ r : Nat, n % 7 = r := ⟨(n % 7).toNat, by omega⟩
  obtain ⟨s, hs⟩ : ∃ s : Nat, m % 12 = s := ⟨(m % 12).toNat, by omega⟩
  obtain ⟨x, hx⟩ : ∃ x : Nat, obj % 4 = x := ⟨(obj % 4).toNat, by omega⟩
  obtain ⟨d, hd⟩ : ∃ d : Nat, more % 6 = d := ⟨(more % 6).toNat, by omega⟩
  have er : IntKind.i64.wrap ((r : Int) + 1) = ((r + 1 : Nat) : Int) := by rw [show (r : Int) + 1 = ((r + 1 : Nat) : Int) by omega]; exact IntWalk.i64_in _ (by omega)
  obtain ⟨w, hw⟩ : ∃ w : Nat, w = r + 1 := ⟨_, rfl⟩
  rw [← hw] at er
  have HW := hid (show 1 ≤ w ∧ w ≤ 7 by omega)
  have HS := hid (show s < 12 by omega)
  have HX := hid (show x < 4 by omega)
  have HD := hid (show d < 6 by omega)
  clear hw
  go_enter Tryz.func9, Tryz.ntmps9
  go_wp2_with (first
    | (go_at_call 10; (with_reducible refine (known_any _).yields ?_); intro p0)
    | (go_at_call 11; (with_reducible refine (kv_new w0 _ (by repeat (first | exact Ext.refl _ | assumption | refine Ext.more ?_ _ | refine Ext.drew ?_ | refine Ext.drewN ?_ _ | refine Ext.alloc ?_ _ | refine Ext.setCell ?_ (by simp; try omega) _ | refine Ext.trans ?_ (by assumption)))).mono ?_); rintro e v1 ⟨b, rfl, s1, x1⟩; have I0 : Hid (KV w0 b (vA 0) v1) := s1.told rfl (fun j => by show (if j = 1 then some true else none) = if 1 ≤ j ∧ j ≤ ((0 : Nat) : Int) + 1 then some true else none; by_cases e : j = 1 <;> (first | rw [if_pos e, if_pos (by omega)] | rw [if_neg e, if_neg (by omega)])) (fun _ _ => rfl) (fun _ _ => rfl) rfl rfl; clear s1 x1))
  (try simp only [hr, hs, hx, hd, er])
  have HRE := hid (And.intro hr (And.intro hs (And.intro hx er)))
  clear hr hs hx er
  go_loopw [13] (fun v wr => ∃ i : Nat, v = .int .i64 i ∧ i ≤ w ∧ Hid (KV w0 b (vA i) wr)) (fun v _ => (10 - (intOf v).toNat))
  case atStart => exact ⟨0, rfl, Nat.zero_le _, I0.out⟩
  case round =>
    obtain ⟨i, rfl, hi, I⟩ := hrel
    have hbl := I.out.lt
    have hw7 := HW.out
    by_cases hlt : i < w
    · have CS := hid (fun w' (e : Ext wr w') => spawn (I.out.ext e) (by omega))
      have j2 : ((i : Int) + 2 != (i : Int) + 2) = false := by simp
      have ei : IntKind.i64.wrap ((i : Int) + 2) = (i : Int) + 2 := IntWalk.i64_in _ (by omega)
      go_wp2_with (go_at_call 12; (with_reducible refine (CS.out _ (by repeat (first | exact Ext.refl _ | assumption | refine Ext.more ?_ _ | refine Ext.drew ?_ | refine Ext.drewN ?_ _ | refine Ext.alloc ?_ _ | refine Ext.setCell ?_ (by simp; try omega) _ | refine Ext.trans ?_ (by assumption)))).mono ?_); rintro e v2 ⟨rfl, i2⟩; have I2 := hid i2; clear i2)
      go_roundw
      case rel => exact ⟨i + 1, by go_num, by omega, I2.out.ext (by repeat (first | exact Ext.refl _ | assumption | refine Ext.more ?_ _ | refine Ext.drew ?_ | refine Ext.drewN ?_ _ | refine Ext.alloc ?_ _ | refine Ext.setCell ?_ (by simp; try omega) _ | refine Ext.trans ?_ (by assumption)))⟩
      case measure => simp [intOf]; omega
    · have I1 : Hid (KV w0 b (vB w x 0) wr) := by
        have := I.out
        rw [show i = w by omega] at this
        exact start this
      clear I
      go_wp2
      clear hlt hi
      go_loopw [16] (fun v wr => ∃ j : Nat, v = .int .i64 j ∧ j ≤ w ∧ Hid (KV w0 b (vB w x (w - j)) wr)) (fun v _ => (intOf v).toNat)
      case atStart => exact ⟨w, rfl, Nat.le_refl _, by rw [Nat.sub_self]; exact I1.out⟩
      case round =>
        obtain ⟨j, rfl, hj, I⟩ := hrel
        have hbx := I.out.lt
        by_cases hlt : 0 < j
        · have CS := hid (fun w' (e : Ext wr w') => wait (I.out.ext e) (show w - j < w by omega) HW.out.2 HX.out (id := (j : Int) + 1) (by omega))
          have e1 : IntKind.i64.wrap ((j : Int) + 1) = (j : Int) + 1 := IntWalk.i64_in _ (by omega)
          have e2 : IntKind.i64.wrap ((j : Int) - 1) = ((j - 1 : Nat) : Int) := by rw [show (j : Int) - 1 = ((j - 1 : Nat) : Int) by omega]; exact IntWalk.i64_in _ (by omega)
          have HE : Hid (w - j + 1 = w - (j - 1)) := by unfold Hid; omega
          go_wp2_with (go_at_call 17; (with_reducible refine (CS.out _ (by repeat (first | exact Ext.refl _ | assumption | refine Ext.more ?_ _ | refine Ext.drew ?_ | refine Ext.drewN ?_ _ | refine Ext.alloc ?_ _ | refine Ext.setCell ?_ (by simp; try omega) _ | refine Ext.trans ?_ (by assumption)))).mono ?_); rintro e v2 ⟨rfl, i2⟩; have I2 := hid i2; clear i2)
          go_roundw
          case rel => exact ⟨j - 1, rfl, by omega, by rw [← HE.out]; exact I2.out.ext (by repeat (first | exact Ext.refl _ | assumption | refine Ext.more ?_ _ | refine Ext.drew ?_ | refine Ext.drewN ?_ _ | refine Ext.alloc ?_ _ | refine Ext.setCell ?_ (by simp; try omega) _ | refine Ext.trans ?_ (by assumption)))⟩
          case measure => simp [intOf]; omega
        · have I2 : Hid (KV w0 b (vC w x 0 0) wr) := by
            have := I.out
            rw [show w - j = w by omega] at this
            exact turnTo this
          clear I
          go_wp2
          clear hlt hj
          go_loopw [19] (fun v wr => ∃ i : Nat, v = .int .i64 i ∧ i ≤ s ∧ Hid (KV w0 b (vC w x i (i - w)) wr)) (fun v _ => (12 - (intOf v).toNat))
          case atStart => exact ⟨0, rfl, Nat.zero_le _, by rw [Nat.zero_sub]; exact I2.out⟩
          case round =>
            obtain ⟨i, rfl, hi, I⟩ := hrel
            have hbk := I.out.lt
            have hs12 := HS.out
            by_cases hlt : i < s
            · have CS := hid (fun w' (e : Ext wr w') => signal (I.out.ext e) HX.out (by omega))
              go_wp2_with (go_at_call 21; (with_reducible refine (CS.out _ (by repeat (first | exact Ext.refl _ | assumption | refine Ext.more ?_ _ | refine Ext.drew ?_ | refine Ext.drewN ?_ _ | refine Ext.alloc ?_ _ | refine Ext.setCell ?_ (by simp; try omega) _ | refine Ext.trans ?_ (by assumption)))).mono ?_); rintro e v2 ⟨rfl, i2⟩; have I3 := hid i2; clear i2)
              go_roundw
              case rel => exact ⟨i + 1, by go_num, by omega, I3.out.ext (by repeat (first | exact Ext.refl _ | assumption | refine Ext.more ?_ _ | refine Ext.drew ?_ | refine Ext.drewN ?_ _ | refine Ext.alloc ?_ _ | refine Ext.setCell ?_ (by simp; try omega) _ | refine Ext.trans ?_ (by assumption)))⟩
              case measure => simp [intOf]; omega
            · have I3 : Hid (KV w0 b (vC w x s (s - w)) wr) := by
                have := I.out
                rwa [show i = s by omega] at this
              clear I
              go_wp2
              clear hlt hi
              go_loopw [20] (fun v wr => ∃ i : Nat, v = .int .i64 i ∧ i ≤ w ∧ Hid (KV w0 b (vC w x s (s - w)) wr)) (fun v _ => (10 - (intOf v).toNat))
              case atStart => exact ⟨0, rfl, Nat.zero_le _, I3.out⟩
              case round =>
                obtain ⟨i, rfl, hi, I⟩ := hrel
                have hbm := I.out.lt
                by_cases hlt : i < w
                · have e1 : IntKind.i64.wrap ((w : Int) + 1) = (w : Int) + 1 := IntWalk.i64_in _ (by omega)
                  have e2 : IntKind.i64.wrap ((w : Int) + 1 - i) = (w : Int) + 1 - i := IntWalk.i64_in _ (by omega)
                  by_cases his : i < s
                  · have j1 : decide ((i : Int) < s) = true := by rw [decide_eq_true_iff]; omega
                    have j2 : decide (i < s) = true := by rw [decide_eq_true_iff]; omega
                    have CS := hid (fun w' (e : Ext wr w') => told (r := true) (I.out.ext e) hlt (id := (w : Int) + 1 - i) rfl j2.symm)
                    go_wp2_with (go_at_call 19; (with_reducible refine (CS.out _ (by repeat (first | exact Ext.refl _ | assumption | refine Ext.more ?_ _ | refine Ext.drew ?_ | refine Ext.drewN ?_ _ | refine Ext.alloc ?_ _ | refine Ext.setCell ?_ (by simp; try omega) _ | refine Ext.trans ?_ (by assumption)))).mono ?_); rintro e v2 ⟨rfl, x2⟩; have I4 := hid ((I.out.ext (by repeat (first | exact Ext.refl _ | assumption | refine Ext.more ?_ _ | refine Ext.drew ?_ | refine Ext.drewN ?_ _ | refine Ext.alloc ?_ _ | refine Ext.setCell ?_ (by simp; try omega) _ | refine Ext.trans ?_ (by assumption)))).ext x2); clear x2)
                    go_roundw
                    case rel => exact ⟨i + 1, by go_num, by omega, I4.out.ext (by repeat (first | exact Ext.refl _ | assumption | refine Ext.more ?_ _ | refine Ext.drew ?_ | refine Ext.drewN ?_ _ | refine Ext.alloc ?_ _ | refine Ext.setCell ?_ (by simp; try omega) _ | refine Ext.trans ?_ (by assumption)))⟩
                    case measure => simp [intOf]; omega
                  · have j1 : decide ((i : Int) < s) = false := by rw [decide_eq_false_iff_not]; omega
                    have j2 : decide (i < s) = false := by rw [decide_eq_false_iff_not]; omega
                    have CS := hid (fun w' (e : Ext wr w') => told (r := false) (I.out.ext e) hlt (id := (w : Int) + 1 - i) rfl j2.symm)
                    go_wp2_with (go_at_call 19; (with_reducible refine (CS.out _ (by repeat (first | exact Ext.refl _ | assumption | refine Ext.more ?_ _ | refine Ext.drew ?_ | refine Ext.drewN ?_ _ | refine Ext.alloc ?_ _ | refine Ext.setCell ?_ (by simp; try omega) _ | refine Ext.trans ?_ (by assumption)))).mono ?_); rintro e v2 ⟨rfl, x2⟩; have I4 := hid ((I.out.ext (by repeat (first | exact Ext.refl _ | assumption | refine Ext.more ?_ _ | refine Ext.drew ?_ | refine Ext.drewN ?_ _ | refine Ext.alloc ?_ _ | refine Ext.setCell ?_ (by simp; try omega) _ | refine Ext.trans ?_ (by assumption)))).ext x2); clear x2)
                    go_roundw
                    case rel => exact ⟨i + 1, by go_num, by omega, I4.out.ext (by repeat (first | exact Ext.refl _ | assumption | refine Ext.more ?_ _ | refine Ext.drew ?_ | refine Ext.drewN ?_ _ | refine Ext.alloc ?_ _ | refine Ext.setCell ?_ (by simp; try omega) _ | refine Ext.trans ?_ (by assumption)))⟩
                    case measure => simp [intOf]; omega
                · have e1 : IntKind.i64.wrap ((s : Int) - w) = (s : Int) - w := IntWalk.i64_in _ (by omega)
                  have e3 : max 0 ((s : Int) - w) = ((s - w : Nat) : Int) := by omega
                  have HS2 : Hid (KV w0 b (vC w x s (s - w)) wr) := I
                  clear I
                  go_wp2
                  obtain ⟨q0, hq0⟩ : ∃ q : Nat, s - w = q := ⟨_, rfl⟩
                  (try simp only [e1, e3])
                  rw [hq0]
                  rw [hq0] at HS2
                  have HQ0 : Hid (q0 < 12) := by have := HS.out; unfold Hid; omega
                  clear e1 e3 hq0 hlt hi
                  go_loopw [21, 22] (fun u v wr => ∃ (q : Int) (i : Nat), u = .int .i64 q ∧ v = .int .i64 i ∧ i ≤ d ∧ 0 ≤ q ∧ q < 12 ∧ Hid (KV w0 b (vC w x s q.toNat) wr)) (fun _ v _ => (10 - (intOf v).toNat))
                  case atStart => exact ⟨q0, 0, rfl, rfl, Nat.zero_le _, by omega, by have := HQ0.out; omega, HS2.out⟩
                  case round =>
                    obtain ⟨q, i, rfl, rfl, hi, hq0, hq, I⟩ := hrel
                    have hbn := I.out.lt
                    have hd6 := HD.out
                    by_cases hlt : i < d
                    · by_cases hqz : 0 < q
                      · have HE : Hid (q.toNat = (q - 1).toNat + 1) := by unfold Hid; omega
                        have CS := hid (fun w' (e : Ext wr w') => go (q := (q - 1).toNat) (by rw [← HE.out]; exact I.out.ext e) HW.out HX.out)
                        go_wp2_with (go_at_call 17; (with_reducible refine (CS.out _ (by repeat (first | exact Ext.refl _ | assumption | refine Ext.more ?_ _ | refine Ext.drew ?_ | refine Ext.drewN ?_ _ | refine Ext.alloc ?_ _ | refine Ext.setCell ?_ (by simp; try omega) _ | refine Ext.trans ?_ (by assumption)))).mono ?_); rintro e v2 ⟨rfl, i2⟩; have I4 := hid i2; clear i2)
                        go_roundw
                        case rel => exact ⟨q - 1, i + 1, by go_num, by go_num, by omega, by omega, by omega, I4.out.ext (by repeat (first | exact Ext.refl _ | assumption | refine Ext.more ?_ _ | refine Ext.drew ?_ | refine Ext.drewN ?_ _ | refine Ext.alloc ?_ _ | refine Ext.setCell ?_ (by simp; try omega) _ | refine Ext.trans ?_ (by assumption)))⟩
                        case measure => simp [intOf]; omega
                      · have I0 : Hid (KV w0 b (vC w x s 0) wr) := by
                          have := I.out
                          rwa [show q.toNat = 0 by omega] at this
                        have CS := hid (fun w' (e : Ext wr w') => stay (I0.out.ext e) HW.out HX.out)
                        obtain rfl : q = 0 := by omega
                        clear hqz hq0 hq I
                        go_wp2_with (go_at_call 17; (with_reducible refine (CS.out _ (by repeat (first | exact Ext.refl _ | assumption | refine Ext.more ?_ _ | refine Ext.drew ?_ | refine Ext.drewN ?_ _ | refine Ext.alloc ?_ _ | refine Ext.setCell ?_ (by simp; try omega) _ | refine Ext.trans ?_ (by assumption)))).mono ?_); rintro e v2 ⟨rfl, vv, i2, hv⟩; have hb2 := i2.lt; have I4 := hid i2; have HV := hid hv; clear i2 hv)
                        (with_reducible refine (kv_ready (I4.out.ext (by repeat (first | exact Ext.refl _ | assumption | refine Ext.more ?_ _ | refine Ext.drew ?_ | refine Ext.drewN ?_ _ | refine Ext.alloc ?_ _ | refine Ext.setCell ?_ (by simp; try omega) _ | refine Ext.trans ?_ (by assumption)))) HV.out).mono ?_)
                        rintro e v3 ⟨rfl, x3⟩
                        have HX5 := hid ((I4.out.ext (by repeat (first | exact Ext.refl _ | assumption | refine Ext.more ?_ _ | refine Ext.drew ?_ | refine Ext.drewN ?_ _ | refine Ext.alloc ?_ _ | refine Ext.setCell ?_ (by simp; try omega) _ | refine Ext.trans ?_ (by assumption)))).ext x3).xt
                        clear x3
                        go_wp2
                        go_returns
                        exact ⟨rfl, HX5.out.trans (by repeat (first | exact Ext.refl _ | assumption | refine Ext.more ?_ _ | refine Ext.drew ?_ | refine Ext.drewN ?_ _ | refine Ext.alloc ?_ _ | refine Ext.setCell ?_ (by simp; try omega) _ | refine Ext.trans ?_ (by assumption)))⟩
                    · have CS := hid (fun w' (e : Ext wr w') => kv_ready (I.out.ext e) (one HW.out.1))
                      go_wp2_with (go_at_call 19; (with_reducible refine (CS.out _ (by repeat (first | exact Ext.refl _ | assumption | refine Ext.more ?_ _ | refine Ext.drew ?_ | refine Ext.drewN ?_ _ | refine Ext.alloc ?_ _ | refine Ext.setCell ?_ (by simp; try omega) _ | refine Ext.trans ?_ (by assumption)))).mono ?_); rintro e v2 ⟨rfl, x2⟩; have I4 := hid ((I.out.ext (by repeat (first | exact Ext.refl _ | assumption | refine Ext.more ?_ _ | refine Ext.drew ?_ | refine Ext.drewN ?_ _ | refine Ext.alloc ?_ _ | refine Ext.setCell ?_ (by simp; try omega) _ | refine Ext.trans ?_ (by assumption)))).ext x2); clear x2)
                      go_returns
                      exact ⟨rfl, I4.out.xt.trans (by repeat (first | exact Ext.refl _ | assumption | refine Ext.more ?_ _ | refine Ext.drew ?_ | refine Ext.drewN ?_ _ | refine Ext.alloc ?_ _ | refine Ext.setCell ?_ (by simp; try omega) _ | refine Ext.trans ?_ (by assumption)))⟩
set_option linter.unusedVariables false in
set_option maxRecDepth 100000 in
theorem lifted (os : Os) (started : os.Started) (H : Type) (enc : TypeId × Value → H) :
    ReturnsInHanded {} Tryz.checked os 9 .any (Rows.kernelSignalsSpec.pre6 enc Tryz.prog Tryz.f9 Rows.kernelSignalsRow.domain false) (Rows.kernelSignalsSpec.post enc Tryz.prog Tryz.f9 false true false false) := by
  refine returnsInHanded_of_change (C := Tryz.checked) Own.own started (by kernel_rfl) Tryz.func9
    (ChangeSpec.witness6 (enc := enc) (C := Tryz.checked) false ⟨#[], #[.int .u8 0, .int .u8 0, .int .u8 0, .int .u8 0], []⟩ 8 (by kernel_rfl) (by kernel_rfl) (by kernel_rfl) (by kernel_rfl)) ?_
  intro W base args ds gs before hval0 hW hcnd _
  have hval : ∀ (j : Nat) t v, Tryz.f9.params[j]? = some t → args[j]? = some v → Value.okWide Tryz.prog W .any base t v := hval0
  have hW' := hW
  obtain ⟨p, q, hA0, hV, rfl, hfz, hnd⟩ := hW
  have hA : DataW.TrodAll enc Tryz.prog W 0 (fun _ => true) true Tryz.f9.params.toList args.toList ds p := hA0
  rw [Tryz.params9] at hA hval
  obtain ⟨v0, vs0, d0, ds0, p0, q0, hargs, rfl, rfl, h0, r0⟩ := trodAll_cons hA
  obtain ⟨v1, vs1, d1, ds1, p1, q1, rfl, rfl, rfl, h1, r1⟩ := trodAll_cons r0
  obtain ⟨v2, vs2, d2, ds2, p2, q2, rfl, rfl, rfl, h2, r2⟩ := trodAll_cons r1
  obtain ⟨v3, vs3, d3, ds3, p3, q3, rfl, rfl, rfl, h3, r3⟩ := trodAll_cons r2
  obtain ⟨rfl, rfl, rfl⟩ := trodAll_nil r3
  obtain rfl : args = #[v0, v1, v2, v3] := by cases args; simp_all
  obtain ⟨rfl, rfl⟩ := trodVars_none hV
  have k0 := h0
  have lt0 : ∀ x ∈ p0, x.block < W.heap.size := by obtain ⟨m, hm⟩ := k0; exact DataW.trod_lt m _ _ _ hm
  have k1 := h1
  have lt1 : ∀ x ∈ p1, x.block < W.heap.size := by obtain ⟨m, hm⟩ := k1; exact DataW.trod_lt m _ _ _ hm
  have k2 := h2
  have lt2 : ∀ x ∈ p2, x.block < W.heap.size := by obtain ⟨m, hm⟩ := k2; exact DataW.trod_lt m _ _ _ hm
  have k3 := h3
  have lt3 : ∀ x ∈ p3, x.block < W.heap.size := by obtain ⟨m, hm⟩ := k3; exact DataW.trod_lt m _ _ _ hm
  obtain ⟨n0, rfl, rfl, rfl, wn0⟩ := open_int Tryz.underlying5 (hval 0 5 v0 rfl rfl) h0
  obtain ⟨n1, rfl, rfl, rfl, wn1⟩ := open_int Tryz.underlying5 (hval 1 5 v1 rfl rfl) h1
  obtain ⟨n2, rfl, rfl, rfl, wn2⟩ := open_int Tryz.underlying5 (hval 2 5 v2 rfl rfl) h2
  obtain ⟨n3, rfl, rfl, rfl, wn3⟩ := open_int Tryz.underlying5 (hval 3 5 v3 rfl rfl) h3
  have bn0 := bounds_u8 wn0
  have bn1 := bounds_u8 wn1
  have bn2 := bounds_u8 wn2
  have bn3 := bounds_u8 wn3
  clear hA0 hval0
  refine (walk n0 n1 n2 n3 (by omega) (by omega) (by omega) (by omega) W).mono fun e W' ⟨he, hx⟩ => ?_
  subst he
  exact ⟨_, rfl, _, _, _, [], _, [], hW', trodAll_mk1 (shut_bool Tryz.underlying4 _), (trodAll_cons_mk (Below.trod Own.laidOut (by kernel_rfl) (of_decide_eq_true (by kernel_rfl)) k0 hx.below lt0) (trodAll_cons_mk (Below.trod Own.laidOut (by kernel_rfl) (of_decide_eq_true (by kernel_rfl)) k1 hx.below lt1) (trodAll_cons_mk (Below.trod Own.laidOut (by kernel_rfl) (of_decide_eq_true (by kernel_rfl)) k2 hx.below lt2) (trodAll_cons_mk (Below.trod Own.laidOut (by kernel_rfl) (of_decide_eq_true (by kernel_rfl)) k3 hx.below lt3) trodAll_mk0)))), rfl, hx.below.frame _, fun h => by cases h⟩

theorem proved : Rows.KernelSignalsSaid :=
  OpenClaim.holds_of_wide 9 Tryz.f9 rfl rfl rfl rfl rfl rfl rfl ⟨rfl, rfl, rfl, rfl, rfl⟩ rfl rfl rfl rfl rfl (by kernel_rfl) Tryz.func9 (by kernel_rfl)
    (of_decide_eq_true (by kernel_rfl)) (by unfold Func.isWrapper; first | (rw [if_pos (by decide +kernel)]; kernel_rfl) | (rw [if_neg (by decide +kernel)]; exact ⟨rfl, rfl⟩))
    (fun os started H enc _ => lifted os started H enc)

end kernelSignals
end Go.Proofs.YtocicffmajbecaaGreat
