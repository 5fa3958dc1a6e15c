/- KernelQuotas: as many threads, groups as may be, and one more is refused; who goes makes room: the law answers true. No conditions. -/
import Derived.Test.YtocicffmajbecaaGreatPkAll
import Derived.WalkKit
import Derived.WalkSpells
import Derived.WalkLawsBesides
import Derived.Handy
import Derived.Test.YtocicffmajbecaaGreatErr
import Derived.Test.YtocicffmajbecaaGreatOwn2
import Derived.Deep.LoopGhost
import Derived.IntWalk
namespace Go.Proofs.YtocicffmajbecaaGreat
open Go.RowKit
set_option linter.unusedSimpArgs false
namespace Pk
open Kn
theorem thrPos {l : List Nd} (hw : Wf l) {n : Nd} (hn : n ∈ l) (ht : n.thr = true) : 0 < n.id := by
  have h0 := (hw.sk.clo n hn).1
  rcases Int.lt_or_eq_of_le h0 with h | h
  · exact h
  · obtain ⟨r, hr, hr0, hrp, -⟩ := hw.root
    have := par_thr hw hn ht
    rw [uniqU hw.sk.ids hn hr (by omega)] at this
    omega
theorem run_st {th gr : Int} {k : Kd} (hk : KOk th gr k) {n : Int} (h : runK k.l = (n, true)) : 1 ≤ n ∧ n ≤ k.last ∧ stU k.l n = some true := by
  obtain ⟨r, hr, hr0, -, -⟩ := hk.wf.root
  cases hrd : r.rdy with
  | false =>
    have := hk.wf.run_none hr hr0 hrd
    simp [runK, this] at h
  | true =>
    obtain ⟨R, hR, -, t, ht, e1, e2, e3⟩ := hk.wf.run hr hr0 hrd
    have hn : R.1 = n := by
      simp only [runK, hR] at h
      exact congrArg Prod.fst h
    obtain ⟨m, hm, ek⟩ := (run_sim 6 hR).back ht
    obtain ⟨k1, k2, k3, k4, k5⟩ := keyR_eq ek
    have hid : m.id = n := by rw [k1, e1, hn]
    have hp := thrPos hk.wf hm (k3.trans e2)
    have hl := hk.low m hm
    exact ⟨by omega, by omega, (stU_some hk.wf.sk.ids).2 ⟨m, hm, hid, k3.trans e2, k5.trans e3⟩⟩
theorem run_no {l : List Nd} {n : Int} (h : runK l = (n, false)) : n = 0 := by
  unfold runK at h
  cases hR : runU 6 l 0 with
  | none => rw [hR] at h; exact (congrArg Prod.fst h).symm
  | some R => rw [hR] at h; cases h
end Pk
end Go.Proofs.YtocicffmajbecaaGreat

namespace Go.Proofs.YtocicffmajbecaaGreat
open Go.RowKit
set_option maxRecDepth 100000
set_option linter.unusedSimpArgs false
namespace Pk
open Rw (En)
open Kn

def rdN (l : List Nd) (id : Int) : Bool := match getU l id with
  | none => false
  | some n => n.rdy
theorem rdN_of {l : List Nd} {id : Int} {r : Bool} (h : stU l id = some r) : rdN l id = r := by
  unfold stU at h
  unfold rdN
  cases hg : getU l id with
  | none => rw [hg] at h; cases h
  | some n =>
    rw [hg] at h
    cases ht : n.thr <;> simp [ht] at h
    exact h
section
variable {w0 w w' : World} {b : Nat} {th gr : Int} {k : Kd}
set_option maxHeartbeats 4000000 in
theorem readyL_any (h : S w0 b th gr k w) (id : Int) : Calls Tryz.prog 19 #[.pointer (some ⟨b, 0, none⟩), .int .i64 id] w (Yields w (.bool (rdN k.l id))) := by
  have CN := hid (fun w' (e : Ext w w') => k_nodes (h.ext e))
  have hb := h.lt
  have hlen := h.ok.wf.sk.len
  have HI := hid h.ok.wf.sk.ids
  clear h
  generalize k.l = l at *
  go_enter Tryz.func19, Tryz.ntmps19
  go_wp2_with fail
  (with_reducible refine (CN.out _ (by repeat (first | exact Ext.refl _ | assumption | refine Ext.more ?_ _ | refine Ext.drew ?_ | refine Ext.drewN ?_ _ | refine Ext.alloc ?_ _ | refine Ext.setCell ?_ (by simp; try omega) _ | refine Ext.trans ?_ (by assumption)))).mono ?_)
  rintro e w1 ⟨vn, rfl, hx1, hn⟩
  obtain ⟨p, cap, rfl, hc1, hc2⟩ := hn.shape
  have HN := hid hn
  have HX1 := hid hx1
  rw [List.length_map] at hc1
  unfold maxLen at hc2
  clear hn hx1
  rw [List.length_map]
  go_wp2_with fail
  go_loopw [6] (fun s wr => ∃ i : Nat, s = .int .i64 i ∧ i ≤ l.length ∧ Ext w1 wr ∧ Hid (∀ n ∈ l.take i, n.id ≠ id)) (fun s _ => (l.length - (intOf s).toNat))
  case atStart => exact ⟨0, rfl, Nat.zero_le _, Ext.refl _, fun n hn => by simp at hn⟩
  case round =>
    obtain ⟨i, rfl, hi, X, hno⟩ := hrel
    by_cases hlt : i < l.length
    · obtain ⟨g, off, rfl, e0, -, -, -, -, e5⟩ := HN.out.at i (by simpa using hlt)
      rw [List.getElem_map] at e0 e5
      simp only [Nd.nn] at e0 e5
      have f0 := X.cell e0
      have f5 := X.cell e5
      clear e0 e5
      have i1 : (i : Int) < l.length := by omega
      have HM : Hid (l[i] ∈ l) := List.getElem_mem hlt
      have HT : Hid (l.take (i + 1) = l.take i ++ [l[i]]) := List.take_succ_eq_append_getElem hlt
      generalize l[i] = n at *
      by_cases he : n.id = id
      · have j1 : (n.id == id) = true := by simpa using he
        have HR : Hid (rdN l id = n.rdy) := by
          unfold rdN Hid
          rw [← he, getU_of HI.out HM.out]
        clear he
        go_wp2
        go_returns
        exact ⟨by rw [HR.out]; rfl, (HX1.out.trans X).trans (by repeat (first | exact Ext.refl _ | assumption | refine Ext.more ?_ _ | refine Ext.drew ?_ | refine Ext.drewN ?_ _ | refine Ext.alloc ?_ _ | refine Ext.setCell ?_ (by simp; try omega) _ | refine Ext.trans ?_ (by assumption)))⟩
      · have j1 : (n.id == id) = false := by simpa using he
        have HS : Hid (∀ m ∈ l.take (i + 1), m.id ≠ id) := fun m hm => by
          rw [HT.out] at hm
          rcases List.mem_append.1 hm with hm | hm
          · exact hno.out m hm
          · rw [List.mem_singleton.1 hm]; exact he
        clear he
        go_wp2
        go_roundw
        case rel => exact ⟨i + 1, by go_num, by omega, X, HS.out⟩
        case measure => simp [intOf]; omega
    · have HR : Hid (rdN l id = false) := by
        have hn := hno.out
        rw [List.take_of_length_le (by omega)] at hn
        unfold rdN Hid
        rw [getU_none.2 hn]
      go_wp2
      go_returns
      exact ⟨by rw [HR.out]; rfl, HX1.out.trans X⟩
theorem readyL_to (h : S w0 b th gr k w) {id : Int} {r : Bool} (e : rdN k.l id = r) : Calls Tryz.prog 19 #[.pointer (some ⟨b, 0, none⟩), .int .i64 id] w (Yields w (.bool r)) := e ▸ readyL_any h id
end
end Pk
end Go.Proofs.YtocicffmajbecaaGreat

namespace Go.Proofs.YtocicffmajbecaaGreat
open Go.RowKit
set_option maxRecDepth 100000
set_option linter.unusedSimpArgs false
namespace Pk
open Rw (En)
open Kn

def q1 : Kd := runK' k0
def q2 : Kd := spawnK 2 q1 0 2
def q3 : Kd := groupK 1 q2 0 1
def q4 : Kd := sleepK q3 1 9
def q5 : Kd := waitK q4 2 0
def q6 : Kd := signalK q5 0
def q7 : Kd := runK' q6
def q8 : Kd := { q7 with l := wakes q7.l [1], M := Ti.sleepOn 9 q7.M }
theorem shapeOf {w : World} {base T n m : Nat} {v : Value} {xs : List Value} (h : w.ownsRow base T n v m xs) : ∃ p c, v = .slice p m c := by
  rcases h.2 with ⟨rfl, rfl⟩ | ⟨g, cap, cur, rfl, _⟩
  · exact ⟨none, 0, rfl⟩
  · exact ⟨_, cap, rfl⟩
theorem due_one {k : Kd} {tick id u : Int} (h : k.M = [(id, u)]) (hu : u ≤ tick) : Ti.dueIds tick k.M = [id] := by
  unfold Ti.dueIds
  refine Ti.sortI_of ?_ (List.pairwise_singleton _ _)
  unfold Ti.isDue
  rw [h]
  simp [hu]
structure QF : Prop where
  r0 : runK k0.l = (1, true)
  s1 : spawnE 2 q1 0 2 = 0
  l1 : q1.last = 1
  s2 : spawnE 2 q2 0 2 = 14
  l2 : q2.last = 2
  g2 : groupE 1 q2 0 1 = 0
  l3 : q3.last = 3
  y3 : rdyE q3 1 = 0
  l4 : q4.last = 3
  w4 : (waitA q4 2 0).on = false ∧ (waitA q4 2 0).err = 0
  r5 : rootR q5.l = false
  i5 : (Ob.sigR 0 q5.c q5.W).err = 0
  r6 : runK q6.l = (2, true)
  m7 : q7.M = [(1, 9)]
  u8 : stU q8.l 7 = none
  t8 : (tids q8.l).length = 2
  n8 : q8.l.length = 4
theorem qf : QF := by
  constructor
  all_goals first | kernel_rfl | (constructor <;> kernel_rfl) | decide
set_option maxHeartbeats 8000000 in
theorem known_any (w : World) : Calls Tryz.prog 10 #[] w (Yields w (.bool true)) := by
  have F := hid qf
  have hqn := fun w => run_eql_nil_nil' (P := Tryz.prog) w Tryz.underlying29
  have hnn := fun w => run_neq_nil_nil' (P := Tryz.prog) w Tryz.underlying29
  go_enter Tryz.func10, Tryz.ntmps10
  go_wp2_with fail
  (with_reducible refine (k_new w w (Ext.refl w) 2 1).mono ?_)
  rintro e v1 ⟨b, rfl, s1, -⟩
  rw [show max (1 : Int) (min 2 8) = 2 by decide, show max (0 : Int) (min 1 4) = 1 by decide] at s1
  go_wp2_with fail
  (with_reducible refine (k_run (k' := q1) s1 F.out.r0 rfl).mono ?_)
  rintro e v2 ⟨rfl, s2⟩
  clear s1
  go_wp2_with fail
  (with_reducible refine (spawn_ok (p := 0) (wt := 2) (k' := q2) s2 (by rw [F.out.l1]; decide) F.out.s1 (n := 2) (by rw [F.out.l1]; decide) rfl).mono ?_)
  rintro e v3 ⟨rfl, s3⟩
  clear s2
  go_wp2_with fail
  (with_reducible refine (spawn_er (p := 0) (wt := 2) s3 (by rw [F.out.l2]; decide) F.out.s2 (by decide)).mono ?_)
  rintro e v4 ⟨rfl, s4⟩
  clear s3
  go_wp2_with fail
  (with_reducible refine (group_ok (p := 0) (wt := 1) (k' := q3) s4 (by rw [F.out.l2]; decide) F.out.g2 (n := 3) (by rw [F.out.l2]; decide) rfl).mono ?_)
  rintro e v5 ⟨rfl, s5⟩
  clear s4
  go_wp2_with fail
  (with_reducible refine (sleep_ok (id := 1) (u := 9) (k' := q4) s5 (by rw [F.out.l3]; decide) F.out.y3 rfl).mono ?_)
  rintro e v6 ⟨rfl, s6⟩
  clear s5
  go_wp2_with fail
  (with_reducible refine (wait_ok (id := 2) (o := 0) (k' := q5) s6 (by rw [F.out.l4]; decide) F.out.w4.1 F.out.w4.2 rfl).mono ?_)
  rintro e v7 ⟨rfl, s7⟩
  clear s6
  go_wp2_with fail
  (with_reducible refine (k_runnable s7 F.out.r5).mono ?_)
  rintro e v8 ⟨rfl, x8⟩
  have s8 := s7.ext x8
  clear s7 x8
  go_wp2_with fail
  (with_reducible refine (signal_ok (o := 0) (k' := q6) s8 F.out.i5 rfl).mono ?_)
  rintro e v9 ⟨rfl, s9⟩
  clear s8
  go_wp2_with fail
  (with_reducible refine (k_run (k' := q7) s9 F.out.r6 rfl).mono ?_)
  rintro e v10 ⟨rfl, s10⟩
  clear s9
  have hd : Ti.dueIds 9 q7.M = [1] := due_one F.out.m7 (by decide)
  have h8 : wakeK q7 9 = q8 := by
    unfold wakeK
    rw [hd]
    rfl
  go_wp2_with fail
  (with_reducible refine (k_wake (k' := q8) s10 hd h8).mono ?_)
  rintro e v11 ⟨vd, rfl, s11, o11⟩
  clear s10 hd h8
  go_wp2_with fail
  (with_reducible refine (exit_er (id := 7) s11 F.out.u8).mono ?_)
  rintro e v12 ⟨rfl, x12⟩
  have s12 := s11.ext x12
  have o12 := owns_ext o11 x12
  clear s11 o11
  rcases o12.2 with ⟨e, e0⟩ | ⟨g', cap', cur, rfl, e2, e3, e4, e5, e6, e7⟩
  · cases e0
  have c0 : v12.cell? ⟨g', 0, none⟩ = some (.int .i64 1) := by
    have : ([Value.int .i64 1])[0]? = some (.int .i64 1) := rfl
    have e7 : cur.toList.take 1 = [Value.int .i64 1] := e7
    rw [← e7, List.getElem?_take, if_pos (by decide)] at this
    simp only [World.cell?, e3]
    simpa using this
  have hg := (World.ownsRow.lt o12 g' rfl).2
  clear o12 e2 e3 e4 e5 e6 e7
  go_wp2_with (first
    | (go_at_call 18; (with_reducible refine (is_errno_to (r := true) rfl _).yields ?_); intro p1))
  (with_reducible refine (k_threads (s12.ext (by repeat (first | exact Ext.refl _ | assumption | refine Ext.more ?_ _ | refine Ext.drew ?_ | refine Ext.drewN ?_ _ | refine Ext.alloc ?_ _ | refine Ext.setCell ?_ (by simp; try omega) _ | refine Ext.trans ?_ (by assumption))))).mono ?_)
  rintro e v13 ⟨vt, rfl, x13, o13⟩
  obtain ⟨p3, c3, rfl⟩ : ∃ p c, vt = .slice p 2 c := by
    have := shapeOf o13
    rwa [F.out.t8] at this
  have X13 := hid x13
  clear o13 x13
  go_wp2_with fail
  (with_reducible refine (k_nodes ((s12.ext (by repeat (first | exact Ext.refl _ | assumption | refine Ext.more ?_ _ | refine Ext.drew ?_ | refine Ext.drewN ?_ _ | refine Ext.alloc ?_ _ | refine Ext.setCell ?_ (by simp; try omega) _ | refine Ext.trans ?_ (by assumption)))).ext X13.out)).mono ?_)
  rintro e v14 ⟨vn, rfl, x14, o14⟩
  obtain ⟨p4, c4, rfl⟩ : ∃ p c, vn = .slice p 4 c := by
    obtain ⟨p, c, e, -, -⟩ := o14.shape
    rw [List.length_map, F.out.n8] at e
    exact ⟨p, c, e⟩
  have S14 := hid (((s12.ext (by repeat (first | exact Ext.refl _ | assumption | refine Ext.more ?_ _ | refine Ext.drew ?_ | refine Ext.drewN ?_ _ | refine Ext.alloc ?_ _ | refine Ext.setCell ?_ (by simp; try omega) _ | refine Ext.trans ?_ (by assumption)))).ext X13.out).ext x14)
  clear s12 o14 x14 X13
  go_wp2
  go_returns
  exact ⟨rfl, S14.out.xt.trans (by repeat (first | exact Ext.refl _ | assumption | refine Ext.more ?_ _ | refine Ext.drew ?_ | refine Ext.drewN ?_ _ | refine Ext.alloc ?_ _ | refine Ext.setCell ?_ (by simp; try omega) _ | refine Ext.trans ?_ (by assumption)))⟩
end Pk
end Go.Proofs.YtocicffmajbecaaGreat

namespace Go.Proofs.YtocicffmajbecaaGreat
open Go.RowKit
set_option linter.unusedSimpArgs false
namespace Pk
open Rw (En)
open Kn
theorem due_none {M : List En} {tick : Int} (h : ∀ e ∈ M, tick < e.2) : Ti.dueIds tick M = [] := by
  unfold Ti.dueIds
  refine Ti.sortI_of ?_ List.Pairwise.nil
  unfold Ti.isDue
  have : (M.filter fun e => decide (e.2 ≤ tick)) = [] := List.filter_eq_nil_iff.2 fun e he => by
    have := h e he
    simp; omega
  rw [this]
  simp
theorem sig_none {k : Kd} {x : Nat} (hx : x < 4) (hW : k.W x = []) : (Ob.sigR x k.c k.W).err = 0 ∧ signalK k x = { k with c := Ob.upd k.c x (min (k.c x + 1) 255) } := by
  rcases signal_cases k x with ⟨h, -⟩ | ⟨i, hi, e, h1, h2, h3⟩ | ⟨i, id, rest, hi, e, h1, -⟩
  · omega
  · obtain rfl : x = i := by omega
    exact ⟨by rw [h2], h3⟩
  · obtain rfl : x = i := by omega
    rw [hW] at h1; cases h1
theorem sig_one {k : Kd} {x : Nat} {id : Int} {rest : List Int} (hx : x < 4) (hW : k.W x = id :: rest) : (Ob.sigR x k.c k.W).err = 0 ∧ signalK k x = { k with l := rdyL k.l id true, W := Ob.upd k.W x rest } := by
  rcases signal_cases k x with ⟨h, -⟩ | ⟨i, hi, e, h1, h2, h3⟩ | ⟨i, id', rest', hi, e, h1, h2, h3⟩
  · omega
  · obtain rfl : x = i := by omega
    rw [hW] at h1; cases h1
  · obtain rfl : x = i := by omega
    rw [hW] at h1
    injection h1 with e1 e2
    subst e1 e2
    exact ⟨by rw [h2], h3⟩
/-- One who is ready begins to wait. -/
theorem wait_new {th gr : Int} {k : Kd} (hk : KOk th gr k) {id : Int} {x : Nat} (hx : x < 4) (hs : stU k.l id = some true) (hc : k.c x = 0) : (waitA k id x).on = false ∧ (waitA k id x).err = 0 ∧ waitK k id x = { k with l := rdyL k.l id false, W := Ob.upd k.W x (k.W x ++ [id]) } := by
  rcases wait_cases hk id x with ⟨e, h0, h1, h2, h3, -⟩ | ⟨i, hi, e, -, h1, -⟩ | ⟨i, hi, e, -, h1, h2, h3⟩
  · exfalso
    have h10 : e = 10 := h1.resolve_left fun e13 => (h2.1 e13) hs
    subst h10
    unfold waitA at h3
    rw [if_pos (rdyE_zero.2 hs)] at h3
    unfold Ob.waitR at h3
    rw [if_neg (by omega)] at h3
    split at h3
    · cases h3
    · split at h3 <;> cases h3
  · obtain rfl : x = i := by omega
    omega
  · obtain rfl : x = i := by omega
    exact ⟨by rw [h2], by rw [h2], h3⟩
/-- One who is ready goes on. -/
theorem wait_go {th gr : Int} {k : Kd} (hk : KOk th gr k) {id : Int} {x : Nat} (hx : x < 4) (hs : stU k.l id = some true) (hc : 0 < k.c x) : (waitA k id x).on = true ∧ (waitA k id x).err = 0 ∧ waitK k id x = { k with c := Ob.upd k.c x (k.c x - 1) } := by
  rcases wait_cases hk id x with ⟨e, h0, h1, h2, h3, -⟩ | ⟨i, hi, e, -, h1, h2, h3⟩ | ⟨i, hi, e, -, h1, -⟩
  · exfalso
    have h10 : e = 10 := h1.resolve_left fun e13 => (h2.1 e13) hs
    subst h10
    unfold waitA at h3
    rw [if_pos (rdyE_zero.2 hs)] at h3
    unfold Ob.waitR at h3
    rw [if_neg (by omega)] at h3
    split at h3
    · cases h3
    · split at h3 <;> cases h3
  · obtain rfl : x = i := by omega
    exact ⟨by rw [h2], by rw [h2], h3⟩
  · obtain rfl : x = i := by omega
    omega
theorem rdyE_13 {k : Kd} {id : Int} (h : stU k.l id ≠ some true) : rdyE k id = 13 := by
  unfold rdyE
  rw [if_neg h]
theorem exit_zero {k : Kd} {id : Int} {r : Bool} (h : stU k.l id = some r) : exitE k id = 0 ∧ exitK k id = { k with l := remL k.l id, M := Ti.others id k.M, W := Ob.others id k.W } := by
  have e1 : exitE k id = 0 := by unfold exitE; rw [if_neg (by rw [h]; simp)]
  exact ⟨e1, by unfold exitK; rw [if_pos e1]⟩
end Pk
end Go.Proofs.YtocicffmajbecaaGreat

namespace Go.Proofs.YtocicffmajbecaaGreat
open Go.ChangeShapes Go.WideShapes Go.ChangeAt Go.RowKit Go.Joins Go.Deep
set_option linter.unusedSimpArgs false
set_option maxRecDepth 100000

namespace kernelQuotas
open Pk Kn
section
variable {th gr : Int} {k : Kd}
theorem grp0 (hw : Wf k.l) : grpU k.l 0 = true := by
  obtain ⟨r, hr, h0, -, ht⟩ := hw.root
  unfold grpU
  rw [← h0, getU_of hw.sk.ids hr]
  simp [ht]
theorem dn0 (hw : Wf k.l) : dnU 6 k.l 0 = 1 := dnU_of hw.sk.ids 6 1 0 hw.up0 (by decide)
theorem spawnE0 (hk : KOk th gr k) : spawnE th k 0 1 = if th ≤ cntT k.l then 14 else 0 := by
  unfold spawnE
  rw [if_neg (by decide), if_neg (by rw [grp0 hk.wf]; decide)]
theorem groupE0 (hk : KOk th gr k) : groupE gr k 0 1 = if gr ≤ cntG k.l then 14 else 0 := by
  unfold groupE
  rw [if_neg (by decide), if_neg (by rw [grp0 hk.wf]; decide), dn0 hk.wf]
  rfl
theorem spawn_cnt (hk : KOk th gr k) {p wt : Int} (h : spawnE th k p wt = 0) : cntT (spawnK th k p wt).l = cntT k.l + 1 ∧ cntG (spawnK th k p wt).l = cntG k.l ∧ (spawnK th k p wt).last = k.last + 1 := by
  have hl1 := hk.l1
  have hz := addK_zero (k := k) (q := th - cntT k.l) (p := p) (wt := wt) (t := true) (by rw [addE_spawn hk]; exact h)
  obtain ⟨q1, q2, -⟩ := cnt_add (l := k.l) (by omega) hz
  unfold spawnK
  rw [if_pos h]
  refine ⟨?_, ?_, rfl⟩
  · show cntT (rdyL (addL k.l p (k.last + 1) wt true) (k.last + 1) true) = _
    rw [(cnt_same (kd_rdy _ _ _)).1, q1]; rfl
  · show cntG (rdyL (addL k.l p (k.last + 1) wt true) (k.last + 1) true) = _
    rw [(cnt_same (kd_rdy _ _ _)).2, q2]; rfl
theorem group_cnt (hk : KOk th gr k) {p wt : Int} (h : groupE gr k p wt = 0) : cntT (groupK gr k p wt).l = cntT k.l ∧ cntG (groupK gr k p wt).l = cntG k.l + 1 ∧ (groupK gr k p wt).last = k.last + 1 := by
  have hl1 := hk.l1
  have hz := addK_zero (k := k) (q := gr - cntG k.l) (p := p) (wt := wt) (t := false) (by rw [addE_group hk]; exact h)
  obtain ⟨q1, q2, -⟩ := cnt_add (l := k.l) (by omega) hz
  unfold groupK
  rw [if_pos h]
  exact ⟨by show cntT (addL k.l p (k.last + 1) wt false) = _; rw [q1]; rfl, by show cntG (addL k.l p (k.last + 1) wt false) = _; rw [q2]; rfl, rfl⟩
theorem tids_cnt (l : List Nd) : (tids l).length = cntT l := by
  unfold tids cntT
  rw [List.length_map, List.countP_map, List.countP_eq_length_filter]
  rfl
theorem tids_st (hk : KOk th gr k) {i : Int} (h : i ∈ tids k.l) : ∃ r, stU k.l i = some r := by
  unfold tids at h
  obtain ⟨n, hn, rfl⟩ := List.mem_map.1 h
  obtain ⟨h1, h2⟩ := List.mem_filter.1 hn
  exact ⟨n.rdy, (stU_some hk.wf.sk.ids).2 ⟨n, h1, rfl, h2, rfl⟩⟩
end
/-- So many were asked for. -/
def Inv (w0 : World) (b tt gg i j : Nat) (wr : World) : Prop := ∃ k, S w0 b tt gg k wr ∧ cntT k.l = min i tt ∧ cntG k.l = min j gg ∧ k.last ≤ i + j
section
variable {w0 w : World} {b tt gg i j : Nat}
theorem Inv.ext {w' : World} (h : Inv w0 b tt gg i j w) (e : Ext w w') : Inv w0 b tt gg i j w' := by
  obtain ⟨k, h1, h2⟩ := h
  exact ⟨k, h1.ext e, h2⟩
theorem Inv.lt (h : Inv w0 b tt gg i j w) : b < w.heap.size := by
  obtain ⟨k, h1, -⟩ := h
  exact h1.lt
theorem spawn (h : Inv w0 b tt gg i j w) (hi : i ≤ 100) (hj : j ≤ 100) (hT : tt ≤ 8) :
    Calls Tryz.prog 12 #[.pointer (some ⟨b, 0, none⟩), .int .i64 0, .int .i64 1] w fun e w' => (∃ n, e = .returned (.tuple #[.int .i64 n, errV (if i < tt then 0 else 14)])) ∧ Inv w0 b tt gg (i + 1) j w' := by
  obtain ⟨k, h1, h2, h3, h4⟩ := h
  have he := spawnE0 h1.ok
  by_cases hlt : i < tt
  · rw [if_neg (by omega)] at he
    obtain ⟨c1, c2, c3⟩ := spawn_cnt h1.ok he
    refine (k_spawn h1 (by omega) rfl he rfl).mono fun e w' ⟨q, s⟩ => ⟨⟨_, by rw [if_pos hlt]; exact q⟩, _, s, by omega, by omega, by omega⟩
  · rw [if_pos (by omega)] at he
    have e3 : spawnK tt k 0 1 = k := by unfold spawnK; rw [he, if_neg (by decide)]
    refine (k_spawn h1 (by omega) rfl he e3).mono fun e w' ⟨q, s⟩ => ⟨⟨_, by rw [if_neg hlt]; exact q⟩, _, s, by omega, by omega, by omega⟩
theorem group (h : Inv w0 b tt gg i j w) (hi : i ≤ 100) (hj : j ≤ 100) :
    Calls Tryz.prog 13 #[.pointer (some ⟨b, 0, none⟩), .int .i64 0, .int .i64 1] w fun e w' => (∃ n, e = .returned (.tuple #[.int .i64 n, errV (if j < gg then 0 else 14)])) ∧ Inv w0 b tt gg i (j + 1) w' := by
  obtain ⟨k, h1, h2, h3, h4⟩ := h
  have he := groupE0 h1.ok
  by_cases hlt : j < gg
  · rw [if_neg (by omega)] at he
    obtain ⟨c1, c2, c3⟩ := group_cnt h1.ok he
    refine (k_group h1 (by omega) rfl he rfl).mono fun e w' ⟨q, s⟩ => ⟨⟨_, by rw [if_pos hlt]; exact q⟩, _, s, by omega, by omega, by omega⟩
  · rw [if_pos (by omega)] at he
    have e3 : groupK gg k 0 1 = k := by unfold groupK; rw [he, if_neg (by decide)]
    refine (k_group h1 (by omega) rfl he e3).mono fun e w' ⟨q, s⟩ => ⟨⟨_, by rw [if_neg hlt]; exact q⟩, _, s, by omega, by omega, by omega⟩
/-- The threads; each of them may go. -/
def Told (w0 : World) (b tt gg : Nat) (L : List Int) (wr : World) : Prop := ∃ k, S w0 b tt gg k wr ∧ L = tids k.l ∧ cntT k.l = tt ∧ cntG k.l = gg ∧ k.last ≤ 100
theorem Told.ext {w' : World} {L : List Int} (h : Told w0 b tt gg L w) (e : Ext w w') : Told w0 b tt gg L w' := by
  obtain ⟨k, h1, h2⟩ := h
  exact ⟨k, h1.ext e, h2⟩
theorem threads (h : Inv w0 b tt gg 10 6 w) (hT : tt ≤ 8) (hG : gg ≤ 4) :
    Calls Tryz.prog 22 #[.pointer (some ⟨b, 0, none⟩)] w fun e w' => ∃ vd L, e = .returned vd ∧ Ext w w' ∧ L.length = tt ∧ w'.ownsRow w.heap.size 3 1 vd L.length (L.map fun k => .int .i64 k) ∧ Told w0 b tt gg L w' := by
  obtain ⟨k, h1, h2, h3, h4⟩ := h
  refine (k_threads h1).mono fun e w' ⟨vd, q, x, o⟩ => ⟨vd, tids k.l, q, x, by rw [tids_cnt]; omega, o, k, h1.ext x, rfl, by omega, by omega, by omega⟩
theorem exit {L : List Int} {m : Nat} {id : Int} (h : Told w0 b tt gg L w) (hm : L[m]? = some id) :
    Calls Tryz.prog 14 #[.pointer (some ⟨b, 0, none⟩), .int .i64 id] w fun e w' => e = .returned .nilIface ∧ ∃ k, S w0 b tt gg k w' ∧ cntT k.l + 1 = tt ∧ cntG k.l = gg ∧ k.last ≤ 100 := by
  obtain ⟨k, h1, rfl, h3, h4, h5⟩ := h
  obtain ⟨r, hr⟩ := tids_st h1.ok (List.mem_of_getElem? hm)
  obtain ⟨c1, c2, -⟩ := cnt_rem h1.ok.wf hr
  obtain ⟨e1, e2⟩ := exit_zero hr
  refine (exit_ok h1 (by omega) e1 rfl).mono fun e w' ⟨q, s⟩ => ⟨q, _, s, ?_, ?_, ?_⟩
  all_goals rw [e2]
  · show cntT (remL k.l id) + 1 = tt
    omega
  · show cntG (remL k.l id) = gg
    omega
  · exact h5
end
set_option maxHeartbeats 8000000 in
theorem walk (T G n : Int) (hn0 : 0 ≤ n) (hn1 : n < 256) (w0 : World) :
    Calls Tryz.prog 5 #[.int .i64 T, .int .i64 G, .int .u8 n] w0 (Yields w0 (.bool true)) := by
  have hqn := fun w => run_eql_nil_nil' (P := Tryz.prog) w Tryz.underlying29
  have hnn := fun w => run_neq_nil_nil' (P := Tryz.prog) w Tryz.underlying29
  have hqi := fun x w => run_eql_iface_nil (P := Tryz.prog) w 40 x Tryz.underlying29
  have hni := fun x w => run_neq_iface_nil (P := Tryz.prog) w 40 x Tryz.underlying29
  obtain ⟨tt, hT⟩ : ∃ tt : Nat, max 1 (min T 8) = tt := ⟨(max 1 (min T 8)).toNat, by omega⟩
  obtain ⟨gg, hG⟩ : ∃ gg : Nat, max 0 (min G 4) = gg := ⟨(max 0 (min G 4)).toNat, by omega⟩
  have HT := hid (show 1 ≤ tt ∧ tt ≤ 8 by omega)
  have HG := hid (show gg ≤ 4 by omega)
  have HTE := hid hT
  have HGE := hid hG
  clear hT hG
  go_enter Tryz.func5, Tryz.ntmps5
  go_wp2_with (first
    | (go_at_call 10; (with_reducible refine (known_any _).yields ?_); intro p0)
    | (go_at_call 11; (with_reducible refine (k_new w0 _ (by repeat (first | exact Ext.refl _ | assumption | refine Ext.more ?_ _ | refine Ext.drew ?_ | refine Ext.drewN ?_ _ | refine Ext.alloc ?_ _ | refine Ext.setCell ?_ (by simp; try omega) _ | refine Ext.trans ?_ (by assumption))) T G).mono ?_); rintro e v1 ⟨b, rfl, s1, x1⟩; rw [HTE.out, HGE.out] at s1; have I0 : Hid (Inv w0 b tt gg 1 0 v1) := ⟨k0, s1, by have := HT.out; show 1 = min 1 tt; omega, by show 0 = min 0 gg; omega, by decide⟩; clear s1 x1))
  rw [HTE.out, HGE.out]
  go_loopw [10] (fun v wr => ∃ i : Nat, v = .int .i64 i ∧ 1 ≤ i ∧ i ≤ 10 ∧ Hid (Inv w0 b tt gg i 0 wr)) (fun v _ => (10 - (intOf v).toNat))
  case atStart => exact ⟨1, rfl, Nat.le_refl _, by decide, I0.out⟩
  case round =>
    obtain ⟨i, rfl, hi1, hi, I⟩ := hrel
    by_cases hlt : i < 10
    · have i1 : (i : Int) < 10 := by omega
      have CS := hid (fun w' (e : Ext wr w') => spawn (I.out.ext e) (by omega) (by omega) HT.out.2)
      have hbl := I.out.lt
      by_cases ht : i < tt
      · have j1 : (i : Int) < tt := by omega
        have CS := hid (fun w' e => CS.out w' e)
        simp only [ht, if_true, errV_0] at CS
        go_wp2_with (go_at_call 12; (with_reducible refine (CS.out _ (by repeat (first | exact Ext.refl _ | assumption | refine Ext.more ?_ _ | refine Ext.drew ?_ | refine Ext.drewN ?_ _ | refine Ext.alloc ?_ _ | refine Ext.setCell ?_ (by simp; try omega) _ | refine Ext.trans ?_ (by assumption)))).mono ?_); rintro e v2 ⟨⟨m, rfl⟩, i2⟩; have I2 := hid i2; clear i2)
        go_roundw
        case rel => exact ⟨i + 1, by go_num, by omega, by omega, I2.out.ext (by repeat (first | exact Ext.refl _ | assumption | refine Ext.more ?_ _ | refine Ext.drew ?_ | refine Ext.drewN ?_ _ | refine Ext.alloc ?_ _ | refine Ext.setCell ?_ (by simp; try omega) _ | refine Ext.trans ?_ (by assumption)))⟩
        case measure => simp [intOf]; omega
      · have j1 : decide ((i : Int) < tt) = false := by rw [decide_eq_false_iff_not]; omega
        have CS := hid (fun w' e => CS.out w' e)
        simp only [ht, if_false] at CS
        rw [errV_pos (by decide)] at CS
        go_wp2_with (first
          | (go_at_call 12; (with_reducible refine (CS.out _ (by repeat (first | exact Ext.refl _ | assumption | refine Ext.more ?_ _ | refine Ext.drew ?_ | refine Ext.drewN ?_ _ | refine Ext.alloc ?_ _ | refine Ext.setCell ?_ (by simp; try omega) _ | refine Ext.trans ?_ (by assumption)))).mono ?_); rintro e v2 ⟨⟨m, rfl⟩, i2⟩; have I2 := hid i2; clear i2)
          | (go_at_call 18; (with_reducible refine (is_errno_to (r := true) rfl _).yields ?_); intro p1))
        go_roundw
        case rel => exact ⟨i + 1, by go_num, by omega, by omega, I2.out.ext (by repeat (first | exact Ext.refl _ | assumption | refine Ext.more ?_ _ | refine Ext.drew ?_ | refine Ext.drewN ?_ _ | refine Ext.alloc ?_ _ | refine Ext.setCell ?_ (by simp; try omega) _ | refine Ext.trans ?_ (by assumption)))⟩
        case measure => simp [intOf]; omega
    · obtain rfl : i = 10 := by omega
      go_wp2
      have I1 := I
      clear I
      rw [show ((10 : Nat) : Int) = 10 from rfl]
      go_loopw [13] (fun v wr => ∃ j : Nat, v = .int .i64 j ∧ j ≤ 6 ∧ Hid (Inv w0 b tt gg 10 j wr)) (fun v _ => (6 - (intOf v).toNat))
      case atStart => exact ⟨0, rfl, by decide, I1.out⟩
      case round =>
        obtain ⟨j, rfl, hj, I⟩ := hrel
        by_cases hlt : j < 6
        · have i1 : (j : Int) < 6 := by omega
          have CS := hid (fun w' (e : Ext wr w') => group (I.out.ext e) (by omega) (by omega))
          have hbl := I.out.lt
          by_cases ht : j < gg
          · have j1 : (j : Int) < gg := by omega
            have CS := hid (fun w' e => CS.out w' e)
            simp only [ht, if_true, errV_0] at CS
            go_wp2_with (go_at_call 13; (with_reducible refine (CS.out _ (by repeat (first | exact Ext.refl _ | assumption | refine Ext.more ?_ _ | refine Ext.drew ?_ | refine Ext.drewN ?_ _ | refine Ext.alloc ?_ _ | refine Ext.setCell ?_ (by simp; try omega) _ | refine Ext.trans ?_ (by assumption)))).mono ?_); rintro e v2 ⟨⟨m, rfl⟩, i2⟩; have I2 := hid i2; clear i2)
            go_roundw
            case rel => exact ⟨j + 1, by go_num, by omega, I2.out.ext (by repeat (first | exact Ext.refl _ | assumption | refine Ext.more ?_ _ | refine Ext.drew ?_ | refine Ext.drewN ?_ _ | refine Ext.alloc ?_ _ | refine Ext.setCell ?_ (by simp; try omega) _ | refine Ext.trans ?_ (by assumption)))⟩
            case measure => simp [intOf]; omega
          · have j1 : decide ((j : Int) < gg) = false := by rw [decide_eq_false_iff_not]; omega
            have CS := hid (fun w' e => CS.out w' e)
            simp only [ht, if_false] at CS
            rw [errV_pos (by decide)] at CS
            go_wp2_with (first
              | (go_at_call 13; (with_reducible refine (CS.out _ (by repeat (first | exact Ext.refl _ | assumption | refine Ext.more ?_ _ | refine Ext.drew ?_ | refine Ext.drewN ?_ _ | refine Ext.alloc ?_ _ | refine Ext.setCell ?_ (by simp; try omega) _ | refine Ext.trans ?_ (by assumption)))).mono ?_); rintro e v2 ⟨⟨m, rfl⟩, i2⟩; have I2 := hid i2; clear i2)
              | (go_at_call 18; (with_reducible refine (is_errno_to (r := true) rfl _).yields ?_); intro p1))
            go_roundw
            case rel => exact ⟨j + 1, by go_num, by omega, I2.out.ext (by repeat (first | exact Ext.refl _ | assumption | refine Ext.more ?_ _ | refine Ext.drew ?_ | refine Ext.drewN ?_ _ | refine Ext.alloc ?_ _ | refine Ext.setCell ?_ (by simp; try omega) _ | refine Ext.trans ?_ (by assumption)))⟩
            case measure => simp [intOf]; omega
        · obtain rfl : j = 6 := by omega
          rw [show ((6 : Nat) : Int) = 6 from rfl]
          have hbl := I.out.lt
          have CT := hid (fun w' (e : Ext wr w') => threads (I.out.ext e) HT.out.2 HG.out)
          have t0 : (0 : Int) < tt := by have := HT.out; omega
          obtain ⟨m, hm⟩ : ∃ m : Nat, n % (tt : Int) = m := ⟨(n % (tt : Int)).toNat, by have := Int.emod_nonneg n (show (tt : Int) ≠ 0 by omega); omega⟩
          have hmt : m < tt := by have := Int.emod_lt_of_pos n t0; omega
          have m1 : (m : Int) < tt := by omega
          have HM := hid hmt
          have tne : ((tt : Int) == 0) = false := by rw [beq_eq_false_iff_ne]; omega
          have tnn : ¬ (tt : Int) = 0 := by omega
          clear hmt I
          go_wp2_with fail
          (with_reducible refine (CT.out _ (by repeat (first | exact Ext.refl _ | assumption | refine Ext.more ?_ _ | refine Ext.drew ?_ | refine Ext.drewN ?_ _ | refine Ext.alloc ?_ _ | refine Ext.setCell ?_ (by simp; try omega) _ | refine Ext.trans ?_ (by assumption)))).mono ?_)
          rintro e v3 ⟨vd, L, rfl, x3, hL, o3, i3⟩
          obtain ⟨id, hid'⟩ : ∃ id, L[m]? = some id := ⟨_, List.getElem?_eq_getElem (by rw [hL]; exact HM.out)⟩
          rcases o3.2 with ⟨e, e0⟩ | ⟨g', cap', cur, rfl, e2, e3, e4, e5, e6, e7⟩
          · exfalso
            have := HT.out
            omega
          have c0 : v3.cell? ⟨g', m, none⟩ = some (.int .i64 id) := by
            have : (L.map fun k => Value.int .i64 k)[m]? = some (.int .i64 id) := by rw [List.getElem?_map, hid']; rfl
            rw [← e7, List.getElem?_take, if_pos (by have := HM.out; omega)] at this
            simp only [World.cell?, e3]
            simpa using this
          have hgl := (World.ownsRow.lt o3 g' rfl).2
          rw [hL]
          have HL := hid hid'
          have I3 := hid i3
          have CE := hid (fun w' (e : Ext v3 w') => exit (I3.out.ext e) HL.out)
          clear o3 e2 e3 e4 e5 e6 e7 hid' i3 hL
          go_wp2_with (go_at_call 14; (with_reducible refine (CE.out _ (by repeat (first | exact Ext.refl _ | assumption | refine Ext.more ?_ _ | refine Ext.drew ?_ | refine Ext.drewN ?_ _ | refine Ext.alloc ?_ _ | refine Ext.setCell ?_ (by simp; try omega) _ | refine Ext.trans ?_ (by assumption)))).mono ?_); rintro e v4 ⟨rfl, k, s4, q1, q2, q3⟩)
          have he := spawnE0 s4.ok
          rw [if_neg (by omega)] at he
          obtain ⟨a1, a2, a3⟩ := spawn_cnt s4.ok he
          have hl4 : k.last ≤ 1000000 := by omega
          (with_reducible refine (spawn_ok s4 hl4 he rfl rfl).mono ?_)
          rintro e v5 ⟨rfl, s5⟩
          have he5 := spawnE0 s5.ok
          rw [if_pos (by omega)] at he5
          have hl5 : (spawnK tt k 0 1).last ≤ 1000000 := by omega
          clear s4 he
          generalize spawnK tt k 0 1 = k5 at *
          clear a1 a2 a3 q1 q2 q3
          generalize k.last + 1 = nn at *
          go_wp2_with fail
          (with_reducible refine (spawn_er s5 hl5 he5 (by decide)).mono ?_)
          rintro e v6 ⟨rfl, s6⟩
          have S6 := hid s6
          clear s5 s6 he5
          go_wp2_with (go_at_call 18; (with_reducible refine (is_errno_to (r := true) rfl _).yields ?_); intro p1)
          go_returns
          exact ⟨rfl, S6.out.xt.trans (by repeat (first | exact Ext.refl _ | assumption | refine Ext.more ?_ _ | refine Ext.drew ?_ | refine Ext.drewN ?_ _ | refine Ext.alloc ?_ _ | refine Ext.setCell ?_ (by simp; try omega) _ | refine Ext.trans ?_ (by assumption)))⟩
set_option linter.unusedVariables false in
set_option maxRecDepth 100000 in
theorem lifted (os : Os) (started : os.Started) (H : Type) (enc : TypeId × Value → H) :
    ReturnsInHanded {} Tryz.checked os 5 .any (Rows.kernelQuotasSpec.pre6 enc Tryz.prog Tryz.f5 Rows.kernelQuotasRow.domain false) (Rows.kernelQuotasSpec.post enc Tryz.prog Tryz.f5 false true false false) := by
  refine returnsInHanded_of_change (C := Tryz.checked) Own.own started (by kernel_rfl) Tryz.func5
    (ChangeSpec.witness6 (enc := enc) (C := Tryz.checked) false ⟨#[], #[.int .i64 0, .int .i64 0, .int .u8 0], []⟩ 8 (by kernel_rfl) (by kernel_rfl) (by kernel_rfl) (by kernel_rfl)) ?_
  intro W base args ds gs before hval0 hW hcnd _
  have hval : ∀ (j : Nat) t v, Tryz.f5.params[j]? = some t → args[j]? = some v → Value.okWide Tryz.prog W .any base t v := hval0
  have hW' := hW
  obtain ⟨p, q, hA0, hV, rfl, hfz, hnd⟩ := hW
  have hA : DataW.TrodAll enc Tryz.prog W 0 (fun _ => true) true Tryz.f5.params.toList args.toList ds p := hA0
  rw [Tryz.params5] at hA hval
  obtain ⟨v0, vs0, d0, ds0, p0, q0, hargs, rfl, rfl, h0, r0⟩ := trodAll_cons hA
  obtain ⟨v1, vs1, d1, ds1, p1, q1, rfl, rfl, rfl, h1, r1⟩ := trodAll_cons r0
  obtain ⟨v2, vs2, d2, ds2, p2, q2, rfl, rfl, rfl, h2, r2⟩ := trodAll_cons r1
  obtain ⟨rfl, rfl, rfl⟩ := trodAll_nil r2
  obtain rfl : args = #[v0, v1, v2] := by cases args; simp_all
  obtain ⟨rfl, rfl⟩ := trodVars_none hV
  have k0 := h0
  have lt0 : ∀ x ∈ p0, x.block < W.heap.size := by obtain ⟨m, hm⟩ := k0; exact DataW.trod_lt m _ _ _ hm
  have k1 := h1
  have lt1 : ∀ x ∈ p1, x.block < W.heap.size := by obtain ⟨m, hm⟩ := k1; exact DataW.trod_lt m _ _ _ hm
  have k2 := h2
  have lt2 : ∀ x ∈ p2, x.block < W.heap.size := by obtain ⟨m, hm⟩ := k2; exact DataW.trod_lt m _ _ _ hm
  obtain ⟨n0, rfl, rfl, rfl, wn0⟩ := open_int Tryz.underlying3 (hval 0 3 v0 rfl rfl) h0
  obtain ⟨n1, rfl, rfl, rfl, wn1⟩ := open_int Tryz.underlying3 (hval 1 3 v1 rfl rfl) h1
  obtain ⟨n2, rfl, rfl, rfl, wn2⟩ := open_int Tryz.underlying5 (hval 2 5 v2 rfl rfl) h2
  have bn2 := bounds_u8 wn2
  clear hA0 hval0
  refine (walk n0 n1 n2 (by omega) (by omega) W).mono fun e W' ⟨he, hx⟩ => ?_
  subst he
  exact ⟨_, rfl, _, _, _, [], _, [], hW', trodAll_mk1 (shut_bool Tryz.underlying4 _), (trodAll_cons_mk (Below.trod Own.laidOut (by kernel_rfl) (of_decide_eq_true (by kernel_rfl)) k0 hx.below lt0) (trodAll_cons_mk (Below.trod Own.laidOut (by kernel_rfl) (of_decide_eq_true (by kernel_rfl)) k1 hx.below lt1) (trodAll_cons_mk (Below.trod Own.laidOut (by kernel_rfl) (of_decide_eq_true (by kernel_rfl)) k2 hx.below lt2) trodAll_mk0))), rfl, hx.below.frame _, fun h => by cases h⟩

theorem proved : Rows.KernelQuotasSaid :=
  OpenClaim.holds_of_wide 5 Tryz.f5 rfl rfl rfl rfl rfl rfl rfl ⟨rfl, rfl, rfl, rfl, rfl⟩ rfl rfl rfl rfl rfl (by kernel_rfl) Tryz.func5 (by kernel_rfl)
    (of_decide_eq_true (by kernel_rfl)) (by unfold Func.isWrapper; first | (rw [if_pos (by decide +kernel)]; kernel_rfl) | (rw [if_neg (by decide +kernel)]; exact ⟨rfl, rfl⟩))
    (fun os started H enc _ => lifted os started H enc)

end kernelQuotas
end Go.Proofs.YtocicffmajbecaaGreat
