/- What the small tests of package script come to: numbers, actions, arrivals; slices' own ContainsFunc over them. -/
import Derived.Test.YtmpgeabfogcblaaGreatRows
import Derived.Test.YtmpgeabfogcblaaGreatScr
import Derived.Test.YtmpgeabfogcblaaGreatCf0
namespace Go.Proofs.YtmpgeabfogcblaaGreat
open Go.RowKit

set_option maxHeartbeats 400000 in
theorem swithin_any (n b : Int) (w : World) : Calls Tryz.prog 62 #[.int .i64 n, .int .i64 b] w (Yields w (.bool (withB n 0 b))) := by
  by_cases h : 0 ≤ n <;>
  · go_enter Tryz.func62, Tryz.ntmps62
    go_wp2
    go_ret
    exact ⟨by simp [withB]; try omega, (by repeat (first | exact Ext.refl _ | assumption | refine Ext.more ?_ _ | refine Ext.drew ?_ | refine Ext.drewN ?_ _ | refine Ext.alloc ?_ _ | refine Ext.setCell ?_ (by simp; try omega) _ | refine Ext.trans ?_ (by assumption)))⟩
theorem swithin_to {n b : Int} {r : Bool} (e : withB n 0 b = r) (w : World) : Calls Tryz.prog 62 #[.int .i64 n, .int .i64 b] w (Yields w (.bool r)) := e ▸ swithin_any n b w

set_option maxHeartbeats 1000000 in
theorem large_any (w : World) (x : Axn) : Calls Tryz.prog 64 #[.agg #[.int .i64 x.op, .int .i64 x.a, .int .i64 x.b]] w (Yields w (.bool (!axnB x))) := by
  cases h0 : withB x.op 0 1048576
  · have H0 := hid h0
    clear h0
    go_enter Tryz.func64, Tryz.ntmps64
    go_wp2_with (go_at_call 62; (with_reducible refine (swithin_to H0.out _).yields ?_); intro p0)
    go_returns
    exact ⟨by simp [axnB, H0.out], (by repeat (first | exact Ext.refl _ | assumption | refine Ext.more ?_ _ | refine Ext.drew ?_ | refine Ext.drewN ?_ _ | refine Ext.alloc ?_ _ | refine Ext.setCell ?_ (by simp; try omega) _ | refine Ext.trans ?_ (by assumption)))⟩
  have H0 := hid h0
  clear h0
  cases h1 : withB x.a 0 1048576
  · have H1 := hid h1
    clear h1
    go_enter Tryz.func64, Tryz.ntmps64
    go_wp2_with (first | (go_at_call 62; (with_reducible refine (swithin_to H0.out _).yields ?_); intro p0) | (go_at_call 62; (with_reducible refine (swithin_to H1.out _).yields ?_); intro p1))
    go_returns
    exact ⟨by simp [axnB, H1.out], (by repeat (first | exact Ext.refl _ | assumption | refine Ext.more ?_ _ | refine Ext.drew ?_ | refine Ext.drewN ?_ _ | refine Ext.alloc ?_ _ | refine Ext.setCell ?_ (by simp; try omega) _ | refine Ext.trans ?_ (by assumption)))⟩
  have H1 := hid h1
  clear h1
  cases h2 : withB x.b 0 1048576
  all_goals
    have H2 := hid h2
    clear h2
    go_enter Tryz.func64, Tryz.ntmps64
    go_wp2_with (first | (go_at_call 62; (with_reducible refine (swithin_to H0.out _).yields ?_); intro p0) | (go_at_call 62; (with_reducible refine (swithin_to H1.out _).yields ?_); intro p1) | (go_at_call 62; (with_reducible refine (swithin_to H2.out _).yields ?_); intro p2))
    go_returns
    exact ⟨by simp [axnB, H0.out, H1.out, H2.out], (by repeat (first | exact Ext.refl _ | assumption | refine Ext.more ?_ _ | refine Ext.drew ?_ | refine Ext.drewN ?_ _ | refine Ext.alloc ?_ _ | refine Ext.setCell ?_ (by simp; try omega) _ | refine Ext.trans ?_ (by assumption)))⟩
theorem large_to {x : Axn} {r : Bool} (e : axnB x = r) (w : World) : Calls Tryz.prog 64 #[.agg #[.int .i64 x.op, .int .i64 x.a, .int .i64 x.b]] w (Yields w (.bool (!r))) := e ▸ large_any w x

/-- A place, or -1: whether there is one. -/
def Placed (b : Bool) (w : World) (e : Ending) (w' : World) : Prop := ∃ n : Int, e = .returned (.int .i64 n) ∧ (b = true → 0 ≤ n) ∧ (b = false → n < 0) ∧ Ext w w'

set_option maxHeartbeats 1000000 in
theorem indexA_any (w : World) (va : Value) (la : List Axn) (ha : AxnsV w va la) :
    Calls Tryz.prog 93 #[va, .func (.func 64) #[] #[]] w (Placed (la.any (fun x => !axnB x)) w) := by
  obtain ⟨pa, ca, rfl, hca, hma⟩ := ha.shape
  unfold maxLen at hma
  have HA := hid ha
  clear ha
  go_enter Tryz.func93, Tryz.ntmps93
  go_wp2
  go_loopw [8] (fun v8 wr => Ext w wr ∧ ∃ k : Nat, v8 = .int .i64 k ∧ k ≤ la.length ∧ Hid ((la.take k).any (fun x => !axnB x) = false)) (fun v8 _ => (la.length - intOf v8).toNat)
  case atStart => exact ⟨Ext.refl _, 0, rfl, by omega, rfl⟩
  case round =>
    obtain ⟨hx, k, rfl, hk, ht⟩ := hrel
    by_cases hlt : k < la.length
    · obtain ⟨ba, oa, rfl, a0, a1, a2⟩ := HA.out.at k hlt
      have c0 := hx.cell a0
      have c1 := hx.cell a1
      have c2 := hx.cell a2
      have hN := hid (any_take' la (fun x => !axnB x) k hlt)
      have hB := hid (fun (h : axnB la[k] = false) => (List.any_eq_true.2 ⟨la[k], List.getElem_mem hlt, by simp [h]⟩ : la.any (fun x => !axnB x) = true))
      clear a0 a1 a2
      generalize la[k] = x at *
      have i1 : (k : Int) < la.length := by omega
      cases h0 : axnB x
      · have H0 := hid h0
        clear h0
        go_wp2_with (go_at_call 64; (with_reducible refine (large_to H0.out _).yields ?_); intro p0)
        go_returns
        exact ⟨_, rfl, fun _ => by omega, (fun h => by rw [hB.out H0.out] at h; cases h), (by repeat (first | exact Ext.refl _ | assumption | refine Ext.more ?_ _ | refine Ext.drew ?_ | refine Ext.drewN ?_ _ | refine Ext.alloc ?_ _ | refine Ext.setCell ?_ (by simp; try omega) _ | refine Ext.trans ?_ (by assumption)))⟩
      · have H0 := hid h0
        clear h0
        go_wp2_with (go_at_call 64; (with_reducible refine (large_to H0.out _).yields ?_); intro p0)
        go_roundw
        case rel => exact ⟨(by repeat (first | exact Ext.refl _ | assumption | refine Ext.more ?_ _ | refine Ext.drew ?_ | refine Ext.drewN ?_ _ | refine Ext.alloc ?_ _ | refine Ext.setCell ?_ (by simp; try omega) _ | refine Ext.trans ?_ (by assumption))), k + 1, by go_num, by omega, by unfold Hid; rw [hN.out, ht.out]; simp [H0.out]⟩
        case measure => simp [intOf]; omega
    · obtain rfl : k = la.length := by omega
      have he := ht.out
      rw [List.take_length] at he
      have HE := hid he
      clear he
      go_wp2
      go_returns
      exact ⟨_, rfl, (fun h => by rw [HE.out] at h; cases h), fun _ => by omega, hx⟩
set_option maxHeartbeats 1000000 in
theorem largest_any (w : World) (va : Value) (la : List Axn) (ha : AxnsV w va la) :
    Calls Tryz.prog 63 #[va, .func (.func 64) #[] #[]] w (Yields w (.bool (la.any (fun x => !axnB x)))) := by
  have HA := hid ha
  clear ha
  go_enter Tryz.func63, Tryz.ntmps63
  cases hb : la.any (fun x => !axnB x)
  · have HB := hid hb
    clear hb
    go_wp2_with fail
    refine (indexA_any _ _ _ HA.out).mono ?_
    rintro e w1 ⟨n, rfl, -, h2, hx⟩
    have hn := h2 HB.out
    clear h2
    go_wp2_with fail
    go_returns
    exact ⟨by simp; try omega, hx⟩
  · have HB := hid hb
    clear hb
    go_wp2_with fail
    refine (indexA_any _ _ _ HA.out).mono ?_
    rintro e w1 ⟨n, rfl, h1, -, hx⟩
    have hn := h1 HB.out
    clear h1
    go_wp2_with fail
    go_returns
    exact ⟨by simp; try omega, hx⟩
theorem largest_to {la : List Axn} {r : Bool} (e : la.any (fun x => !axnB x) = r) (w : World) (va : Value) (ha : AxnsV w va la) :
    Calls Tryz.prog 63 #[va, .func (.func 64) #[] #[]] w (Yields w (.bool r)) := e ▸ largest_any w va la ha

/-! ### Arrivals -/

/-- As arrB, from the front: whether the first k fit, and the last one's tick. -/
def lastT (l : List Arv) : Int := match l.getLast? with
  | some x => x.tick
  | none => 0
theorem arrB_snoc : ∀ (l : List Arv) (t : Int) (x : Arv), arrB t (l ++ [x]) = (arrB t l && (withB x.tick 0 2000 && withB x.obj 0 3 && decide ((match l.getLast? with | some y => y.tick | none => t) ≤ x.tick)))
  | [], t, x => by rw [List.nil_append, arrB, arrB, arrB, Bool.and_true, Bool.true_and]; rfl
  | y :: l, t, x => by
    rw [List.cons_append, arrB, arrB_snoc l y.tick x, arrB]
    have e : ((y :: l).getLast?) = some (l.getLast?.getD y) := by rw [List.getLast?_cons]
    rw [e]
    simp only []
    cases hl : l.getLast? <;> simp only [Option.getD_none, Option.getD_some, Bool.and_assoc]
theorem arrB_bad : ∀ (l m : List Arv) (t : Int), arrB t l = false → arrB t (l ++ m) = false
  | [], _, _, h => by cases h
  | y :: l, m, t, h => by
    rw [arrB] at h
    rw [List.cons_append, arrB]
    cases hc : (withB y.tick 0 2000 && withB y.obj 0 3 && decide (t ≤ y.tick))
    · simp
    · rw [hc, Bool.true_and] at h
      rw [arrB_bad l m y.tick h, Bool.and_false]
theorem arrB_take {l : List Arv} {k : Nat} (h : k < l.length) (ht : arrB 0 (l.take k) = true) : arrB 0 (l.take (k + 1)) = (withB l[k].tick 0 2000 && withB l[k].obj 0 3 && decide (lastT (l.take k) ≤ l[k].tick)) := by
  rw [List.take_succ_eq_append_getElem h, arrB_snoc, ht, Bool.true_and]; rfl
theorem arrB_take_bad {l : List Arv} {k : Nat} (h : arrB 0 (l.take k) = false) : arrB 0 l = false := by
  rw [← List.take_append_drop k l]; exact arrB_bad _ _ _ h
theorem lastT_snoc {l : List Arv} {k : Nat} (h : k < l.length) : lastT (l.take (k + 1)) = l[k].tick := by
  rw [List.take_succ_eq_append_getElem h, lastT, List.getLast?_concat]

set_option maxRecDepth 100000 in
set_option maxHeartbeats 2000000 in
theorem odd_any (w : World) (va : Value) (la : List Arv) (ha : ArvsV w va la) : Calls Tryz.prog 35 #[va] w (Yields w (.bool (!arrB 0 la))) := by
  obtain ⟨pa, ca, rfl, hca, hma⟩ := ha.shape
  unfold maxLen at hma
  have HA := hid ha
  clear ha
  go_enter Tryz.func35, Tryz.ntmps35
  go_wp2
  go_loopw [3, 8] (fun v3 v8 wr => Ext w wr ∧ ∃ (k : Nat) (t : Int), v3 = .int .i64 t ∧ v8 = .int .i64 k ∧ k ≤ la.length ∧ Hid (t = lastT (la.take k)) ∧ Hid (arrB 0 (la.take k) = true)) (fun _ v8 _ => (la.length - intOf v8).toNat)
  case atStart => exact ⟨Ext.refl _, 0, 0, rfl, rfl, by omega, rfl, rfl⟩
  case round =>
    obtain ⟨hx, k, t, rfl, rfl, hk, hT, ht⟩ := hrel
    by_cases hlt : k < la.length
    · obtain ⟨ba, oa, rfl, a0, a1⟩ := HA.out.at k hlt
      have c0 := hx.cell a0
      have c1 := hx.cell a1
      have hba : ba < wr.heap.size := World.block_lt_of_cell? _ _ c0
      have hS := hid (arrB_take hlt ht.out)
      have hB := hid (arrB_take_bad (l := la) (k := k + 1))
      have hL := hid (lastT_snoc hlt)
      clear a0 a1
      generalize la[k] = x at *
      have i1 : (k : Int) < la.length := by omega
      by_cases hr : x.tick < t
      · have HF : Hid (arrB 0 la = false) := hB.out (by rw [hS.out, ← hT.out, decide_eq_false (by omega), Bool.and_false])
        go_wp2
        go_returns
        exact ⟨by simp [HF.out], (by repeat (first | exact Ext.refl _ | assumption | refine Ext.more ?_ _ | refine Ext.drew ?_ | refine Ext.drewN ?_ _ | refine Ext.alloc ?_ _ | refine Ext.setCell ?_ (by simp; try omega) _ | refine Ext.trans ?_ (by assumption)))⟩
      have hr' : t ≤ x.tick := by omega
      have hrb : decide (x.tick < t) = false := by simpa using hr'
      cases h0 : withB x.tick 0 2000
      · have H0 := hid h0
        clear h0
        have HF : Hid (arrB 0 la = false) := hB.out (by rw [hS.out, H0.out, Bool.false_and, Bool.false_and])
        go_wp2_with (go_at_call 62; (with_reducible refine (swithin_to H0.out _).yields ?_); intro p0)
        go_returns
        exact ⟨by simp [HF.out], (by repeat (first | exact Ext.refl _ | assumption | refine Ext.more ?_ _ | refine Ext.drew ?_ | refine Ext.drewN ?_ _ | refine Ext.alloc ?_ _ | refine Ext.setCell ?_ (by simp; try omega) _ | refine Ext.trans ?_ (by assumption)))⟩
      have H0 := hid h0
      clear h0
      cases h1 : withB x.obj 0 3
      · have H1 := hid h1
        clear h1
        have HF : Hid (arrB 0 la = false) := hB.out (by rw [hS.out, H1.out, Bool.and_false, Bool.false_and])
        go_wp2_with (first | (go_at_call 62; (with_reducible refine (swithin_to H0.out _).yields ?_); intro p0) | (go_at_call 62; (with_reducible refine (swithin_to H1.out _).yields ?_); intro p1))
        go_returns
        exact ⟨by simp [HF.out], (by repeat (first | exact Ext.refl _ | assumption | refine Ext.more ?_ _ | refine Ext.drew ?_ | refine Ext.drewN ?_ _ | refine Ext.alloc ?_ _ | refine Ext.setCell ?_ (by simp; try omega) _ | refine Ext.trans ?_ (by assumption)))⟩
      have H1 := hid h1
      clear h1
      have HG : Hid (arrB 0 (la.take (k + 1)) = true) := by unfold Hid; rw [hS.out, ← hT.out, H0.out, H1.out, decide_eq_true (by omega)]; rfl
      go_wp2_with (first | (go_at_call 62; (with_reducible refine (swithin_to H0.out _).yields ?_); intro p0) | (go_at_call 62; (with_reducible refine (swithin_to H1.out _).yields ?_); intro p1))
      go_roundw
      case rel => exact ⟨(by repeat (first | exact Ext.refl _ | assumption | refine Ext.more ?_ _ | refine Ext.drew ?_ | refine Ext.drewN ?_ _ | refine Ext.alloc ?_ _ | refine Ext.setCell ?_ (by simp; try omega) _ | refine Ext.trans ?_ (by assumption))), k + 1, _, rfl, by go_num, by omega, hL.out.symm, HG.out⟩
      case measure => simp [intOf]; omega
    · obtain rfl : k = la.length := by omega
      have he := ht.out
      rw [List.take_length] at he
      have HE := hid he
      clear he
      go_wp2
      go_returns
      exact ⟨by simp [HE.out], hx⟩
theorem odd_to {la : List Arv} {r : Bool} (e : arrB 0 la = r) (w : World) (va : Value) (ha : ArvsV w va la) : Calls Tryz.prog 35 #[va] w (Yields w (.bool (!r))) := e ▸ odd_any w va la ha

set_option maxHeartbeats 1000000 in
theorem indexO_any (w : World) (va : Value) (la : List (List Arv)) (ha : ArrsV w va la) :
    Calls Tryz.prog 65 #[va, .func (.func 35) #[] #[]] w (Placed (la.any (fun x => !arrB 0 x)) w) := by
  obtain ⟨pa, ca, rfl, hca, hma⟩ := ha.shape
  unfold maxLen at hma
  have HA := hid ha
  clear ha
  go_enter Tryz.func65, Tryz.ntmps65
  go_wp2
  go_loopw [8] (fun v8 wr => Ext w wr ∧ ∃ k : Nat, v8 = .int .i64 k ∧ k ≤ la.length ∧ Hid ((la.take k).any (fun x => !arrB 0 x) = false)) (fun v8 _ => (la.length - intOf v8).toNat)
  case atStart => exact ⟨Ext.refl _, 0, rfl, by omega, rfl⟩
  case round =>
    obtain ⟨hx, k, rfl, hk, ht⟩ := hrel
    by_cases hlt : k < la.length
    · obtain ⟨ba, oa, rfl, va, a0, an⟩ := HA.out.at k hlt
      simp only [Nat.mul_one] at a0
      have c0 := hx.cell a0
      have AN := hid (an.ext hx)
      have hN := hid (any_take' la (fun x => !arrB 0 x) k hlt)
      have hB := hid (fun (h : arrB 0 la[k] = false) => (List.any_eq_true.2 ⟨la[k], List.getElem_mem hlt, by simp [h]⟩ : la.any (fun x => !arrB 0 x) = true))
      clear a0 an
      generalize la[k] = x at *
      have i1 : (k : Int) < la.length := by omega
      cases h0 : arrB 0 x
      · have H0 := hid h0
        clear h0
        go_wp2_with (go_at_call 35; (with_reducible refine (odd_to H0.out _ _ AN.out).yields ?_); intro p0)
        go_returns
        exact ⟨_, rfl, fun _ => by omega, (fun h => by rw [hB.out H0.out] at h; cases h), (by repeat (first | exact Ext.refl _ | assumption | refine Ext.more ?_ _ | refine Ext.drew ?_ | refine Ext.drewN ?_ _ | refine Ext.alloc ?_ _ | refine Ext.setCell ?_ (by simp; try omega) _ | refine Ext.trans ?_ (by assumption)))⟩
      · have H0 := hid h0
        clear h0
        go_wp2_with (go_at_call 35; (with_reducible refine (odd_to H0.out _ _ AN.out).yields ?_); intro p0)
        go_roundw
        case rel => exact ⟨(by repeat (first | exact Ext.refl _ | assumption | refine Ext.more ?_ _ | refine Ext.drew ?_ | refine Ext.drewN ?_ _ | refine Ext.alloc ?_ _ | refine Ext.setCell ?_ (by simp; try omega) _ | refine Ext.trans ?_ (by assumption))), k + 1, by go_num, by omega, by unfold Hid; rw [hN.out, ht.out]; simp [H0.out]⟩
        case measure => simp [intOf]; omega
    · obtain rfl : k = la.length := by omega
      have he := ht.out
      rw [List.take_length] at he
      have HE := hid he
      clear he
      go_wp2
      go_returns
      exact ⟨_, rfl, (fun h => by rw [HE.out] at h; cases h), fun _ => by omega, hx⟩
set_option maxHeartbeats 1000000 in
theorem oddest_any (w : World) (va : Value) (la : List (List Arv)) (ha : ArrsV w va la) :
    Calls Tryz.prog 34 #[va, .func (.func 35) #[] #[]] w (Yields w (.bool (la.any (fun x => !arrB 0 x)))) := by
  have HA := hid ha
  clear ha
  go_enter Tryz.func34, Tryz.ntmps34
  cases hb : la.any (fun x => !arrB 0 x)
  · have HB := hid hb
    clear hb
    go_wp2_with fail
    refine (indexO_any _ _ _ HA.out).mono ?_
    rintro e w1 ⟨n, rfl, -, h2, hx⟩
    have hn := h2 HB.out
    clear h2
    go_wp2_with fail
    go_returns
    exact ⟨by simp; try omega, hx⟩
  · have HB := hid hb
    clear hb
    go_wp2_with fail
    refine (indexO_any _ _ _ HA.out).mono ?_
    rintro e w1 ⟨n, rfl, h1, -, hx⟩
    have hn := h1 HB.out
    clear h1
    go_wp2_with fail
    go_returns
    exact ⟨by simp; try omega, hx⟩
theorem oddest_to {la : List (List Arv)} {r : Bool} (e : la.any (fun x => !arrB 0 x) = r) (w : World) (va : Value) (ha : ArrsV w va la) :
    Calls Tryz.prog 34 #[va, .func (.func 35) #[] #[]] w (Yields w (.bool r)) := e ▸ oddest_any w va la ha
end Go.Proofs.YtmpgeabfogcblaaGreat
