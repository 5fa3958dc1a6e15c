/- What script.Is comes to. -/
import Derived.Test.YtmpgeabfogcblaaGreatSc0
import Derived.Test.YtmpgeabfogcblaaGreatCf3
import Derived.Test.YtmpgeabfogcblaaGreatErrV
namespace Go.Proofs.YtmpgeabfogcblaaGreat
open Go.RowKit

theorem any_not_all {α : Type} (f : α → Bool) : ∀ l : List α, l.any (fun x => !f x) = !l.all f
  | [] => rfl
  | x :: l => by simp only [List.any_cons, List.all_cons, any_not_all f l]; cases f x <;> simp
theorem streamB_eq (l : List Axn) : streamB l = (decide (l.length ≤ 400) && !l.any (fun x => !axnB x)) := by
  rw [any_not_all, Bool.not_not, streamB, Bool.and_comm]

set_option maxRecDepth 100000 in
set_option maxHeartbeats 4000000 in
theorem fits_any (w : World) (s : Scr) (pv dv sv av : Value) (hc : ScrV w s pv dv sv av) :
    Calls Tryz.prog 33 #[scrV s pv dv sv av] w (Yields w (.bool (largeB s))) := by
  obtain ⟨pp, cp, rfl, -, -⟩ := hc.conf.plans.shape
  obtain ⟨pd, cd, rfl, hd1, hd2⟩ := hc.conf.doms.shape
  obtain ⟨ps, cs, rfl, hs1, hs2⟩ := hc.streams.shape
  obtain ⟨pa, ca, rfl, ha1, ha2⟩ := hc.arrivals.shape
  unfold maxLen at hd2 hs2 ha2
  have HC := hid hc
  clear hc
  cases h0 : withB s.horizon 0 2000
  · have H0 := hid h0
    clear h0
    go_enter Tryz.func33, Tryz.ntmps33
    go_wp2_with (go_at_call 62; (with_reducible refine (swithin_to H0.out _).yields ?_); intro p0)
    go_returns
    exact ⟨by simp [largeB, H0.out], (by repeat (first | exact Ext.refl _ | assumption | refine Ext.more ?_ _ | refine Ext.drew ?_ | refine Ext.drewN ?_ _ | refine Ext.alloc ?_ _ | refine Ext.setCell ?_ (by simp; try omega) _ | refine Ext.trans ?_ (by assumption)))⟩
  have H0 := hid h0
  clear h0
  by_cases hl1 : s.streams.length = s.conf.doms.length
  case neg =>
    have l1 : ((s.streams.length : Int) == (s.conf.doms.length : Int)) = false := by simp; omega
    have l2 : ((s.streams.length : Int) != (s.conf.doms.length : Int)) = true := by simp; omega
    have HF : Hid (largeB s = false) := by
      unfold Hid largeB
      rw [show (s.streams.length == s.conf.doms.length) = false by simpa using hl1]
      simp
    clear hl1
    go_enter Tryz.func33, Tryz.ntmps33
    go_wp2_with (go_at_call 62; (with_reducible refine (swithin_to H0.out _).yields ?_); intro p0)
    go_returns
    exact ⟨by simp [HF.out], (by repeat (first | exact Ext.refl _ | assumption | refine Ext.more ?_ _ | refine Ext.drew ?_ | refine Ext.drewN ?_ _ | refine Ext.alloc ?_ _ | refine Ext.setCell ?_ (by simp; try omega) _ | refine Ext.trans ?_ (by assumption)))⟩
  have l1 : ((s.streams.length : Int) == (s.conf.doms.length : Int)) = true := by simp; omega
  have l2 : ((s.streams.length : Int) != (s.conf.doms.length : Int)) = false := by simp; omega
  have HL1 := hid hl1
  clear hl1
  by_cases hl2 : s.arrivals.length = s.conf.doms.length
  case neg =>
    have l3 : ((s.arrivals.length : Int) == (s.conf.doms.length : Int)) = false := by simp; omega
    have l4 : ((s.arrivals.length : Int) != (s.conf.doms.length : Int)) = true := by simp; omega
    have HF : Hid (largeB s = false) := by
      unfold Hid largeB
      rw [show (s.arrivals.length == s.conf.doms.length) = false by simpa using hl2]
      simp
    clear hl2
    go_enter Tryz.func33, Tryz.ntmps33
    go_wp2_with (go_at_call 62; (with_reducible refine (swithin_to H0.out _).yields ?_); intro p0)
    go_returns
    exact ⟨by simp [HF.out], (by repeat (first | exact Ext.refl _ | assumption | refine Ext.more ?_ _ | refine Ext.drew ?_ | refine Ext.drewN ?_ _ | refine Ext.alloc ?_ _ | refine Ext.setCell ?_ (by simp; try omega) _ | refine Ext.trans ?_ (by assumption)))⟩
  have l3 : ((s.arrivals.length : Int) == (s.conf.doms.length : Int)) = true := by simp; omega
  have l4 : ((s.arrivals.length : Int) != (s.conf.doms.length : Int)) = false := by simp; omega
  have HL2 := hid hl2
  clear hl2
  have HQ : Hid (largeB s = (s.streams.all streamB && s.arrivals.all (fun l => decide (l.length ≤ 100)))) := by
    unfold Hid largeB
    rw [H0.out, HL1.out, HL2.out]
    simp
  go_enter Tryz.func33, Tryz.ntmps33
  go_wp2_with (go_at_call 62; (with_reducible refine (swithin_to H0.out _).yields ?_); intro p0)
  clear l1 l2 l3 l4
  have hbx := fun (w' : World) (h : Ext (w.alloc (.cells #[.int .i64 s.conf.frame, .int .i64 s.conf.epoch, .slice pp s.conf.plans.length cp, .slice pd s.conf.doms.length cd, .int .i64 s.horizon, .slice ps s.streams.length cs, .slice pa s.arrivals.length ca] 30 (0, 0))) w') => And.intro (boxed h 5 (by simp)) (boxed h 6 (by simp))
  have hx0 : Ext w (w.alloc (.cells #[.int .i64 s.conf.frame, .int .i64 s.conf.epoch, .slice pp s.conf.plans.length cp, .slice pd s.conf.doms.length cd, .int .i64 s.horizon, .slice ps s.streams.length cs, .slice pa s.arrivals.length ca] 30 (0, 0))) := Ext.alloc (Ext.refl _) _
  generalize w.alloc (.cells #[.int .i64 s.conf.frame, .int .i64 s.conf.epoch, .slice pp s.conf.plans.length cp, .slice pd s.conf.doms.length cd, .int .i64 s.horizon, .slice ps s.streams.length cs, .slice pa s.arrivals.length ca] 30 (0, 0)) = W1 at *
  simp only [List.getElem?_toArray, List.getElem?_cons_succ, List.getElem?_cons_zero] at hbx
  have HBX := hid hbx
  clear hbx
  go_loopw [28] (fun v8 wr => Ext W1 wr ∧ ∃ k : Nat, v8 = .int .i64 k ∧ k ≤ s.conf.doms.length ∧ Hid ((s.streams.take k).all streamB = true) ∧ Hid ((s.arrivals.take k).all (fun l => decide (l.length ≤ 100)) = true)) (fun v8 _ => (s.conf.doms.length - intOf v8).toNat)
  case atStart => exact ⟨by first | exact Ext.refl _ | exact ext_more _ _, 0, rfl, by omega, rfl, rfl⟩
  case round =>
    obtain ⟨hx, k, rfl, hk, ht, hu⟩ := hrel
    obtain ⟨q5, q6⟩ := HBX.out _ hx
    have hw := hx0.trans hx
    by_cases hlt : k < s.conf.doms.length
    · have hks : k < s.streams.length := by have := HL1.out; omega
      have hka : k < s.arrivals.length := by have := HL2.out; omega
      obtain ⟨ba, oa, rfl, va, a0, an⟩ := HC.out.streams.at k hks
      obtain ⟨bb, ob, rfl, vb, b0, bn⟩ := HC.out.arrivals.at k hka
      simp only [Nat.mul_one] at a0 b0
      obtain ⟨rp, rc, rfl, hr1, hr2⟩ := an.shape
      obtain ⟨tp, tc, rfl, ht1, ht2⟩ := bn.shape
      unfold maxLen at hr2 ht2
      have c0 := hw.cell a0
      have d0 := hw.cell b0
      have AN := hid (an.ext hw)
      have hA := hid (all_take' s.streams streamB k hks ht.out)
      have hB := hid (all_bad' s.streams streamB k hks)
      have hA' := hid (all_take' s.arrivals (fun l => decide (l.length ≤ 100)) k hka hu.out)
      have hB' := hid (all_bad' s.arrivals (fun l => decide (l.length ≤ 100)) k hka)
      have hba : ba < wr.heap.size := World.block_lt_of_cell? _ _ c0
      have hbb : bb < wr.heap.size := World.block_lt_of_cell? _ _ d0
      clear a0 b0 an bn
      generalize s.streams[k] = x at *
      generalize s.arrivals[k] = y at *
      have i1 : (k : Int) < s.conf.doms.length := by omega
      have i2 : (k : Int) < s.streams.length := by omega
      have i3 : (k : Int) < s.arrivals.length := by omega
      have hbs : w.heap.size < wr.heap.size := World.block_lt_of_cell? _ _ q6
      have HS := hid (streamB_eq x)
      by_cases hx4 : 400 < x.length
      · have HF : Hid (s.streams.all streamB = false) := hB.out (by rw [HS.out, decide_eq_false (by omega), Bool.false_and])
        go_wp2_with fail
        go_returns
        exact ⟨by simp [HQ.out, HF.out], (by repeat (first | exact Ext.refl _ | assumption | refine Ext.more ?_ _ | refine Ext.drew ?_ | refine Ext.drewN ?_ _ | refine Ext.alloc ?_ _ | refine Ext.setCell ?_ (by simp; try omega) _ | refine Ext.trans ?_ (by assumption)))⟩
      have hx4' : (x.length : Int) ≤ 400 := by omega
      have hx4b : decide ((400 : Int) < (x.length : Int)) = false := by simpa using hx4'
      have HX4 : Hid (x.length ≤ 400) := by unfold Hid; omega
      clear hx4
      cases h1 : x.any (fun x => !axnB x)
      case true =>
        have H1 := hid h1
        clear h1
        have HF : Hid (s.streams.all streamB = false) := hB.out (by rw [HS.out, H1.out, Bool.not_true, Bool.and_false])
        go_wp2_with (go_at_call 63; (with_reducible refine (largest_to H1.out _ _ (AN.out.ext (by repeat (first | exact Ext.refl _ | assumption | refine Ext.more ?_ _ | refine Ext.drew ?_ | refine Ext.drewN ?_ _ | refine Ext.alloc ?_ _ | refine Ext.setCell ?_ (by simp; try omega) _ | refine Ext.trans ?_ (by assumption))))).yields ?_); intro p1)
        go_returns
        exact ⟨by simp [HQ.out, HF.out], (by repeat (first | exact Ext.refl _ | assumption | refine Ext.more ?_ _ | refine Ext.drew ?_ | refine Ext.drewN ?_ _ | refine Ext.alloc ?_ _ | refine Ext.setCell ?_ (by simp; try omega) _ | refine Ext.trans ?_ (by assumption)))⟩
      have H1 := hid h1
      clear h1
      have HG : Hid ((s.streams.take (k + 1)).all streamB = true) := by unfold Hid; rw [hA.out, HS.out, H1.out, decide_eq_true HX4.out]; rfl
      by_cases hy1 : 100 < y.length
      · have HF : Hid (s.arrivals.all (fun l => decide (l.length ≤ 100)) = false) := hB'.out (by simpa using hy1)
        go_wp2_with (go_at_call 63; (with_reducible refine (largest_to H1.out _ _ (AN.out.ext (by repeat (first | exact Ext.refl _ | assumption | refine Ext.more ?_ _ | refine Ext.drew ?_ | refine Ext.drewN ?_ _ | refine Ext.alloc ?_ _ | refine Ext.setCell ?_ (by simp; try omega) _ | refine Ext.trans ?_ (by assumption))))).yields ?_); intro p1)
        go_returns
        exact ⟨by rw [HQ.out, HF.out]; simp, (by repeat (first | exact Ext.refl _ | assumption | refine Ext.more ?_ _ | refine Ext.drew ?_ | refine Ext.drewN ?_ _ | refine Ext.alloc ?_ _ | refine Ext.setCell ?_ (by simp; try omega) _ | refine Ext.trans ?_ (by assumption)))⟩
      have hy1' : (y.length : Int) ≤ 100 := by omega
      have hy1b : decide ((100 : Int) < (y.length : Int)) = false := by simpa using hy1'
      have HG' : Hid ((s.arrivals.take (k + 1)).all (fun l => decide (l.length ≤ 100)) = true) := by unfold Hid; rw [hA'.out]; simp; omega
      clear hy1
      go_wp2_with (go_at_call 63; (with_reducible refine (largest_to H1.out _ _ (AN.out.ext (by repeat (first | exact Ext.refl _ | assumption | refine Ext.more ?_ _ | refine Ext.drew ?_ | refine Ext.drewN ?_ _ | refine Ext.alloc ?_ _ | refine Ext.setCell ?_ (by simp; try omega) _ | refine Ext.trans ?_ (by assumption))))).yields ?_); intro p1)
      go_roundw
      case rel => exact ⟨(by repeat (first | exact Ext.refl _ | assumption | refine Ext.more ?_ _ | refine Ext.drew ?_ | refine Ext.drewN ?_ _ | refine Ext.alloc ?_ _ | refine Ext.setCell ?_ (by simp; try omega) _ | refine Ext.trans ?_ (by assumption))), k + 1, by go_num, by omega, HG, HG'⟩
      case measure => simp [intOf]; omega
    · obtain rfl : k = s.conf.doms.length := by omega
      have h1 := ht.out
      have h2 := hu.out
      rw [← HL1.out, List.take_length] at h1
      rw [← HL2.out, List.take_length] at h2
      have K1 := hid h1
      have K2 := hid h2
      clear h1 h2 ht hu
      go_wp2
      go_returns
      exact ⟨by rw [HQ.out, K1.out, K2.out]; rfl, hw⟩
theorem fits_to {s : Scr} {r : Bool} (e : largeB s = r) (w : World) (pv dv sv av : Value) (hc : ScrV w s pv dv sv av) :
    Calls Tryz.prog 33 #[scrV s pv dv sv av] w (Yields w (.bool r)) := e ▸ fits_any w s pv dv sv av hc

theorem isScr_confS {s : Scr} (h : isConf s.conf ≠ 0) : isScr s = isConf s.conf := by rw [isScr, if_pos h]
set_option maxRecDepth 100000 in
set_option maxHeartbeats 2000000 in
theorem scrIs_any (w : World) (s : Scr) (pv dv sv av : Value) (hc : ScrV w s pv dv sv av) :
    Calls Tryz.prog 11 #[scrV s pv dv sv av] w (Yields w (errV (isScr s))) := by
  obtain ⟨pp, cp, rfl, -, -⟩ := hc.conf.plans.shape
  obtain ⟨pd, cd, rfl, -, -⟩ := hc.conf.doms.shape
  obtain ⟨ps, cs, rfl, -, -⟩ := hc.streams.shape
  obtain ⟨pa, ca, rfl, -, -⟩ := hc.arrivals.shape
  have HC := hid hc
  clear hc
  have hne := fun v w => run_neq_iface_nil (P := Tryz.prog) w 39 v Tryz.underlying32
  have hnn := fun w => run_neq_nil_nil' (P := Tryz.prog) w Tryz.underlying32
  go_enter Tryz.func11, Tryz.ntmps11
  by_cases h0 : isConf s.conf = 0
  case neg =>
    have HE := hid (isScr_confS h0)
    have H0 := hid h0
    clear h0
    go_wp2_with (go_at_call 32; refine (confIs_to rfl _ _ _ (HC.out.conf.ext (by repeat (first | exact Ext.refl _ | assumption | refine Ext.more ?_ _ | refine Ext.drew ?_ | refine Ext.drewN ?_ _ | refine Ext.alloc ?_ _ | refine Ext.setCell ?_ (by simp; try omega) _ | refine Ext.trans ?_ (by assumption))))).yields ?_; rw [errV_pos H0.out]; intro p1)
    go_returns
    exact ⟨by rw [HE.out, errV_pos H0.out]; rfl, (by repeat (first | exact Ext.refl _ | assumption | refine Ext.more ?_ _ | refine Ext.drew ?_ | refine Ext.drewN ?_ _ | refine Ext.alloc ?_ _ | refine Ext.setCell ?_ (by simp; try omega) _ | refine Ext.trans ?_ (by assumption)))⟩
  have H0 := hid h0
  clear h0
  cases h1 : largeB s
  · have H1 := hid h1
    clear h1
    go_wp2_with (first | (go_at_call 32; refine (confIs_to H0.out _ _ _ (HC.out.conf.ext (by repeat (first | exact Ext.refl _ | assumption | refine Ext.more ?_ _ | refine Ext.drew ?_ | refine Ext.drewN ?_ _ | refine Ext.alloc ?_ _ | refine Ext.setCell ?_ (by simp; try omega) _ | refine Ext.trans ?_ (by assumption))))).yields ?_; rw [errV_0]; intro p1) | (go_at_call 33; (with_reducible refine (fits_to H1.out _ _ _ _ _ (HC.out.ext (by repeat (first | exact Ext.refl _ | assumption | refine Ext.more ?_ _ | refine Ext.drew ?_ | refine Ext.drewN ?_ _ | refine Ext.alloc ?_ _ | refine Ext.setCell ?_ (by simp; try omega) _ | refine Ext.trans ?_ (by assumption))))).yields ?_); intro p2))
    go_returns
    exact ⟨by simp [isScr, errV, H0.out, H1.out], (by repeat (first | exact Ext.refl _ | assumption | refine Ext.more ?_ _ | refine Ext.drew ?_ | refine Ext.drewN ?_ _ | refine Ext.alloc ?_ _ | refine Ext.setCell ?_ (by simp; try omega) _ | refine Ext.trans ?_ (by assumption)))⟩
  have H1 := hid h1
  clear h1
  cases h2 : s.arrivals.any (fun x => !arrB 0 x)
  all_goals
    have H2 := hid h2
    have H3 : Hid (s.arrivals.all (arrB 0) = !(s.arrivals.any (fun x => !arrB 0 x))) := by unfold Hid; rw [any_not_all, Bool.not_not]
    clear h2
    go_wp2_with (first | (go_at_call 32; refine (confIs_to H0.out _ _ _ (HC.out.conf.ext (by repeat (first | exact Ext.refl _ | assumption | refine Ext.more ?_ _ | refine Ext.drew ?_ | refine Ext.drewN ?_ _ | refine Ext.alloc ?_ _ | refine Ext.setCell ?_ (by simp; try omega) _ | refine Ext.trans ?_ (by assumption))))).yields ?_; rw [errV_0]; intro p1) | (go_at_call 33; (with_reducible refine (fits_to H1.out _ _ _ _ _ (HC.out.ext (by repeat (first | exact Ext.refl _ | assumption | refine Ext.more ?_ _ | refine Ext.drew ?_ | refine Ext.drewN ?_ _ | refine Ext.alloc ?_ _ | refine Ext.setCell ?_ (by simp; try omega) _ | refine Ext.trans ?_ (by assumption))))).yields ?_); intro p2) | (go_at_call 34; (with_reducible refine (oddest_to H2.out _ _ (HC.out.arrivals.ext (by repeat (first | exact Ext.refl _ | assumption | refine Ext.more ?_ _ | refine Ext.drew ?_ | refine Ext.drewN ?_ _ | refine Ext.alloc ?_ _ | refine Ext.setCell ?_ (by simp; try omega) _ | refine Ext.trans ?_ (by assumption))))).yields ?_); intro p3))
    go_returns
    exact ⟨by simp [isScr, errV, H0.out, H1.out, H3.out, H2.out], (by repeat (first | exact Ext.refl _ | assumption | refine Ext.more ?_ _ | refine Ext.drew ?_ | refine Ext.drewN ?_ _ | refine Ext.alloc ?_ _ | refine Ext.setCell ?_ (by simp; try omega) _ | refine Ext.trans ?_ (by assumption)))⟩
theorem scrIs_to {s : Scr} {n : Nat} (e : isScr s = n) (w : World) (pv dv sv av : Value) (hc : ScrV w s pv dv sv av) :
    Calls Tryz.prog 11 #[scrV s pv dv sv av] w (Yields w (errV n)) := e ▸ scrIs_any w s pv dv sv av hc
end Go.Proofs.YtmpgeabfogcblaaGreat
