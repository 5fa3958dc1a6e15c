/- The document's own stream, and what is too wide, as walks. -/
import Derived.Test.YtbllibgddiiboaaGreatDoorRefScr
import Derived.Test.YtbllibgddiiboaaGreatDoorRefConf5
import Derived.Test.YtbllibgddiiboaaGreatDoorWide
namespace Go.Proofs.YtbllibgddiiboaaGreatDoor
open Go.RowKit

set_option maxRecDepth 100000 in
set_option maxHeartbeats 2000000 in
theorem rstream_any (w : World) (va : Value) (la : List Axn) (ha : AxnsV w va la) :
    Calls Tryz.prog 24 #[va] w (Yields w (.bool (streamB la))) := by
  obtain ⟨pa, ca, rfl, hca, hma⟩ := ha.shape
  unfold maxLen at hma
  have HA := hid ha
  clear ha
  go_enter Tryz.func24, Tryz.ntmps24
  go_wp2
  go_loopw [3] (fun v3 wr => Ext w wr ∧ ∃ k : Nat, v3 = .int .i64 k ∧ k ≤ la.length ∧ Hid ((la.take k).all axnB = true)) (fun v3 _ => (la.length - intOf v3).toNat)
  case atStart => exact ⟨Ext.refl _, 0, rfl, by omega, rfl⟩
  case round =>
    obtain ⟨hx, k, rfl, hk, ht⟩ := hrel
    by_cases hlt : k < la.length
    · obtain ⟨ba, oa, rfl, a0, a1, a2⟩ := HA.out.at k hlt
      have c0 := hx.cell a0
      have c1 := hx.cell a1
      have c2 := hx.cell a2
      have hba : ba < wr.heap.size := World.block_lt_of_cell? _ _ c0
      have hA := hid (all_take la axnB k hlt ht.out)
      have hB := hid (all_bad la axnB k hlt)
      clear a0 a1 a2
      generalize la[k] = x at *
      have i1 : (k : Int) < la.length := by omega
      cases h0 : withB x.op 0 1048576
      · have H0 := hid h0
        clear h0
        go_wp2_with (first | (go_at_call 23; (with_reducible refine (within_to H0.out _).yields ?_); intro p0))
        go_returns
        have h1 := hB.out (by simp [axnB, H0.out])
        exact ⟨by simp [streamB, h1], (by repeat (first | exact Ext.refl _ | assumption | refine Ext.more ?_ _ | refine Ext.drew ?_ | refine Ext.drewN ?_ _ | refine Ext.alloc ?_ _ | refine Ext.setCell ?_ (by simp; try omega) _ | refine Ext.trans ?_ (by assumption)))⟩
      have H0 := hid h0
      clear h0
      cases h1 : withB x.a 0 1048576
      · have H1 := hid h1
        clear h1
        go_wp2_with (first | (go_at_call 23; (with_reducible refine (within_to H0.out _).yields ?_); intro p0) | (go_at_call 23; (with_reducible refine (within_to H1.out _).yields ?_); intro p1))
        go_returns
        have h1 := hB.out (by simp [axnB, H1.out])
        exact ⟨by simp [streamB, h1], (by repeat (first | exact Ext.refl _ | assumption | refine Ext.more ?_ _ | refine Ext.drew ?_ | refine Ext.drewN ?_ _ | refine Ext.alloc ?_ _ | refine Ext.setCell ?_ (by simp; try omega) _ | refine Ext.trans ?_ (by assumption)))⟩
      have H1 := hid h1
      clear h1
      cases h2 : withB x.b 0 1048576
      · have H2 := hid h2
        clear h2
        go_wp2_with (first | (go_at_call 23; (with_reducible refine (within_to H0.out _).yields ?_); intro p0) | (go_at_call 23; (with_reducible refine (within_to H1.out _).yields ?_); intro p1) | (go_at_call 23; (with_reducible refine (within_to H2.out _).yields ?_); intro p2))
        go_returns
        have h1 := hB.out (by simp [axnB, H2.out])
        exact ⟨by simp [streamB, h1], (by repeat (first | exact Ext.refl _ | assumption | refine Ext.more ?_ _ | refine Ext.drew ?_ | refine Ext.drewN ?_ _ | refine Ext.alloc ?_ _ | refine Ext.setCell ?_ (by simp; try omega) _ | refine Ext.trans ?_ (by assumption)))⟩
      have H2 := hid h2
      clear h2
      go_wp2_with (first | (go_at_call 23; (with_reducible refine (within_to H0.out _).yields ?_); intro p0) | (go_at_call 23; (with_reducible refine (within_to H1.out _).yields ?_); intro p1) | (go_at_call 23; (with_reducible refine (within_to H2.out _).yields ?_); intro p2))
      go_roundw
      case rel => exact ⟨(by repeat (first | exact Ext.refl _ | assumption | refine Ext.more ?_ _ | refine Ext.drew ?_ | refine Ext.drewN ?_ _ | refine Ext.alloc ?_ _ | refine Ext.setCell ?_ (by simp; try omega) _ | refine Ext.trans ?_ (by assumption))), k + 1, by go_num, by omega, by unfold Hid; rw [hA.out]; simp [axnB, H0.out, H1.out, H2.out]⟩
      case measure => simp [intOf]; omega
    · obtain rfl : k = la.length := by omega
      have he := ht.out
      rw [List.take_length] at he
      have HE := hid he
      clear he
      go_wp2
      go_returns
      exact ⟨by simp [streamB, HE.out]; omega, hx⟩
theorem rstream_to {la : List Axn} {r : Bool} (e : streamB la = r) (w : World) (va : Value) (ha : AxnsV w va la) :
    Calls Tryz.prog 24 #[va] w (Yields w (.bool r)) := e ▸ rstream_any w va la ha

def wideS (s : Scr) (h : Int) : Bool := decide (h < s.horizon) || decide (10 < s.streams.length) || decide (10 < s.arrivals.length) || wideB s.conf || s.streams.any (fun l => decide (500 < l.length)) || s.arrivals.any (fun l => decide (200 < l.length))
theorem wideS_conf {s : Scr} {h : Int} (e : wideS s h = false) : wideB s.conf = false ∧ s.streams.length ≤ 10 ∧ s.arrivals.length ≤ 10 := by
  simp only [wideS, Bool.or_eq_false_iff, decide_eq_false_iff_not] at e
  exact ⟨e.1.1.2, by omega, by omega⟩
theorem wide_routes20 {c : Cnf} (h : wideB c = false) : ∀ d ∈ c.doms, ∀ r ∈ d.routes, r.length ≤ 20 := by
  simp only [wideB, Bool.or_eq_false_iff, decide_eq_false_iff_not, List.any_eq_false] at h
  obtain ⟨⟨⟨h1, _⟩, _⟩, h2⟩ := h
  intro d hd r hr
  have := h2 d hd
  simp only [wideD, Bool.or_eq_true, not_or, List.any_eq_true, not_exists, not_and, decide_eq_true_eq] at this
  have := this.2 r hr
  omega
theorem wideConf_to {c : Cnf} {r : Bool} (e : wideB c = r) (w : World) (pv dv : Value) (h : ConfV w c pv dv) : Calls Tryz.prog 16 #[confV c pv dv] w (Yields w (.bool r)) := e ▸ wide_any w c pv dv h

set_option maxRecDepth 100000 in
set_option maxHeartbeats 4000000 in
theorem wideScr_any (w : World) (s : Scr) (h : Int) (pv dv sv av : Value) (hc : ScrV w s pv dv sv av) :
    Calls Tryz.prog 5 #[scrV s pv dv sv av, .int .i64 h] w (Yields w (.bool (wideS s h))) := by
  obtain ⟨pp, cp, rfl, hp1, hp2⟩ := hc.conf.plans.shape
  obtain ⟨pd, cd, rfl, hd1, hd2⟩ := hc.conf.doms.shape
  obtain ⟨ps, cs, rfl, hs1, hs2⟩ := hc.streams.shape
  obtain ⟨pa, ca, rfl, ha1, ha2⟩ := hc.arrivals.shape
  unfold maxLen at hp2 hd2 hs2 ha2
  have HC := hid hc
  clear hc
  by_cases hl0 : h < s.horizon
  · go_enter Tryz.func5, Tryz.ntmps5
    go_wp2
    go_returns
    exact ⟨by simp [wideS, hl0], (by repeat (first | exact Ext.refl _ | assumption | refine Ext.more ?_ _ | refine Ext.drew ?_ | refine Ext.drewN ?_ _ | refine Ext.alloc ?_ _ | refine Ext.setCell ?_ (by simp; try omega) _ | refine Ext.trans ?_ (by assumption)))⟩
  have k0 : s.horizon ≤ h := by omega
  have k0b : decide (h < s.horizon) = false := by simpa using k0
  by_cases hl1 : 10 < s.streams.length
  · go_enter Tryz.func5, Tryz.ntmps5
    go_wp2
    go_returns
    exact ⟨by simp [wideS, hl1], (by repeat (first | exact Ext.refl _ | assumption | refine Ext.more ?_ _ | refine Ext.drew ?_ | refine Ext.drewN ?_ _ | refine Ext.alloc ?_ _ | refine Ext.setCell ?_ (by simp; try omega) _ | refine Ext.trans ?_ (by assumption)))⟩
  have k1 : (s.streams.length : Int) ≤ 10 := by omega
  have k1b : decide ((10 : Int) < (s.streams.length : Int)) = false := by simpa using k1
  by_cases hl2 : 10 < s.arrivals.length
  · go_enter Tryz.func5, Tryz.ntmps5
    go_wp2
    go_returns
    exact ⟨by simp [wideS, hl2], (by repeat (first | exact Ext.refl _ | assumption | refine Ext.more ?_ _ | refine Ext.drew ?_ | refine Ext.drewN ?_ _ | refine Ext.alloc ?_ _ | refine Ext.setCell ?_ (by simp; try omega) _ | refine Ext.trans ?_ (by assumption)))⟩
  have k2 : (s.arrivals.length : Int) ≤ 10 := by omega
  have k2b : decide ((10 : Int) < (s.arrivals.length : Int)) = false := by simpa using k2
  cases h3 : wideB s.conf
  case true =>
    have H3 := hid h3
    clear h3
    go_enter Tryz.func5, Tryz.ntmps5
    go_wp2_with (go_at_call 16; (with_reducible refine (wideConf_to H3.out _ _ _ (HC.out.conf.ext (by repeat (first | exact Ext.refl _ | assumption | refine Ext.more ?_ _ | refine Ext.drew ?_ | refine Ext.drewN ?_ _ | refine Ext.alloc ?_ _ | refine Ext.setCell ?_ (by simp; try omega) _ | refine Ext.trans ?_ (by assumption))))).yields ?_); intro p0)
    go_returns
    exact ⟨by simp [wideS, H3.out], (by repeat (first | exact Ext.refl _ | assumption | refine Ext.more ?_ _ | refine Ext.drew ?_ | refine Ext.drewN ?_ _ | refine Ext.alloc ?_ _ | refine Ext.setCell ?_ (by simp; try omega) _ | refine Ext.trans ?_ (by assumption)))⟩
  have H3 := hid h3
  clear h3
  go_enter Tryz.func5, Tryz.ntmps5
  go_wp2_with (go_at_call 16; (with_reducible refine (wideConf_to H3.out _ _ _ (HC.out.conf.ext (by repeat (first | exact Ext.refl _ | assumption | refine Ext.more ?_ _ | refine Ext.drew ?_ | refine Ext.drewN ?_ _ | refine Ext.alloc ?_ _ | refine Ext.setCell ?_ (by simp; try omega) _ | refine Ext.trans ?_ (by assumption))))).yields ?_); intro p0)
  have hbx : ∀ w' : World, Ext (w.alloc (.cells #[.int .i64 s.conf.frame, .int .i64 s.conf.epoch, .slice pp s.conf.plans.length cp, .slice pd s.conf.doms.length cd, .int .i64 s.horizon, .slice ps s.streams.length cs, .slice pa s.arrivals.length ca] 29 (0, 0))) w' → _ := fun w' h => And.intro (box_cells h 5 (by simp)) (box_cells h 6 (by simp))
  have hx0 : Ext w (w.alloc (.cells #[.int .i64 s.conf.frame, .int .i64 s.conf.epoch, .slice pp s.conf.plans.length cp, .slice pd s.conf.doms.length cd, .int .i64 s.horizon, .slice ps s.streams.length cs, .slice pa s.arrivals.length ca] 29 (0, 0))) := Ext.alloc (Ext.refl _) _
  generalize w.alloc (.cells #[.int .i64 s.conf.frame, .int .i64 s.conf.epoch, .slice pp s.conf.plans.length cp, .slice pd s.conf.doms.length cd, .int .i64 s.horizon, .slice ps s.streams.length cs, .slice pa s.arrivals.length ca] 29 (0, 0)) = W1 at *
  simp only [List.getElem?_toArray, List.getElem?_cons_succ, List.getElem?_cons_zero] at hbx
  have HBX := hid hbx
  clear hbx
  go_loopw [5] (fun v wr => Ext W1 wr ∧ ∃ k : Nat, v = .int .i64 k ∧ k ≤ s.streams.length ∧ Hid ((s.streams.take k).any (fun l => decide (500 < l.length)) = false)) (fun v _ => (s.streams.length - intOf v).toNat)
  case atStart => exact ⟨(by repeat (first | exact Ext.refl _ | refine Ext.more ?_ _)), 0, rfl, by omega, rfl⟩
  case round =>
    obtain ⟨hx, k, rfl, hk, ht⟩ := hrel
    obtain ⟨b5, b6⟩ := HBX.out _ hx
    have hw := hx0.trans hx
    by_cases hlt : k < s.streams.length
    · obtain ⟨pb, po, rfl, rv, r0, rn⟩ := HC.out.streams.at k hlt
      obtain ⟨rp, rc, rfl, -, hr2⟩ := rn.shape
      unfold maxLen at hr2
      simp only [Nat.mul_one] at r0
      have e0 := hw.cell r0
      have hg := hid (any_good s.streams (fun l => decide (500 < l.length)) k hlt)
      have hn := hid (any_none s.streams (fun l => decide (500 < l.length)) k hlt ht.out)
      clear rn r0
      generalize s.streams[k] = row at *
      have i1 : (k : Int) < s.streams.length := by omega
      by_cases h20 : 500 < row.length
      · have h20' : (500 : Int) < row.length := by omega
        go_wp2
        go_returns
        exact ⟨by simp [wideS, hg.out (by simpa using h20)], hw⟩
      · have h20' : (row.length : Int) ≤ 500 := by omega
        go_wp2
        go_roundw
        case rel => exact ⟨hx, k + 1, by go_num, by omega, hid (hn.out (by simp; omega))⟩
        case measure => simp [intOf]; omega
    · obtain rfl : k = s.streams.length := by omega
      have hP : Hid (s.streams.any (fun l => decide (500 < l.length)) = false) := by
        have := ht.out
        rwa [List.take_length] at this
      clear ht
      go_wp2_with fail
      go_loopw [6] (fun v wr => Ext W1 wr ∧ ∃ k : Nat, v = .int .i64 k ∧ k ≤ s.arrivals.length ∧ Hid ((s.arrivals.take k).any (fun l => decide (200 < l.length)) = false)) (fun v _ => (s.arrivals.length - intOf v).toNat)
      case atStart => exact ⟨hx, 0, rfl, by omega, rfl⟩
      case round =>
        clear b5 b6 hw hx
        obtain ⟨hx, k, rfl, hk, ht⟩ := hrel
        obtain ⟨b5, b6⟩ := HBX.out _ hx
        have hw := hx0.trans hx
        by_cases hlt : k < s.arrivals.length
        · obtain ⟨pb, po, rfl, rv, r0, rn⟩ := HC.out.arrivals.at k hlt
          obtain ⟨rp, rc, rfl, -, hr2⟩ := rn.shape
          unfold maxLen at hr2
          simp only [Nat.mul_one] at r0
          have e0 := hw.cell r0
          have hg := hid (any_good s.arrivals (fun l => decide (200 < l.length)) k hlt)
          have hn := hid (any_none s.arrivals (fun l => decide (200 < l.length)) k hlt ht.out)
          clear rn r0
          generalize s.arrivals[k] = row at *
          have i1 : (k : Int) < s.arrivals.length := by omega
          by_cases h20 : 200 < row.length
          · have h20' : (200 : Int) < row.length := by omega
            go_wp2
            go_returns
            exact ⟨by simp [wideS, hg.out (by simpa using h20)], hw⟩
          · have h20' : (row.length : Int) ≤ 200 := by omega
            go_wp2
            go_roundw
            case rel => exact ⟨hx, k + 1, by go_num, by omega, hid (hn.out (by simp; omega))⟩
            case measure => simp [intOf]; omega
        · obtain rfl : k = s.arrivals.length := by omega
          have h3 := ht.out
          rw [List.take_length] at h3
          have H4 := hid h3
          clear h3 ht
          go_wp2
          go_returns
          exact ⟨by simp [wideS, hP.out, H3.out, H4.out, hl0, hl1, hl2], hw⟩
theorem wideScr_to {s : Scr} {h : Int} {r : Bool} (e : wideS s h = r) (w : World) (pv dv sv av : Value) (hc : ScrV w s pv dv sv av) :
    Calls Tryz.prog 5 #[scrV s pv dv sv av, .int .i64 h] w (Yields w (.bool r)) := e ▸ wideScr_any w s h pv dv sv av hc
end Go.Proofs.YtbllibgddiiboaaGreatDoor
