/- What the tests of package conf come to: form, shares, quotas. -/
import Derived.Test.YtmpgeabfogcblaaGreatCf0
namespace Go.Proofs.YtmpgeabfogcblaaGreat
open Go.RowKit

theorem cis_to {a b : Int} {r : Bool} (e : isB a = r) (w : World) : Calls Tryz.prog 89 #[.agg #[.int .i64 a, .int .u64 b]] w (Yields w (.bool r)) := e ▸ is_any a b w

set_option maxHeartbeats 1000000 in
theorem divides_any (w : World) (v : Value) (l : List Int) (h : Nums .i64 w v l) :
    Calls Tryz.prog 90 #[v] w (Yields w (.bool (dividesB l))) := by
  obtain ⟨p, cap, rfl, hcap, hmax⟩ := h.shape
  unfold maxLen at hmax
  have H := hid h
  clear h
  go_enter Tryz.func90, Tryz.ntmps90
  go_wp2
  go_loopw [3, 8] (fun v3 v8 wr => Ext w wr ∧ ∃ (k : Nat) (m : Int), v8 = .int .i64 k ∧ v3 = .int .i64 m ∧ 0 ≤ m ∧ m ≤ 1000 ∧ k ≤ l.length ∧ Hid ((l.take k).all (fun s => withB s 0 1000) = true) ∧ Hid (decide (0 < m) = (l.take k).any (fun s => decide (0 < s)))) (fun _ v8 _ => (l.length - intOf v8).toNat)
  case atStart => exact ⟨Ext.refl _, 0, 0, rfl, rfl, by omega, by omega, by omega, rfl, rfl⟩
  case round =>
    obtain ⟨hx, k, m, rfl, rfl, hm0, hm1, hk, hall, hany⟩ := hrel
    by_cases hlt : k < l.length
    · obtain ⟨b, off, rfl, s0, -⟩ := H.out.at k hlt
      simp only [Nat.mul_one] at s0
      have f0 := hx.cell s0
      have hA := hid (all_take' l (fun s => withB s 0 1000) k hlt hall.out)
      have hN := hid (any_take' l (fun s => decide (0 < s)) k hlt)
      have hB := hid (all_bad' l (fun s => withB s 0 1000) k hlt)
      clear s0
      generalize l[k] = x at *
      have i1 : (k : Int) < l.length := by omega
      cases hwx : withB x 0 1000
      · have HWX := hid hwx
        clear hwx
        go_wp2_with (go_at_call 88; refine (cwithin_to HWX.out _).yields ?_; intro p1)
        go_returns
        exact ⟨by simp [dividesB, hB.out HWX.out], hx.more _⟩
      · have hb := withB_iff.1 hwx
        have HWX := hid hwx
        clear hwx
        go_wp2_with (go_at_call 88; refine (cwithin_to HWX.out _).yields ?_; intro p1)
        all_goals
          go_roundw
          case rel => exact ⟨hx.more _, k + 1, _, by go_num, rfl, by omega, by omega, by omega, by unfold Hid; rw [hA.out]; exact HWX.out, by unfold Hid; rw [hN.out, ← hany.out, Bool.eq_iff_iff]; simp; try omega⟩
          case measure => simp [intOf]; omega
    · obtain rfl : k = l.length := by omega
      have h1 := hall.out
      have h2 := hany.out
      rw [List.take_length] at h1 h2
      have H1 := hid h1
      have H2 := hid h2
      clear h1 h2
      go_wp2
      go_returns
      exact ⟨by simp [dividesB, H1.out, ← H2.out], hx⟩
theorem divides_to {l : List Int} {r : Bool} (e : dividesB l = r) (w : World) (v : Value) (h : Nums .i64 w v l) : Calls Tryz.prog 90 #[v] w (Yields w (.bool r)) := e ▸ divides_any w v l h

set_option maxRecDepth 100000 in
set_option maxHeartbeats 2000000 in
theorem shared_any (w : World) (c : Cnf) (pv dv : Value) (hc : ConfV w c pv dv) :
    Calls Tryz.prog 59 #[confV c pv dv] w (Yields w (.bool (sharesB c))) := by
  obtain ⟨pp, cp, rfl, hp1, hp2⟩ := hc.plans.shape
  obtain ⟨pd, cd, rfl, hd1, hd2⟩ := hc.doms.shape
  unfold maxLen at hp2 hd2
  have HC := hid hc
  clear hc
  obtain ⟨fr, ep, plans, doms⟩ := c
  simp only at HC hp1 hp2 hd1 hd2
  go_enter Tryz.func59, Tryz.ntmps59
  cases hlen : withB plans.length 1 3
  · have HLEN := hid hlen
    clear hlen
    go_wp2_with (go_at_call 88; refine (cwithin_to HLEN.out _).yields ?_; intro p0)
    go_returns
    exact ⟨by simp [sharesB, HLEN.out], (by repeat (first | exact Ext.refl _ | assumption | refine Ext.more ?_ _ | refine Ext.drew ?_ | refine Ext.drewN ?_ _ | refine Ext.alloc ?_ _ | refine Ext.setCell ?_ (by simp; try omega) _ | refine Ext.trans ?_ (by assumption)))⟩
  have HLEN := hid hlen
  clear hlen
  go_wp2_with (go_at_call 88; refine (cwithin_to HLEN.out _).yields ?_; intro p0)
  have hbx := fun (w' : World) (h : Ext (w.alloc (.cells #[.int .i64 fr, .int .i64 ep, .slice pp plans.length cp, .slice pd doms.length cd] 26 (0, 0))) w') => And.intro (boxed h 2 (by simp)) (boxed h 3 (by simp))
  have hx0 : Ext w (w.alloc (.cells #[.int .i64 fr, .int .i64 ep, .slice pp plans.length cp, .slice pd doms.length cd] 26 (0, 0))) := Ext.alloc (Ext.refl _) _
  generalize w.alloc (.cells #[.int .i64 fr, .int .i64 ep, .slice pp plans.length cp, .slice pd doms.length cd] 26 (0, 0)) = W1 at *
  simp only [List.getElem?_toArray, List.getElem?_cons_succ, List.getElem?_cons_zero] at hbx
  have HBX := hid hbx
  clear hbx
  have hx1 := ext_more W1 p0
  generalize more W1 p0 = W2 at *
  go_loopw [13] (fun v13 wr => Ext W1 wr ∧ ∃ k : Nat, v13 = .int .i64 k ∧ k ≤ plans.length ∧ Hid ((plans.take k).all (planB doms.length) = true)) (fun v13 _ => (plans.length - intOf v13).toNat)
  case atStart => exact ⟨hx1, 0, rfl, by omega, rfl⟩
  case round =>
    obtain ⟨hx, k, rfl, hk, ht⟩ := hrel
    obtain ⟨a2, a3⟩ := HBX.out _ hx
    have hw := hx0.trans hx
    by_cases hlt : k < plans.length
    · obtain ⟨pb, po, rfl, rv, r0, rn⟩ := HC.out.plans.at k hlt
      have hgood := hid (fun (h : planB doms.length plans[k] = true) => (all_take' plans (planB doms.length) k hlt ht.out).trans h)
      have hbad := hid (all_bad' plans (planB doms.length) k hlt)
      generalize plans[k] = row at *
      obtain ⟨rp, rc, rfl, hr1, hr2⟩ := rn.shape
      unfold maxLen at hr2
      simp only [Nat.mul_one] at r0
      have RN := hid rn
      have i1 : (k : Int) < plans.length := by omega
      have e0 := hw.cell r0
      clear rn r0
      by_cases hll : row.length = doms.length
      · have l1 : ((row.length : Int) == (doms.length : Int)) = true := by simp; omega
        have l2 : ((row.length : Int) != (doms.length : Int)) = false := by simp; omega
        have l3 : (row.length == doms.length) = true := by simp; omega
        have l4 : (row.length != doms.length) = false := by simp; omega
        have HLL := hid hll
        clear hll
        cases hd : dividesB row
        · have HD := hid hd
          clear hd
          go_wp2_with (go_at_call 90; refine (divides_to HD.out _ _ (RN.out.ext (by repeat (first | exact Ext.refl _ | assumption | refine Ext.more ?_ _ | refine Ext.drew ?_ | refine Ext.drewN ?_ _ | refine Ext.alloc ?_ _ | refine Ext.setCell ?_ (by simp; try omega) _ | refine Ext.trans ?_ (by assumption))))).yields ?_; intro p1)
          go_returns
          refine ⟨?_, hw.more _⟩
          have h2 : planB doms.length row = false := by simp [planB_eq, HD.out]
          simp [sharesB, hbad.out h2]
        · have HD := hid hd
          clear hd
          go_wp2_with (go_at_call 90; refine (divides_to HD.out _ _ (RN.out.ext (by repeat (first | exact Ext.refl _ | assumption | refine Ext.more ?_ _ | refine Ext.drew ?_ | refine Ext.drewN ?_ _ | refine Ext.alloc ?_ _ | refine Ext.setCell ?_ (by simp; try omega) _ | refine Ext.trans ?_ (by assumption))))).yields ?_; intro p1)
          go_roundw
          case rel => exact ⟨hx.more _, k + 1, by go_num, by omega, hid (hgood.out (by simp [planB_eq, HD.out, HLL.out]))⟩
          case measure => simp [intOf]; omega
      · have l1 : ((row.length : Int) == (doms.length : Int)) = false := by simp; omega
        have l2 : ((row.length : Int) != (doms.length : Int)) = true := by simp; omega
        have l3 : (row.length == doms.length) = false := by simp; omega
        have l4 : (row.length != doms.length) = true := by simp; omega
        have HLL := hid hll
        clear hll
        go_wp2
        go_returns
        refine ⟨?_, hw⟩
        have h2 : planB doms.length row = false := by simp [planB_eq, HLL.out]
        simp [sharesB, hbad.out h2]
    · obtain rfl : k = plans.length := by omega
      have h1 := ht.out
      rw [List.take_length] at h1
      have H1 := hid h1
      clear h1
      go_wp2
      go_returns
      exact ⟨by simp [sharesB, H1.out, HLEN.out], hw⟩
theorem shared_to {c : Cnf} {r : Bool} (e : sharesB c = r) (w : World) (pv dv : Value) (hc : ConfV w c pv dv) : Calls Tryz.prog 59 #[confV c pv dv] w (Yields w (.bool r)) := e ▸ shared_any w c pv dv hc

set_option maxRecDepth 100000 in
set_option maxHeartbeats 4000000 in
theorem formed_any (w : World) (c : Cnf) (pv dv : Value) (hc : ConfV w c pv dv) :
    Calls Tryz.prog 58 #[confV c pv dv] w (Yields w (.bool (formB c))) := by
  obtain ⟨pp, cp, rfl, hp1, hp2⟩ := hc.plans.shape
  obtain ⟨pd, cd, rfl, hd1, hd2⟩ := hc.doms.shape
  unfold maxLen at hp2 hd2
  have HC := hid hc
  clear hc
  go_enter Tryz.func58, Tryz.ntmps58
  cases hf0 : withB c.frame 1 64
  · have Q0 := hid hf0
    clear hf0
    go_wp2_with (first | (go_at_call 88; (with_reducible refine (cwithin_to Q0.out _).yields ?_); intro p0))
    go_returns
    exact ⟨by simp [formB, Q0.out], (by repeat (first | exact Ext.refl _ | assumption | refine Ext.more ?_ _ | refine Ext.drew ?_ | refine Ext.drewN ?_ _ | refine Ext.alloc ?_ _ | refine Ext.setCell ?_ (by simp; try omega) _ | refine Ext.trans ?_ (by assumption)))⟩
  have Q0 := hid hf0
  clear hf0
  cases hf1 : withB c.epoch 1 8
  · have Q1 := hid hf1
    clear hf1
    go_wp2_with (first | (go_at_call 88; (with_reducible refine (cwithin_to Q0.out _).yields ?_); intro p0) | (go_at_call 88; (with_reducible refine (cwithin_to Q1.out _).yields ?_); intro p1))
    go_returns
    exact ⟨by simp [formB, Q1.out], (by repeat (first | exact Ext.refl _ | assumption | refine Ext.more ?_ _ | refine Ext.drew ?_ | refine Ext.drewN ?_ _ | refine Ext.alloc ?_ _ | refine Ext.setCell ?_ (by simp; try omega) _ | refine Ext.trans ?_ (by assumption)))⟩
  have Q1 := hid hf1
  clear hf1
  cases hf2 : withB c.doms.length 1 6
  · have Q2 := hid hf2
    clear hf2
    go_wp2_with (first | (go_at_call 88; (with_reducible refine (cwithin_to Q0.out _).yields ?_); intro p0) | (go_at_call 88; (with_reducible refine (cwithin_to Q1.out _).yields ?_); intro p1) | (go_at_call 88; (with_reducible refine (cwithin_to Q2.out _).yields ?_); intro p2))
    go_returns
    exact ⟨by simp [formB, Q2.out], (by repeat (first | exact Ext.refl _ | assumption | refine Ext.more ?_ _ | refine Ext.drew ?_ | refine Ext.drewN ?_ _ | refine Ext.alloc ?_ _ | refine Ext.setCell ?_ (by simp; try omega) _ | refine Ext.trans ?_ (by assumption)))⟩
  have Q2 := hid hf2
  clear hf2
  go_wp2_with (first | (go_at_call 88; (with_reducible refine (cwithin_to Q0.out _).yields ?_); intro p0) | (go_at_call 88; (with_reducible refine (cwithin_to Q1.out _).yields ?_); intro p1) | (go_at_call 88; (with_reducible refine (cwithin_to Q2.out _).yields ?_); intro p2))
  have hbx := fun (w' : World) (h : Ext (w.alloc (.cells #[.int .i64 c.frame, .int .i64 c.epoch, .slice pp c.plans.length cp, .slice pd c.doms.length cd] 26 (0, 0))) w') =>
    And.intro (boxed h 0 (by simp)) (And.intro (boxed h 1 (by simp)) (And.intro (boxed h 2 (by simp)) (boxed h 3 (by simp))))
  have hx0 : Ext w (w.alloc (.cells #[.int .i64 c.frame, .int .i64 c.epoch, .slice pp c.plans.length cp, .slice pd c.doms.length cd] 26 (0, 0))) := Ext.alloc (Ext.refl _) _
  generalize w.alloc (.cells #[.int .i64 c.frame, .int .i64 c.epoch, .slice pp c.plans.length cp, .slice pd c.doms.length cd] 26 (0, 0)) = W1 at *
  simp only [List.getElem?_toArray, List.getElem?_cons_succ, List.getElem?_cons_zero] at hbx
  have HBX := hid hbx
  clear hbx
  go_loopw [25] (fun v4 wr => Ext W1 wr ∧ ∃ k : Nat, v4 = .int .i64 k ∧ k ≤ c.doms.length ∧ Hid ((c.doms.take k).all (fun d => isB d.level) = true)) (fun v4 _ => (c.doms.length - intOf v4).toNat)
  case atStart => exact ⟨(by repeat (first | exact Ext.refl _ | refine Ext.more ?_ _)), 0, rfl, by omega, rfl⟩
  case round =>
    obtain ⟨hx, k, rfl, hk, ht⟩ := hrel
    obtain ⟨b0, b1, b2, b3⟩ := HBX.out _ hx
    by_cases hlt : k < c.doms.length
    · obtain ⟨db, doff, rfl, vr, ve, D, DR, DE, _⟩ := HC.out.doms.at k hlt
      obtain ⟨rp, rc, rfl, -, -⟩ := DR.shape
      obtain ⟨ep, ec, rfl, -, -⟩ := DE.shape
      clear DR DE
      have hgood := hid (fun (h : isB c.doms[k].level = true) => (all_take' c.doms (fun d => isB d.level) k hlt ht.out).trans h)
      have hbad := hid (all_bad' c.doms (fun d => isB d.level) k hlt)
      obtain ⟨d0, d1, d2, d3, d4, d5, d6, d7, d8, d9⟩ := D.ext (hx0.trans hx)
      have hdb : db < wr.heap.size := World.block_lt_of_cell? _ _ d0
      clear D
      generalize c.doms[k] = d at *
      have i1 : (k : Int) < c.doms.length := by omega
      cases hl : isB d.level
      · have HL := hid hl
        clear hl
        go_wp2_with (go_at_call 89; refine (cis_to HL.out _).yields ?_; intro p4)
        go_returns
        exact ⟨by simp [formB, hbad.out HL.out], by repeat (first | exact hx0.trans hx | refine Ext.more ?_ _ | refine Ext.alloc ?_ _)⟩
      · have HL := hid hl
        clear hl
        go_wp2_with (go_at_call 89; refine (cis_to HL.out _).yields ?_; intro p4)
        go_roundw
        case rel => exact ⟨by repeat (first | exact hx | refine Ext.more ?_ _ | refine Ext.alloc ?_ _), k + 1, by go_num, by omega, hid (hgood.out HL.out)⟩
        case measure => simp [intOf]; omega
    · obtain rfl : k = c.doms.length := by omega
      have h1 := ht.out
      rw [List.take_length] at h1
      have H1 := hid h1
      clear h1
      go_wp2
      go_returns
      exact ⟨by simp [formB, Q0.out, Q1.out, Q2.out, H1.out], hx0.trans hx⟩
theorem formed_to {c : Cnf} {r : Bool} (e : formB c = r) (w : World) (pv dv : Value) (hc : ConfV w c pv dv) : Calls Tryz.prog 58 #[confV c pv dv] w (Yields w (.bool r)) := e ▸ formed_any w c pv dv hc

set_option maxRecDepth 100000 in
set_option maxHeartbeats 4000000 in
theorem bounded_any (w : World) (c : Cnf) (pv dv : Value) (hc : ConfV w c pv dv) :
    Calls Tryz.prog 60 #[confV c pv dv] w (Yields w (.bool (c.doms.all quotaB))) := by
  obtain ⟨pp, cp, rfl, hp1, hp2⟩ := hc.plans.shape
  obtain ⟨pd, cd, rfl, hd1, hd2⟩ := hc.doms.shape
  unfold maxLen at hp2 hd2
  have HC := hid hc
  clear hc
  go_enter Tryz.func60, Tryz.ntmps60
  go_wp2
  have hbx := fun (w' : World) (h : Ext (w.alloc (.cells #[.int .i64 c.frame, .int .i64 c.epoch, .slice pp c.plans.length cp, .slice pd c.doms.length cd] 26 (0, 0))) w') =>
    And.intro (boxed h 0 (by simp)) (And.intro (boxed h 1 (by simp)) (And.intro (boxed h 2 (by simp)) (boxed h 3 (by simp))))
  have hx0 : Ext w (w.alloc (.cells #[.int .i64 c.frame, .int .i64 c.epoch, .slice pp c.plans.length cp, .slice pd c.doms.length cd] 26 (0, 0))) := Ext.alloc (Ext.refl _) _
  generalize w.alloc (.cells #[.int .i64 c.frame, .int .i64 c.epoch, .slice pp c.plans.length cp, .slice pd c.doms.length cd] 26 (0, 0)) = W1 at *
  simp only [List.getElem?_toArray, List.getElem?_cons_succ, List.getElem?_cons_zero] at hbx
  have HBX := hid hbx
  clear hbx
  go_loopw [8] (fun v4 wr => Ext W1 wr ∧ ∃ k : Nat, v4 = .int .i64 k ∧ k ≤ c.doms.length ∧ Hid ((c.doms.take k).all quotaB = true)) (fun v4 _ => (c.doms.length - intOf v4).toNat)
  case atStart => exact ⟨Ext.refl _, 0, rfl, by omega, rfl⟩
  case round =>
    obtain ⟨hx, k, rfl, hk, ht⟩ := hrel
    obtain ⟨b0, b1, b2, b3⟩ := HBX.out _ hx
    by_cases hlt : k < c.doms.length
    · obtain ⟨db, doff, rfl, vr, ve, D, DR, DE, _⟩ := HC.out.doms.at k hlt
      obtain ⟨rp, rc, rfl, -, -⟩ := DR.shape
      obtain ⟨ep, ec, rfl, -, -⟩ := DE.shape
      clear DR DE
      have hgood := hid (fun (h : quotaB c.doms[k] = true) => (all_take' c.doms quotaB k hlt ht.out).trans h)
      have hbad := hid (all_bad' c.doms quotaB k hlt)
      obtain ⟨d0, d1, d2, d3, d4, d5, d6, d7, d8, d9⟩ := D.ext (hx0.trans hx)
      have hdb : db < wr.heap.size := World.block_lt_of_cell? _ _ d0
      clear D
      generalize c.doms[k] = d at *
      have i1 : (k : Int) < c.doms.length := by omega
      cases hq0 : withB d.threads 1 8
      · have Q0 := hid hq0
        clear hq0
        go_wp2_with (first | (go_at_call 88; (with_reducible refine (cwithin_to Q0.out _).yields ?_); intro p0))
        go_returns
        exact ⟨by simp [hbad.out (by simp [quotaB, Q0.out])], by repeat (first | exact hx0.trans hx | refine Ext.more ?_ _ | refine Ext.alloc ?_ _)⟩
      have Q0 := hid hq0
      clear hq0
      cases hq1 : withB d.groups 0 4
      · have Q1 := hid hq1
        clear hq1
        go_wp2_with (first | (go_at_call 88; (with_reducible refine (cwithin_to Q0.out _).yields ?_); intro p0) | (go_at_call 88; (with_reducible refine (cwithin_to Q1.out _).yields ?_); intro p1))
        go_returns
        exact ⟨by simp [hbad.out (by simp [quotaB, Q0.out, Q1.out])], by repeat (first | exact hx0.trans hx | refine Ext.more ?_ _ | refine Ext.alloc ?_ _)⟩
      have Q1 := hid hq1
      clear hq1
      cases hq2 : withB d.ring 1 16
      · have Q2 := hid hq2
        clear hq2
        go_wp2_with (first | (go_at_call 88; (with_reducible refine (cwithin_to Q0.out _).yields ?_); intro p0) | (go_at_call 88; (with_reducible refine (cwithin_to Q1.out _).yields ?_); intro p1) | (go_at_call 88; (with_reducible refine (cwithin_to Q2.out _).yields ?_); intro p2))
        go_returns
        exact ⟨by simp [hbad.out (by simp [quotaB, Q0.out, Q1.out, Q2.out])], by repeat (first | exact hx0.trans hx | refine Ext.more ?_ _ | refine Ext.alloc ?_ _)⟩
      have Q2 := hid hq2
      clear hq2
      cases hq3 : withB d.sends 0 8
      · have Q3 := hid hq3
        clear hq3
        go_wp2_with (first | (go_at_call 88; (with_reducible refine (cwithin_to Q0.out _).yields ?_); intro p0) | (go_at_call 88; (with_reducible refine (cwithin_to Q1.out _).yields ?_); intro p1) | (go_at_call 88; (with_reducible refine (cwithin_to Q2.out _).yields ?_); intro p2) | (go_at_call 88; (with_reducible refine (cwithin_to Q3.out _).yields ?_); intro p3))
        go_returns
        exact ⟨by simp [hbad.out (by simp [quotaB, Q0.out, Q1.out, Q2.out, Q3.out])], by repeat (first | exact hx0.trans hx | refine Ext.more ?_ _ | refine Ext.alloc ?_ _)⟩
      have Q3 := hid hq3
      clear hq3
      cases hq4 : withB d.box 1 8
      · have Q4 := hid hq4
        clear hq4
        go_wp2_with (first | (go_at_call 88; (with_reducible refine (cwithin_to Q0.out _).yields ?_); intro p0) | (go_at_call 88; (with_reducible refine (cwithin_to Q1.out _).yields ?_); intro p1) | (go_at_call 88; (with_reducible refine (cwithin_to Q2.out _).yields ?_); intro p2) | (go_at_call 88; (with_reducible refine (cwithin_to Q3.out _).yields ?_); intro p3) | (go_at_call 88; (with_reducible refine (cwithin_to Q4.out _).yields ?_); intro p4))
        go_returns
        exact ⟨by simp [hbad.out (by simp [quotaB, Q0.out, Q1.out, Q2.out, Q3.out, Q4.out])], by repeat (first | exact hx0.trans hx | refine Ext.more ?_ _ | refine Ext.alloc ?_ _)⟩
      have Q4 := hid hq4
      clear hq4
      go_wp2_with (first | (go_at_call 88; (with_reducible refine (cwithin_to Q0.out _).yields ?_); intro p0) | (go_at_call 88; (with_reducible refine (cwithin_to Q1.out _).yields ?_); intro p1) | (go_at_call 88; (with_reducible refine (cwithin_to Q2.out _).yields ?_); intro p2) | (go_at_call 88; (with_reducible refine (cwithin_to Q3.out _).yields ?_); intro p3) | (go_at_call 88; (with_reducible refine (cwithin_to Q4.out _).yields ?_); intro p4))
      go_roundw
      case rel => exact ⟨by repeat (first | exact hx | refine Ext.more ?_ _ | refine Ext.alloc ?_ _), k + 1, by go_num, by omega, hid (hgood.out (by simp [quotaB, Q0.out, Q1.out, Q2.out, Q3.out, Q4.out]))⟩
      case measure => simp [intOf]; omega
    · obtain rfl : k = c.doms.length := by omega
      have h1 := ht.out
      rw [List.take_length] at h1
      have H1 := hid h1
      clear h1
      go_wp2
      go_returns
      exact ⟨by simp [H1.out], hx0.trans hx⟩
theorem bounded_to {c : Cnf} {r : Bool} (e : c.doms.all quotaB = r) (w : World) (pv dv : Value) (hc : ConfV w c pv dv) : Calls Tryz.prog 60 #[confV c pv dv] w (Yields w (.bool r)) := e ▸ bounded_any w c pv dv hc
end Go.Proofs.YtmpgeabfogcblaaGreat
