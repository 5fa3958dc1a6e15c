/- What conf.Is and conf.Ticks come to. -/
import Derived.Test.YtmpgeabfogcblaaGreatCf1
import Derived.Test.YtmpgeabfogcblaaGreatCf2
import Derived.Test.YtmpgeabfogcblaaGreatErrV
namespace Go.Proofs.YtmpgeabfogcblaaGreat
open Go.RowKit

set_option maxRecDepth 100000 in
set_option maxHeartbeats 8000000 in
theorem routed_any (w : World) (c : Cnf) (pv dv : Value) (hc : ConfV w c pv dv) :
    Calls Tryz.prog 61 #[confV c pv dv] w (Yields w (.bool (domsB c 0 c.doms))) := by
  obtain ⟨pp, cp, rfl, hp1, hp2⟩ := hc.plans.shape
  obtain ⟨pd, cd, rfl, hd1, hd2⟩ := hc.doms.shape
  unfold maxLen at hp2 hd2
  have HC := hid hc
  clear hc
  go_enter Tryz.func61, Tryz.ntmps61
  go_wp2
  have hbx := fun (w' : World) (h : Ext (w.alloc (.cells #[.int .i64 c.frame, .int .i64 c.epoch, .slice pp c.plans.length cp, .slice pd c.doms.length cd] 26 (0, 0))) w') =>
    And.intro (boxed h 0 (by simp)) (And.intro (boxed h 1 (by simp)) (And.intro (boxed h 2 (by simp)) (boxed h 3 (by simp))))
  have hx0 : Ext w (w.alloc (.cells #[.int .i64 c.frame, .int .i64 c.epoch, .slice pp c.plans.length cp, .slice pd c.doms.length cd] 26 (0, 0))) := Ext.alloc (Ext.refl _) _
  generalize w.alloc (.cells #[.int .i64 c.frame, .int .i64 c.epoch, .slice pp c.plans.length cp, .slice pd c.doms.length cd] 26 (0, 0)) = W1 at *
  simp only [List.getElem?_toArray, List.getElem?_cons_succ, List.getElem?_cons_zero] at hbx
  have HBX := hid hbx
  clear hbx
  go_loopw [10] (fun v4 wr => Ext W1 wr ∧ ∃ k : Nat, v4 = .int .i64 k ∧ k ≤ c.doms.length ∧ Hid (∀ j (hj : j < c.doms.length), j < k → domB c j c.doms[j] = true)) (fun v4 _ => (c.doms.length - intOf v4).toNat)
  case atStart => exact ⟨Ext.refl _, 0, rfl, by omega, hid (fun j hj h => by omega)⟩
  case round =>
    obtain ⟨hx, k, rfl, hk, ht⟩ := hrel
    obtain ⟨b0, b1, b2, b3⟩ := HBX.out _ hx
    have hw := hx0.trans hx
    have hbs : w.heap.size < wr.heap.size := World.block_lt_of_cell? _ _ b0
    by_cases hlt : k < c.doms.length
    · have HBAD := hid (domsB_bad' c c.doms 0 rfl k hlt (Nat.zero_le _))
      have HEQ := hid (domC_eq hlt)
      have HNX : Hid (domB c k c.doms[k] = true → ∀ j (hj : j < c.doms.length), j < k + 1 → domB c j c.doms[j] = true) := fun h j hj hlt' => by
        by_cases he : j = k
        · subst he; exact h
        · exact ht.out j hj (by omega)
      have HCW := hid (HC.out.ext hw)
      obtain ⟨db, doff, rfl, vr, ve, D, DR, DE, -⟩ := HC.out.doms.at k hlt
      obtain ⟨rp, rc, rfl, hrc1, hrc2⟩ := DR.shape
      obtain ⟨ep, ec, rfl, -, -⟩ := DE.shape
      unfold maxLen at hrc2
      have DRh := hid DR
      obtain ⟨d0, d1, d2, d3, d4, d5, d6, d7, d8, d9⟩ := D.ext hw
      have hdb : db < wr.heap.size := World.block_lt_of_cell? _ _ d0
      clear D DR DE
      have HG := fun (r : Bool) (h : giveC c.doms c.frame (labAt c.doms k) c.doms[k] = r) => gives_to hlt h
      have HG' := hid HG
      clear HG
      generalize hd : c.doms[k] = d at *
      clear hd
      have i1 : (k : Int) < c.doms.length := by omega
      by_cases h3 : 3 < d.routes.length
      · have i3 : (3 : Int) < d.routes.length := by omega
        have g3 : decide ((3 : Int) < (d.routes.length : Int)) = true := by simpa using i3
        go_wp2_with fail
        go_returns
        refine ⟨?_, by repeat (first | exact hw | refine Ext.more ?_ _ | refine Ext.alloc ?_ _)⟩
        have : domC c k d = false := by unfold domC; rw [decide_eq_false (by omega)]; rfl
        simp [HBAD.out (by rw [HEQ.out, this])]
      have i3 : (d.routes.length : Int) ≤ 3 := by omega
      have g3 : decide ((3 : Int) < (d.routes.length : Int)) = false := by simpa using i3
      cases hg : giveC c.doms c.frame (labAt c.doms k) d
      · have HGV := hid (HG'.out _ hg)
        have HGE := hid hg
        clear hg
        go_wp2_with (go_at_call 91; refine (HGV.out _ _ _ (HCW.out.ext (by repeat (first | exact Ext.refl _ | assumption | refine Ext.more ?_ _ | refine Ext.drew ?_ | refine Ext.drewN ?_ _ | refine Ext.alloc ?_ _ | refine Ext.setCell ?_ (by simp; try omega) _ | refine Ext.trans ?_ (by assumption))))).yields ?_; intro p1)
        go_returns
        refine ⟨?_, by repeat (first | exact hw | refine Ext.more ?_ _ | refine Ext.alloc ?_ _)⟩
        have : domC c k d = false := by unfold domC; rw [HGE.out, Bool.and_false, Bool.false_and]
        simp [HBAD.out (by rw [HEQ.out, this])]
      have HGV := hid (HG'.out _ hg)
      have HGE := hid hg
      clear hg
      go_wp2_with (go_at_call 91; refine (HGV.out _ _ _ (HCW.out.ext (by repeat (first | exact Ext.refl _ | assumption | refine Ext.more ?_ _ | refine Ext.drew ?_ | refine Ext.drewN ?_ _ | refine Ext.alloc ?_ _ | refine Ext.setCell ?_ (by simp; try omega) _ | refine Ext.trans ?_ (by assumption))))).yields ?_; intro p1)
      go_loopw [28] (fun v6 wr => Ext W1 wr ∧ ∃ i : Nat, v6 = .int .i64 i ∧ i ≤ d.routes.length ∧ Hid ((d.routes.take i).all (fun r => !r.isEmpty && riseL c.doms (labAt c.doms k) r) = true)) (fun v6 _ => (d.routes.length - intOf v6).toNat)
      case atStart => exact ⟨(by repeat (first | exact hx | refine Ext.more ?_ _ | refine Ext.alloc ?_ _)), 0, rfl, by omega, rfl⟩
      case round =>
        clear hx hw hbs hdb b0 b1 b2 b3 d0 d1 d2 d3 d4 d5 d6 d7 d8 d9 HCW
        obtain ⟨hx, i, rfl, hi, ha⟩ := hrel
        obtain ⟨b0, b1, b2, b3⟩ := HBX.out _ hx
        have hw := hx0.trans hx
        by_cases hil : i < d.routes.length
        · obtain ⟨rb, ro, rfl, rv, r0, rn⟩ := DRh.out.at i hil
          have hgood := hid (fun (h : (!d.routes[i].isEmpty && riseL c.doms (labAt c.doms k) d.routes[i]) = true) => (all_take' d.routes (fun r => !r.isEmpty && riseL c.doms (labAt c.doms k) r) i hil ha.out).trans h)
          have hbad := hid (all_bad' d.routes (fun r => !r.isEmpty && riseL c.doms (labAt c.doms k) r) i hil)
          generalize d.routes[i] = row at *
          simp only [Nat.mul_one] at r0
          have RN := hid (rn.ext hw)
          have HCW := hid (HC.out.ext hw)
          have e0 := hw.cell r0
          have i2 : (i : Int) < d.routes.length := by omega
          clear rn r0
          cases hr : (!row.isEmpty && riseL c.doms (labAt c.doms k) row)
          · have HR := hid hr
            clear hr
            go_wp2_with (go_at_call 92; refine (rises_to HR.out hlt _ _ _ HCW.out _ RN.out).yields ?_; intro p2)
            go_returns
            refine ⟨?_, hw.more _⟩
            have : domC c k d = false := by unfold domC; rw [hbad.out HR.out, Bool.and_false]
            simp [HBAD.out (by rw [HEQ.out, this])]
          · have HR := hid hr
            clear hr
            go_wp2_with (go_at_call 92; refine (rises_to HR.out hlt _ _ _ HCW.out _ RN.out).yields ?_; intro p2)
            go_roundw
            case rel => exact ⟨hx.more _, i + 1, by go_num, by omega, hid (hgood.out HR.out)⟩
            case measure => simp [intOf]; omega
        · obtain rfl : i = d.routes.length := by omega
          have h1 := ha.out
          rw [List.take_length] at h1
          have H1 := hid h1
          clear h1
          go_wp2
          go_roundw
          case rel => exact ⟨hx, k + 1, by go_num, by omega, hid (HNX.out (by rw [HEQ.out]; unfold domC; rw [HGE.out, H1.out, decide_eq_true (by omega)]; rfl))⟩
          case measure => simp [intOf]; omega
    · obtain rfl : k = c.doms.length := by omega
      go_wp2
      go_returns
      exact ⟨by simp [domsB_all' c c.doms 0 rfl (fun j hj _ => ht.out j hj hj)], hw⟩
theorem routed_to {c : Cnf} {r : Bool} (e : domsB c 0 c.doms = r) (w : World) (pv dv : Value) (hc : ConfV w c pv dv) : Calls Tryz.prog 61 #[confV c pv dv] w (Yields w (.bool r)) := e ▸ routed_any w c pv dv hc

set_option maxRecDepth 100000 in
set_option maxHeartbeats 4000000 in
theorem confIs_any (w : World) (c : Cnf) (pv dv : Value) (hc : ConfV w c pv dv) :
    Calls Tryz.prog 32 #[confV c pv dv] w (Yields w (errV (isConf c))) := by
  obtain ⟨pp, cp, rfl, hp1, hp2⟩ := hc.plans.shape
  obtain ⟨pd, cd, rfl, hd1, hd2⟩ := hc.doms.shape
  unfold maxLen at hp2 hd2
  have HC := hid hc
  clear hc
  go_enter Tryz.func32, Tryz.ntmps32
  cases h0 : formB c
  · have Q0 := hid h0
    clear h0
    go_wp2_with (first | (go_at_call 58; (with_reducible refine (formed_to Q0.out _ _ _ (HC.out.ext (by repeat (first | exact Ext.refl _ | assumption | refine Ext.more ?_ _ | refine Ext.drew ?_ | refine Ext.drewN ?_ _ | refine Ext.alloc ?_ _ | refine Ext.setCell ?_ (by simp; try omega) _ | refine Ext.trans ?_ (by assumption))))).yields ?_); intro p0))
    go_returns
    exact ⟨by simp [isConf, errV, Q0.out], (by repeat (first | exact Ext.refl _ | assumption | refine Ext.more ?_ _ | refine Ext.drew ?_ | refine Ext.drewN ?_ _ | refine Ext.alloc ?_ _ | refine Ext.setCell ?_ (by simp; try omega) _ | refine Ext.trans ?_ (by assumption)))⟩
  have Q0 := hid h0
  clear h0
  cases h1 : sharesB c
  · have Q1 := hid h1
    clear h1
    go_wp2_with (first | (go_at_call 58; (with_reducible refine (formed_to Q0.out _ _ _ (HC.out.ext (by repeat (first | exact Ext.refl _ | assumption | refine Ext.more ?_ _ | refine Ext.drew ?_ | refine Ext.drewN ?_ _ | refine Ext.alloc ?_ _ | refine Ext.setCell ?_ (by simp; try omega) _ | refine Ext.trans ?_ (by assumption))))).yields ?_); intro p0) | (go_at_call 59; (with_reducible refine (shared_to Q1.out _ _ _ (HC.out.ext (by repeat (first | exact Ext.refl _ | assumption | refine Ext.more ?_ _ | refine Ext.drew ?_ | refine Ext.drewN ?_ _ | refine Ext.alloc ?_ _ | refine Ext.setCell ?_ (by simp; try omega) _ | refine Ext.trans ?_ (by assumption))))).yields ?_); intro p1))
    go_returns
    exact ⟨by simp [isConf, errV, Q0.out, Q1.out], (by repeat (first | exact Ext.refl _ | assumption | refine Ext.more ?_ _ | refine Ext.drew ?_ | refine Ext.drewN ?_ _ | refine Ext.alloc ?_ _ | refine Ext.setCell ?_ (by simp; try omega) _ | refine Ext.trans ?_ (by assumption)))⟩
  have Q1 := hid h1
  clear h1
  cases h2 : c.doms.all quotaB
  · have Q2 := hid h2
    clear h2
    go_wp2_with (first | (go_at_call 58; (with_reducible refine (formed_to Q0.out _ _ _ (HC.out.ext (by repeat (first | exact Ext.refl _ | assumption | refine Ext.more ?_ _ | refine Ext.drew ?_ | refine Ext.drewN ?_ _ | refine Ext.alloc ?_ _ | refine Ext.setCell ?_ (by simp; try omega) _ | refine Ext.trans ?_ (by assumption))))).yields ?_); intro p0) | (go_at_call 59; (with_reducible refine (shared_to Q1.out _ _ _ (HC.out.ext (by repeat (first | exact Ext.refl _ | assumption | refine Ext.more ?_ _ | refine Ext.drew ?_ | refine Ext.drewN ?_ _ | refine Ext.alloc ?_ _ | refine Ext.setCell ?_ (by simp; try omega) _ | refine Ext.trans ?_ (by assumption))))).yields ?_); intro p1) | (go_at_call 60; (with_reducible refine (bounded_to Q2.out _ _ _ (HC.out.ext (by repeat (first | exact Ext.refl _ | assumption | refine Ext.more ?_ _ | refine Ext.drew ?_ | refine Ext.drewN ?_ _ | refine Ext.alloc ?_ _ | refine Ext.setCell ?_ (by simp; try omega) _ | refine Ext.trans ?_ (by assumption))))).yields ?_); intro p2))
    go_returns
    exact ⟨by simp [isConf, errV, Q0.out, Q1.out, Q2.out], (by repeat (first | exact Ext.refl _ | assumption | refine Ext.more ?_ _ | refine Ext.drew ?_ | refine Ext.drewN ?_ _ | refine Ext.alloc ?_ _ | refine Ext.setCell ?_ (by simp; try omega) _ | refine Ext.trans ?_ (by assumption)))⟩
  have Q2 := hid h2
  clear h2
  cases h3 : domsB c 0 c.doms
  · have Q3 := hid h3
    clear h3
    go_wp2_with (first | (go_at_call 58; (with_reducible refine (formed_to Q0.out _ _ _ (HC.out.ext (by repeat (first | exact Ext.refl _ | assumption | refine Ext.more ?_ _ | refine Ext.drew ?_ | refine Ext.drewN ?_ _ | refine Ext.alloc ?_ _ | refine Ext.setCell ?_ (by simp; try omega) _ | refine Ext.trans ?_ (by assumption))))).yields ?_); intro p0) | (go_at_call 59; (with_reducible refine (shared_to Q1.out _ _ _ (HC.out.ext (by repeat (first | exact Ext.refl _ | assumption | refine Ext.more ?_ _ | refine Ext.drew ?_ | refine Ext.drewN ?_ _ | refine Ext.alloc ?_ _ | refine Ext.setCell ?_ (by simp; try omega) _ | refine Ext.trans ?_ (by assumption))))).yields ?_); intro p1) | (go_at_call 60; (with_reducible refine (bounded_to Q2.out _ _ _ (HC.out.ext (by repeat (first | exact Ext.refl _ | assumption | refine Ext.more ?_ _ | refine Ext.drew ?_ | refine Ext.drewN ?_ _ | refine Ext.alloc ?_ _ | refine Ext.setCell ?_ (by simp; try omega) _ | refine Ext.trans ?_ (by assumption))))).yields ?_); intro p2) | (go_at_call 61; (with_reducible refine (routed_to Q3.out _ _ _ (HC.out.ext (by repeat (first | exact Ext.refl _ | assumption | refine Ext.more ?_ _ | refine Ext.drew ?_ | refine Ext.drewN ?_ _ | refine Ext.alloc ?_ _ | refine Ext.setCell ?_ (by simp; try omega) _ | refine Ext.trans ?_ (by assumption))))).yields ?_); intro p3))
    go_returns
    exact ⟨by simp [isConf, errV, Q0.out, Q1.out, Q2.out, Q3.out], (by repeat (first | exact Ext.refl _ | assumption | refine Ext.more ?_ _ | refine Ext.drew ?_ | refine Ext.drewN ?_ _ | refine Ext.alloc ?_ _ | refine Ext.setCell ?_ (by simp; try omega) _ | refine Ext.trans ?_ (by assumption)))⟩
  have Q3 := hid h3
  clear h3
  go_wp2_with (first | (go_at_call 58; (with_reducible refine (formed_to Q0.out _ _ _ (HC.out.ext (by repeat (first | exact Ext.refl _ | assumption | refine Ext.more ?_ _ | refine Ext.drew ?_ | refine Ext.drewN ?_ _ | refine Ext.alloc ?_ _ | refine Ext.setCell ?_ (by simp; try omega) _ | refine Ext.trans ?_ (by assumption))))).yields ?_); intro p0) | (go_at_call 59; (with_reducible refine (shared_to Q1.out _ _ _ (HC.out.ext (by repeat (first | exact Ext.refl _ | assumption | refine Ext.more ?_ _ | refine Ext.drew ?_ | refine Ext.drewN ?_ _ | refine Ext.alloc ?_ _ | refine Ext.setCell ?_ (by simp; try omega) _ | refine Ext.trans ?_ (by assumption))))).yields ?_); intro p1) | (go_at_call 60; (with_reducible refine (bounded_to Q2.out _ _ _ (HC.out.ext (by repeat (first | exact Ext.refl _ | assumption | refine Ext.more ?_ _ | refine Ext.drew ?_ | refine Ext.drewN ?_ _ | refine Ext.alloc ?_ _ | refine Ext.setCell ?_ (by simp; try omega) _ | refine Ext.trans ?_ (by assumption))))).yields ?_); intro p2) | (go_at_call 61; (with_reducible refine (routed_to Q3.out _ _ _ (HC.out.ext (by repeat (first | exact Ext.refl _ | assumption | refine Ext.more ?_ _ | refine Ext.drew ?_ | refine Ext.drewN ?_ _ | refine Ext.alloc ?_ _ | refine Ext.setCell ?_ (by simp; try omega) _ | refine Ext.trans ?_ (by assumption))))).yields ?_); intro p3))
  go_returns
  exact ⟨by simp [isConf, errV, Q0.out, Q1.out, Q2.out, Q3.out], (by repeat (first | exact Ext.refl _ | assumption | refine Ext.more ?_ _ | refine Ext.drew ?_ | refine Ext.drewN ?_ _ | refine Ext.alloc ?_ _ | refine Ext.setCell ?_ (by simp; try omega) _ | refine Ext.trans ?_ (by assumption)))⟩
theorem confIs_to {c : Cnf} {n : Nat} (e : isConf c = n) (w : World) (pv dv : Value) (hc : ConfV w c pv dv) : Calls Tryz.prog 32 #[confV c pv dv] w (Yields w (errV n)) := e ▸ confIs_any w c pv dv hc

end Go.Proofs.YtmpgeabfogcblaaGreat
