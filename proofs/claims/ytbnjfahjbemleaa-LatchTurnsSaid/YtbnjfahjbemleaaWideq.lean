/- How wide a configuration is (tontinehelp's WideConf), as a walk. -/
import Derived.Test.YtbnjfahjbemleaaRefAll
namespace Go.Proofs.Ytbnjfahjbemleaa
open Go.RowKit

def wideD (d : Dom) : Bool := decide (10 < d.routes.length) || decide (10 < d.release.length) || d.routes.any (fun r => decide (20 < r.length))
def wideB (c : Cnf) : Bool := decide (10 < c.doms.length) || decide (10 < c.plans.length) || c.plans.any (fun p => decide (20 < p.length)) || c.doms.any wideD
theorem wide_routes {c : Cnf} (h : wideB c = false) : c.doms.length ≤ 10 ∧ ∀ d ∈ c.doms, ∀ r ∈ d.routes, r.length ≤ 300 := by
  simp only [wideB, Bool.or_eq_false_iff, decide_eq_false_iff_not, List.any_eq_false] at h
  obtain ⟨⟨⟨h1, _⟩, _⟩, h2⟩ := h
  refine ⟨by omega, fun d hd r hr => ?_⟩
  have := h2 d hd
  simp only [wideD, Bool.or_eq_true, not_or, List.any_eq_true, not_exists, not_and, decide_eq_true_eq] at this
  have := this.2 r hr
  omega
theorem any_good {α : Type} (l : List α) (f : α → Bool) (k : Nat) (h : k < l.length) (hf : f l[k] = true) : l.any f = true := List.any_eq_true.2 ⟨l[k], List.getElem_mem h, hf⟩
theorem any_none {α : Type} (l : List α) (f : α → Bool) (k : Nat) (h : k < l.length) (ht : (l.take k).any f = false) (hf : f l[k] = false) : (l.take (k + 1)).any f = false := by
  rw [any_take l f k h, ht, hf]; rfl

set_option maxRecDepth 100000 in
set_option maxHeartbeats 4000000 in
theorem wide_any (w : World) (c : Cnf) (pv dv : Value) (hc : ConfV w c pv dv) :
    Calls Try.prog 14 #[confV c pv dv] w (Yields w (.bool (wideB c))) := by
  obtain ⟨pp, cp, rfl, hp1, hp2⟩ := hc.plans.shape
  obtain ⟨pd, cd, rfl, hd1, hd2⟩ := hc.doms.shape
  unfold maxLen at hp2 hd2
  have HC := hid hc
  clear hc
  by_cases hl1 : 10 < c.doms.length
  · go_enter Try.func14, Try.ntmps14
    go_wp2
    go_returns
    exact ⟨by simp [wideB, hl1], ext_by⟩
  by_cases hl2 : 10 < c.plans.length
  · have k1 : (c.doms.length : Int) ≤ 10 := by omega
    have k2 : decide ((10 : Int) < (c.doms.length : Int)) = false := by simpa using k1
    go_enter Try.func14, Try.ntmps14
    go_wp2
    go_returns
    exact ⟨by simp [wideB, hl2], ext_by⟩
  have k1 : (c.doms.length : Int) ≤ 10 := by omega
  have k2 : decide ((10 : Int) < (c.doms.length : Int)) = false := by simpa using k1
  have k3 : (c.plans.length : Int) ≤ 10 := by omega
  have k4 : decide ((10 : Int) < (c.plans.length : Int)) = false := by simpa using k3
  go_enter Try.func14, Try.ntmps14
  go_wp2_with fail
  have hb2 := box_cells (w := w) (cs := #[.int .i64 c.frame, .int .i64 c.epoch, .slice pp c.plans.length cp, .slice pd c.doms.length cd]) (T := 29) (Ext.refl _) 2 (by simp)
  have hb3 := box_cells (w := w) (cs := #[.int .i64 c.frame, .int .i64 c.epoch, .slice pp c.plans.length cp, .slice pd c.doms.length cd]) (T := 29) (Ext.refl _) 3 (by simp)
  have hx0 : Ext w (w.alloc (.cells #[.int .i64 c.frame, .int .i64 c.epoch, .slice pp c.plans.length cp, .slice pd c.doms.length cd] 29 (0, 0))) := Ext.alloc (Ext.refl _) _
  generalize w.alloc (.cells #[.int .i64 c.frame, .int .i64 c.epoch, .slice pp c.plans.length cp, .slice pd c.doms.length cd] 29 (0, 0)) = W1 at *
  simp only [List.getElem?_toArray, List.getElem?_cons_succ, List.getElem?_cons_zero] at hb2 hb3
  go_loop [3] (fun v => ∃ k : Nat, v = .int .i64 k ∧ k ≤ c.plans.length ∧ Hid ((c.plans.take k).any (fun p => decide (20 < p.length)) = false)) (fun v => (c.plans.length - intOf v).toNat)
  case atStart => exact ⟨0, rfl, by omega, rfl⟩
  case round =>
    obtain ⟨k, rfl, hk, ht⟩ := hrel
    by_cases hlt : k < c.plans.length
    · obtain ⟨pb, po, rfl, rv, r0, rn⟩ := HC.out.plans.at k hlt
      obtain ⟨rp, rc, rfl, -, hr2⟩ := rn.shape
      unfold maxLen at hr2
      simp only [Nat.mul_one] at r0
      have e0 := hx0.cell r0
      have hg := hid (any_good c.plans (fun p => decide (20 < p.length)) k hlt)
      have hn := hid (any_none c.plans (fun p => decide (20 < p.length)) k hlt ht.out)
      clear rn r0
      generalize c.plans[k] = row at *
      have i1 : (k : Int) < c.plans.length := by omega
      by_cases h20 : 20 < row.length
      · have h20' : (20 : Int) < row.length := by omega
        go_wp2
        go_returns
        exact ⟨by simp [wideB, hg.out (by simpa using h20)], hx0⟩
      · have h20' : (row.length : Int) ≤ 20 := by omega
        go_wp2
        go_round
        case rel => exact ⟨k + 1, by go_num, by omega, hid (hn.out (by simp; omega))⟩
        case measure => simp [intOf]; omega
    · obtain rfl : k = c.plans.length := by omega
      have hP : Hid (c.plans.any (fun p => decide (20 < p.length)) = false) := by
        have := ht.out
        rwa [List.take_length] at this
      clear ht
      go_wp2_with fail
      go_loop [4] (fun v => ∃ k : Nat, v = .int .i64 k ∧ k ≤ c.doms.length ∧ Hid ((c.doms.take k).any wideD = false)) (fun v => (c.doms.length - intOf v).toNat)
      case atStart => exact ⟨0, rfl, by omega, rfl⟩
      case round =>
        obtain ⟨k, rfl, hk, ht⟩ := hrel
        by_cases hlt : k < c.doms.length
        · obtain ⟨db, doff, rfl, vr, ve, D, DR, DE, _⟩ := HC.out.doms.at k hlt
          obtain ⟨rp, rc, rfl, -, hrc⟩ := DR.shape
          obtain ⟨ep, ec, rfl, -, hec⟩ := DE.shape
          unfold maxLen at hrc hec
          have f2 := hx0.cell D.routes
          have f3 := hx0.cell D.release
          have DRh := hid DR
          have hg := hid (any_good c.doms wideD k hlt)
          have hn := hid (any_none c.doms wideD k hlt ht.out)
          clear D DR DE
          generalize c.doms[k] = d at *
          have i1 : (k : Int) < c.doms.length := by omega
          by_cases h1 : 10 < d.routes.length
          · go_wp2
            go_returns
            exact ⟨by simp [wideB, hg.out (by simp [wideD, h1])], hx0⟩
          have h1' : (d.routes.length : Int) ≤ 10 := by omega
          have h1b : decide ((10 : Int) < (d.routes.length : Int)) = false := by simpa using h1'
          by_cases h2 : 10 < d.release.length
          · go_wp2
            go_returns
            exact ⟨by simp [wideB, hg.out (by simp [wideD, h2])], hx0⟩
          have h2' : (d.release.length : Int) ≤ 10 := by omega
          have h2b : decide ((10 : Int) < (d.release.length : Int)) = false := by simpa using h2'
          go_wp2_with fail
          go_loop [5] (fun v => ∃ j : Nat, v = .int .i64 j ∧ j ≤ d.routes.length ∧ Hid ((d.routes.take j).any (fun r => decide (20 < r.length)) = false)) (fun v => (d.routes.length - intOf v).toNat)
          case atStart => exact ⟨0, rfl, by omega, rfl⟩
          case round =>
            obtain ⟨j, rfl, hj, hjt⟩ := hrel
            by_cases hjl : j < d.routes.length
            · obtain ⟨eb, eo, rfl, rv, s0, sn⟩ := DRh.out.at j hjl
              obtain ⟨np, nc, rfl, -, hn2⟩ := sn.shape
              unfold maxLen at hn2
              simp only [Nat.mul_one] at s0
              have s1 := hx0.cell s0
              have hgj := hid (any_good d.routes (fun r => decide (20 < r.length)) j hjl)
              have hnj := hid (any_none d.routes (fun r => decide (20 < r.length)) j hjl hjt.out)
              clear sn s0
              generalize d.routes[j] = row at *
              have i2 : (j : Int) < d.routes.length := by omega
              by_cases h20 : 20 < row.length
              · have h20' : (20 : Int) < row.length := by omega
                go_wp2
                go_returns
                exact ⟨by simp [wideB, hg.out (by simp [wideD, hgj.out (by simpa using h20)])], hx0⟩
              · have h20' : (row.length : Int) ≤ 20 := by omega
                go_wp2
                go_round
                case rel => exact ⟨j + 1, by go_num, by omega, hid (hnj.out (by simp; omega))⟩
                case measure => simp [intOf]; omega
            · obtain rfl : j = d.routes.length := by omega
              have h3 := hjt.out
              rw [List.take_length] at h3
              have H3 := hid h3
              clear h3 hjt
              go_wp2
              go_round
              case rel => exact ⟨k + 1, by go_num, by omega, hid (hn.out (by simp [wideD, H3.out]; omega))⟩
              case measure => simp [intOf]; omega
        · obtain rfl : k = c.doms.length := by omega
          have h3 := ht.out
          rw [List.take_length] at h3
          have H3 := hid h3
          clear h3 ht
          go_wp2
          go_returns
          exact ⟨by simp [wideB, hP.out, H3.out, hl1, hl2], hx0⟩
theorem wide_to {c : Cnf} {r : Bool} (e : wideB c = r) (w : World) (pv dv : Value) (hc : ConfV w c pv dv) : Calls Try.prog 14 #[confV c pv dv] w (Yields w (.bool r)) := e ▸ wide_any w c pv dv hc
end Go.Proofs.Ytbnjfahjbemleaa
