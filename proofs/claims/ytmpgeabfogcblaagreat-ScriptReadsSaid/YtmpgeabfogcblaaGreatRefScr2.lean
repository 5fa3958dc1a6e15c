/- The document's own stream, and what is too wide, as walks. -/
import Derived.Test.YtmpgeabfogcblaaGreatRefScr
import Derived.Test.YtmpgeabfogcblaaGreatRefConf5
import Derived.Test.YtmpgeabfogcblaaGreatWide
namespace Go.Proofs.YtmpgeabfogcblaaGreat
open Go.RowKit

set_option maxRecDepth 100000 in
set_option maxHeartbeats 2000000 in
theorem rstream_any (w : World) (va : Value) (la : List Axn) (ha : AxnsV w va la) :
    Calls Tryz.prog 51 #[va] w (Yields w (.bool (streamB la))) := by
  obtain ⟨pa, ca, rfl, hca, hma⟩ := ha.shape
  unfold maxLen at hma
  have HA := hid ha
  clear ha
  go_enter Tryz.func51, Tryz.ntmps51
  go_wp2
  go_loopw [3] (fun v3 wr => Ext w wr ∧ ∃ k : Nat, v3 = .int .i64 k ∧ k ≤ la.length ∧ Hid ((la.take k).all axnB = true)) (fun v3 _ => (la.length - intOf v3).toNat)
  case atStart => exact ⟨Ext.refl _, 0, rfl, by omega, rfl⟩
  case round =>
    obtain ⟨hx, k, rfl, hk, ht⟩ := hrel
    by_cases hlt : k < la.length
    · obtain ⟨ba, oa, rfl, a0, a1, a2⟩ := HA.out.at k hlt
      have c0 := hx.cell a0
      have c1 := hx.cell a1
      have c2 := hx.cell a2
      have hba : ba < wr.heap.size := World.block_lt_of_cell? _ _ c0
      have hA := hid (all_take la axnB k hlt ht.out)
      have hB := hid (all_bad la axnB k hlt)
      clear a0 a1 a2
      generalize la[k] = x at *
      have i1 : (k : Int) < la.length := by omega
      cases h0 : withB x.op 0 1048576
      · have H0 := hid h0
        clear h0
        go_wp2_with (first | (go_at_call 50; (with_reducible refine (within_to H0.out _).yields ?_); intro p0))
        go_returns
        have h1 := hB.out (by simp [axnB, H0.out])
        exact ⟨by simp [streamB, h1], (by repeat (first | exact Ext.refl _ | assumption | refine Ext.more ?_ _ | refine Ext.drew ?_ | refine Ext.drewN ?_ _ | refine Ext.alloc ?_ _ | refine Ext.setCell ?_ (by simp; try omega) _ | refine Ext.trans ?_ (by assumption)))⟩
      have H0 := hid h0
      clear h0
      cases h1 : withB x.a 0 1048576
      · have H1 := hid h1
        clear h1
        go_wp2_with (first | (go_at_call 50; (with_reducible refine (within_to H0.out _).yields ?_); intro p0) | (go_at_call 50; (with_reducible refine (within_to H1.out _).yields ?_); intro p1))
        go_returns
        have h1 := hB.out (by simp [axnB, H1.out])
        exact ⟨by simp [streamB, h1], (by repeat (first | exact Ext.refl _ | assumption | refine Ext.more ?_ _ | refine Ext.drew ?_ | refine Ext.drewN ?_ _ | refine Ext.alloc ?_ _ | refine Ext.setCell ?_ (by simp; try omega) _ | refine Ext.trans ?_ (by assumption)))⟩
      have H1 := hid h1
      clear h1
      cases h2 : withB x.b 0 1048576
      · have H2 := hid h2
        clear h2
        go_wp2_with (first | (go_at_call 50; (with_reducible refine (within_to H0.out _).yields ?_); intro p0) | (go_at_call 50; (with_reducible refine (within_to H1.out _).yields ?_); intro p1) | (go_at_call 50; (with_reducible refine (within_to H2.out _).yields ?_); intro p2))
        go_returns
        have h1 := hB.out (by simp [axnB, H2.out])
        exact ⟨by simp [streamB, h1], (by repeat (first | exact Ext.refl _ | assumption | refine Ext.more ?_ _ | refine Ext.drew ?_ | refine Ext.drewN ?_ _ | refine Ext.alloc ?_ _ | refine Ext.setCell ?_ (by simp; try omega) _ | refine Ext.trans ?_ (by assumption)))⟩
      have H2 := hid h2
      clear h2
      go_wp2_with (first | (go_at_call 50; (with_reducible refine (within_to H0.out _).yields ?_); intro p0) | (go_at_call 50; (with_reducible refine (within_to H1.out _).yields ?_); intro p1) | (go_at_call 50; (with_reducible refine (within_to H2.out _).yields ?_); intro p2))
      go_roundw
      case rel => exact ⟨(by repeat (first | exact Ext.refl _ | assumption | refine Ext.more ?_ _ | refine Ext.drew ?_ | refine Ext.drewN ?_ _ | refine Ext.alloc ?_ _ | refine Ext.setCell ?_ (by simp; try omega) _ | refine Ext.trans ?_ (by assumption))), k + 1, by go_num, by omega, by unfold Hid; rw [hA.out]; simp [axnB, H0.out, H1.out, H2.out]⟩
      case measure => simp [intOf]; omega
    · obtain rfl : k = la.length := by omega
      have he := ht.out
      rw [List.take_length] at he
      have HE := hid he
      clear he
      go_wp2
      go_returns
      exact ⟨by simp [streamB, HE.out]; omega, hx⟩
theorem rstream_to {la : List Axn} {r : Bool} (e : streamB la = r) (w : World) (va : Value) (ha : AxnsV w va la) :
    Calls Tryz.prog 51 #[va] w (Yields w (.bool r)) := e ▸ rstream_any w va la ha

def wideS (s : Scr) (h : Int) : Bool := decide (h < s.horizon) || decide (10 < s.streams.length) || decide (10 < s.arrivals.length) || wideB s.conf || s.streams.any (fun l => decide (500 < l.length)) || s.arrivals.any (fun l => decide (200 < l.length))
theorem wideS_conf {s : Scr} {h : Int} (e : wideS s h = false) : wideB s.conf = false ∧ s.streams.length ≤ 10 ∧ s.arrivals.length ≤ 10 := by
  simp only [wideS, Bool.or_eq_false_iff, decide_eq_false_iff_not] at e
  exact ⟨e.1.1.2, by omega, by omega⟩
theorem wide_routes20 {c : Cnf} (h : wideB c = false) : ∀ d ∈ c.doms, ∀ r ∈ d.routes, r.length ≤ 20 := by
  simp only [wideB, Bool.or_eq_false_iff, decide_eq_false_iff_not, List.any_eq_false] at h
  obtain ⟨⟨⟨h1, _⟩, _⟩, h2⟩ := h
  intro d hd r hr
  have := h2 d hd
  simp only [wideD, Bool.or_eq_true, not_or, List.any_eq_true, not_exists, not_and, decide_eq_true_eq] at this
  have := this.2 r hr
  omega
end Go.Proofs.YtmpgeabfogcblaaGreat
