/- What the functions of package stride come to, and the document's own ones beside them. -/
import Derived.Test.YtfccmdmfllicdaaRows
import Derived.Test.YtfccmdmfllicdaaLib
import Derived.Test.YtfccmdmfllicdaaFl
import Derived.Test.YtfccmdmfllicdaaWt
import Derived.WalkKit
import Derived.WalkSpells
import Derived.WalkLawsBesides
import Derived.Deep.QuietTactic
import Derived.BigQuiet
import Derived.Deep.RegionHeld3
import Derived.Handy
import Derived.Laws.Externs
import Derived.Deep.CutRange
namespace Go.Proofs.Ytfccmdmfllicdaa
open Go.RowKit

set_option maxHeartbeats 400000 in
theorem isW_any (x : Int) (w : World) : Calls Try.prog 27 #[.int .i64 x] w (Yields w (.bool (isW x))) := by
  by_cases h : 1 ≤ x <;>
  · go_enter Try.func27, Try.ntmps27
    go_wp2
    go_ret
    exact ⟨by simp [isW, h]; try omega, (by repeat (first | exact Ext.refl _ | assumption | refine Ext.more ?_ _ | refine Ext.drew ?_ | refine Ext.drewN ?_ _ | refine Ext.alloc ?_ _ | refine Ext.setCell ?_ (by simp; try omega) _ | refine Ext.trans ?_ (by assumption)))⟩
theorem isW_to {x : Int} {r : Bool} (e : isW x = r) (w : World) : Calls Try.prog 27 #[.int .i64 x] w (Yields w (.bool r)) := e ▸ isW_any x w

set_option maxHeartbeats 400000 in
theorem risW_any (x : Int) (w : World) : Calls Try.prog 44 #[.int .i64 x] w (Yields w (.bool (isW x))) := by
  by_cases h : 1 ≤ x <;>
  · go_enter Try.func44, Try.ntmps44
    go_wp2
    go_ret
    exact ⟨by simp [isW, h]; try omega, (by repeat (first | exact Ext.refl _ | assumption | refine Ext.more ?_ _ | refine Ext.drew ?_ | refine Ext.drewN ?_ _ | refine Ext.alloc ?_ _ | refine Ext.setCell ?_ (by simp; try omega) _ | refine Ext.trans ?_ (by assumption)))⟩
theorem risW_to {x : Int} {r : Bool} (e : isW x = r) (w : World) : Calls Try.prog 44 #[.int .i64 x] w (Yields w (.bool r)) := e ▸ risW_any x w

set_option maxHeartbeats 400000 in
theorem ofW_any (x : Int) (w : World) : Calls Try.prog 57 #[.int .i64 x] w (Yields w (.int .i64 (ofW x))) := by
  cases h : isW x
  · have H := hid h
    go_enter Try.func57, Try.ntmps57
    go_wp2_with (go_at_call 27; refine (isW_to H.out _).yields ?_; intro p)
    go_returns
    exact ⟨by simp [ofW, h], (by repeat (first | exact Ext.refl _ | assumption | refine Ext.more ?_ _ | refine Ext.drew ?_ | refine Ext.drewN ?_ _ | refine Ext.alloc ?_ _ | refine Ext.setCell ?_ (by simp; try omega) _ | refine Ext.trans ?_ (by assumption)))⟩
  · have H := hid h
    have hb := isW_iff.1 h
    have hz : (x == 0) = false := by rw [beq_eq_false_iff_ne]; omega
    have ho := ofW_bounds x
    have ho2 : ofW x = Int.tdiv 720720 x := by simp [ofW, h]
    go_enter Try.func57, Try.ntmps57
    go_wp2_with (go_at_call 27; refine (isW_to H.out _).yields ?_; intro p)
    go_returns
    exact ⟨by simp [ho2], (by repeat (first | exact Ext.refl _ | assumption | refine Ext.more ?_ _ | refine Ext.drew ?_ | refine Ext.drewN ?_ _ | refine Ext.alloc ?_ _ | refine Ext.setCell ?_ (by simp; try omega) _ | refine Ext.trans ?_ (by assumption)))⟩
theorem ofW_to {x r : Int} (e : ofW x = r) (w : World) : Calls Try.prog 57 #[.int .i64 x] w (Yields w (.int .i64 r)) := e ▸ ofW_any x w

set_option maxHeartbeats 400000 in
theorem rofW_any (x : Int) (w : World) : Calls Try.prog 20 #[.int .i64 x] w (Yields w (.int .i64 (ofW x))) := by
  cases h : isW x
  · have H := hid h
    go_enter Try.func20, Try.ntmps20
    go_wp2_with (go_at_call 44; refine (risW_to H.out _).yields ?_; intro p)
    go_returns
    exact ⟨by simp [ofW, h], (by repeat (first | exact Ext.refl _ | assumption | refine Ext.more ?_ _ | refine Ext.drew ?_ | refine Ext.drewN ?_ _ | refine Ext.alloc ?_ _ | refine Ext.setCell ?_ (by simp; try omega) _ | refine Ext.trans ?_ (by assumption)))⟩
  · have H := hid h
    have hb := isW_iff.1 h
    have hz : (x == 0) = false := by rw [beq_eq_false_iff_ne]; omega
    have ho := ofW_bounds x
    have ho2 : ofW x = Int.tdiv 720720 x := by simp [ofW, h]
    go_enter Try.func20, Try.ntmps20
    go_wp2_with (go_at_call 44; refine (risW_to H.out _).yields ?_; intro p)
    go_returns
    exact ⟨by simp [ho2], (by repeat (first | exact Ext.refl _ | assumption | refine Ext.more ?_ _ | refine Ext.drew ?_ | refine Ext.drewN ?_ _ | refine Ext.alloc ?_ _ | refine Ext.setCell ?_ (by simp; try omega) _ | refine Ext.trans ?_ (by assumption)))⟩
theorem rofW_to {x r : Int} (e : ofW x = r) (w : World) : Calls Try.prog 20 #[.int .i64 x] w (Yields w (.int .i64 r)) := e ▸ rofW_any x w

set_option maxHeartbeats 400000 in
theorem nextW_any (p x : Int) (h0 : -4611686018427387904 ≤ p) (h1 : p ≤ 4611686018427387904) (w : World) : Calls Try.prog 39 #[.int .i64 p, .int .i64 x] w (Yields w (.int .i64 (p + ofW x))) := by
  have ho := ofW_bounds x
  go_enter Try.func39, Try.ntmps39
  go_wp2_with (go_at_call 57; refine (ofW_any _ _).yields ?_; intro p)
  all_goals
    go_returns
    exact ⟨by simp, (by repeat (first | exact Ext.refl _ | assumption | refine Ext.more ?_ _ | refine Ext.drew ?_ | refine Ext.drewN ?_ _ | refine Ext.alloc ?_ _ | refine Ext.setCell ?_ (by simp; try omega) _ | refine Ext.trans ?_ (by assumption)))⟩
theorem nextW_to {p x r : Int} (h0 : -4611686018427387904 ≤ p) (h1 : p ≤ 4611686018427387904) (e : p + ofW x = r) (w : World) : Calls Try.prog 39 #[.int .i64 p, .int .i64 x] w (Yields w (.int .i64 r)) := e ▸ nextW_any p x h0 h1 w

set_option maxHeartbeats 400000 in
theorem scaleW_any (p n a b : Int) (ha : isW a = true) (hn : 0 ≤ n) (hn' : n ≤ 1099511627776) (hp : 0 ≤ p) (hp' : p ≤ 1099511627776 + 1099511627776) (w : World) : Calls Try.prog 33 #[.int .i64 p, .int .i64 n, .int .i64 a, .int .i64 b] w (Yields w (.int .i64 (scaleW p n a b))) := by
  have H := hid ha
  by_cases h : p ≤ n
  · go_enter Try.func33, Try.ntmps33
    go_wp2_with (go_at_call 27; refine (isW_to H.out _).yields ?_; intro p)
    all_goals
      go_returns
      exact ⟨by simp [scaleW, h], (by repeat (first | exact Ext.refl _ | assumption | refine Ext.more ?_ _ | refine Ext.drew ?_ | refine Ext.drewN ?_ _ | refine Ext.alloc ?_ _ | refine Ext.setCell ?_ (by simp; try omega) _ | refine Ext.trans ?_ (by assumption)))⟩
  · have hw := way_bounds (by omega) hn hp' b
    have hq := ofW_pos ha
    have hq' := ofW_bounds a
    have hb := ofW_bounds b
    have hr := part_bounds hw.1 hq
    have hz : (ofW a == 0) = false := by rw [beq_eq_false_iff_ne]; omega
    have hs : scaleW p n a b = n + Int.tdiv ((p - n) * ofW b) (ofW a) := by simp [scaleW, h]
    have HS := hid hs
    clear hs
    go_enter Try.func33, Try.ntmps33
    go_wp2_with (first
      | (go_at_call 27; refine (isW_to H.out _).yields ?_; intro p0)
      | (go_at_call 57; refine (ofW_any _ _).yields ?_; intro p0))
    all_goals
      go_returns
      exact ⟨by simp [HS.out], (by repeat (first | exact Ext.refl _ | assumption | refine Ext.more ?_ _ | refine Ext.drew ?_ | refine Ext.drewN ?_ _ | refine Ext.alloc ?_ _ | refine Ext.setCell ?_ (by simp; try omega) _ | refine Ext.trans ?_ (by assumption)))⟩



set_option maxHeartbeats 1000000 in
theorem rfair_any (n a m b : Int) (w : World) : Calls Try.prog 17 #[.int .i64 n, .int .i64 a, .int .i64 m, .int .i64 b] w (Yields w (.bool (fairW n a m b))) := by
  have ba := ofW_bounds a
  have bb := ofW_bounds b
  have bn := mul_bounds (heldW_bounds n) ba
  have bm := mul_bounds (heldW_bounds m) bb
  have hf : fairW n a m b = (decide (heldW n 1048576 * ofW a - heldW m 1048576 * ofW b ≤ ofW a + ofW b) && decide (-(heldW n 1048576 * ofW a - heldW m 1048576 * ofW b) ≤ ofW a + ofW b)) := by
    unfold fairW; rw [← Bool.decide_and, decide_eq_decide]; omega
  have HF := hid hf
  clear hf
  go_enter Try.func17, Try.ntmps17
  go_upto_region 1 with (fail)
  go_cut [0, 2] from 10 to 42 (fun s0 s2 wx => s0 = .int .i64 (heldW n 1048576) ∧ s2 = .int .i64 (heldW m 1048576) ∧ Ext w wx)
  case first =>
    clear bn bm
    go_wp2
    all_goals
      go_meet
      case rel => exact ⟨by simp [heldW]; try omega, by simp [heldW]; try omega, (by repeat (first | exact Ext.refl _ | assumption | refine Ext.more ?_ _ | refine Ext.drew ?_ | refine Ext.drewN ?_ _ | refine Ext.alloc ?_ _ | refine Ext.setCell ?_ (by simp; try omega) _ | refine Ext.trans ?_ (by assumption)))⟩
  case rest =>
    obtain ⟨rfl, rfl, X⟩ := hcut
    generalize heldW n 1048576 = x at *
    generalize heldW m 1048576 = y at *
    go_wp2_with (go_at_call 20; refine (rofW_any _ _).yields ?_; intro p0)
    all_goals
      go_returns
      exact ⟨by simp [HF.out]; try omega, Ext.trans X (by repeat (first | exact Ext.refl _ | assumption | refine Ext.more ?_ _ | refine Ext.drew ?_ | refine Ext.drewN ?_ _ | refine Ext.alloc ?_ _ | refine Ext.setCell ?_ (by simp; try omega) _ | refine Ext.trans ?_ (by assumption)))⟩
end Go.Proofs.Ytfccmdmfllicdaa
