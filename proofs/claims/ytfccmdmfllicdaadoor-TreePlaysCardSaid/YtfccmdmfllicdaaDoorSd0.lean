/- What the functions of package stride come to, and the document's own ones beside them. -/
import Derived.Test.YtfccmdmfllicdaaDoorRows
import Derived.Test.YtfccmdmfllicdaaDoorLib
import Derived.Test.YtfccmdmfllicdaaDoorFl
import Derived.Test.YtfccmdmfllicdaaDoorWt
import Derived.WalkKit
import Derived.WalkSpells
import Derived.WalkLawsBesides
import Derived.Deep.QuietTactic
import Derived.BigQuiet
import Derived.Deep.RegionHeld3
import Derived.Handy
import Derived.Laws.Externs
import Derived.Deep.CutRange
namespace Go.Proofs.YtfccmdmfllicdaaDoor
open Go.RowKit

set_option maxHeartbeats 400000 in
theorem isW_any (x : Int) (w : World) : Calls Tryd.prog 28 #[.int .i64 x] w (Yields w (.bool (isW x))) := by
  by_cases h : 1 ≤ x <;>
  · go_enter Tryd.func28, Tryd.ntmps28
    go_wp2
    go_ret
    exact ⟨by simp [isW, h]; try omega, (by repeat (first | exact Ext.refl _ | assumption | refine Ext.more ?_ _ | refine Ext.drew ?_ | refine Ext.drewN ?_ _ | refine Ext.alloc ?_ _ | refine Ext.setCell ?_ (by simp; try omega) _ | refine Ext.trans ?_ (by assumption)))⟩
theorem isW_to {x : Int} {r : Bool} (e : isW x = r) (w : World) : Calls Tryd.prog 28 #[.int .i64 x] w (Yields w (.bool r)) := e ▸ isW_any x w

set_option maxHeartbeats 400000 in
theorem risW_any (x : Int) (w : World) : Calls Tryd.prog 32 #[.int .i64 x] w (Yields w (.bool (isW x))) := by
  by_cases h : 1 ≤ x <;>
  · go_enter Tryd.func32, Tryd.ntmps32
    go_wp2
    go_ret
    exact ⟨by simp [isW, h]; try omega, (by repeat (first | exact Ext.refl _ | assumption | refine Ext.more ?_ _ | refine Ext.drew ?_ | refine Ext.drewN ?_ _ | refine Ext.alloc ?_ _ | refine Ext.setCell ?_ (by simp; try omega) _ | refine Ext.trans ?_ (by assumption)))⟩
theorem risW_to {x : Int} {r : Bool} (e : isW x = r) (w : World) : Calls Tryd.prog 32 #[.int .i64 x] w (Yields w (.bool r)) := e ▸ risW_any x w

set_option maxHeartbeats 400000 in
theorem ofW_any (x : Int) (w : World) : Calls Tryd.prog 66 #[.int .i64 x] w (Yields w (.int .i64 (ofW x))) := by
  cases h : isW x
  · have H := hid h
    go_enter Tryd.func66, Tryd.ntmps66
    go_wp2_with (go_at_call 28; refine (isW_to H.out _).yields ?_; intro p)
    go_returns
    exact ⟨by simp [ofW, h], (by repeat (first | exact Ext.refl _ | assumption | refine Ext.more ?_ _ | refine Ext.drew ?_ | refine Ext.drewN ?_ _ | refine Ext.alloc ?_ _ | refine Ext.setCell ?_ (by simp; try omega) _ | refine Ext.trans ?_ (by assumption)))⟩
  · have H := hid h
    have hb := isW_iff.1 h
    have hz : (x == 0) = false := by rw [beq_eq_false_iff_ne]; omega
    have ho := ofW_bounds x
    have ho2 : ofW x = Int.tdiv 720720 x := by simp [ofW, h]
    go_enter Tryd.func66, Tryd.ntmps66
    go_wp2_with (go_at_call 28; refine (isW_to H.out _).yields ?_; intro p)
    go_returns
    exact ⟨by simp [ho2], (by repeat (first | exact Ext.refl _ | assumption | refine Ext.more ?_ _ | refine Ext.drew ?_ | refine Ext.drewN ?_ _ | refine Ext.alloc ?_ _ | refine Ext.setCell ?_ (by simp; try omega) _ | refine Ext.trans ?_ (by assumption)))⟩
theorem ofW_to {x r : Int} (e : ofW x = r) (w : World) : Calls Tryd.prog 66 #[.int .i64 x] w (Yields w (.int .i64 r)) := e ▸ ofW_any x w

set_option maxHeartbeats 400000 in
theorem rofW_any (x : Int) (w : World) : Calls Tryd.prog 67 #[.int .i64 x] w (Yields w (.int .i64 (ofW x))) := by
  cases h : isW x
  · have H := hid h
    go_enter Tryd.func67, Tryd.ntmps67
    go_wp2_with (go_at_call 32; refine (risW_to H.out _).yields ?_; intro p)
    go_returns
    exact ⟨by simp [ofW, h], (by repeat (first | exact Ext.refl _ | assumption | refine Ext.more ?_ _ | refine Ext.drew ?_ | refine Ext.drewN ?_ _ | refine Ext.alloc ?_ _ | refine Ext.setCell ?_ (by simp; try omega) _ | refine Ext.trans ?_ (by assumption)))⟩
  · have H := hid h
    have hb := isW_iff.1 h
    have hz : (x == 0) = false := by rw [beq_eq_false_iff_ne]; omega
    have ho := ofW_bounds x
    have ho2 : ofW x = Int.tdiv 720720 x := by simp [ofW, h]
    go_enter Tryd.func67, Tryd.ntmps67
    go_wp2_with (go_at_call 32; refine (risW_to H.out _).yields ?_; intro p)
    go_returns
    exact ⟨by simp [ho2], (by repeat (first | exact Ext.refl _ | assumption | refine Ext.more ?_ _ | refine Ext.drew ?_ | refine Ext.drewN ?_ _ | refine Ext.alloc ?_ _ | refine Ext.setCell ?_ (by simp; try omega) _ | refine Ext.trans ?_ (by assumption)))⟩
theorem rofW_to {x r : Int} (e : ofW x = r) (w : World) : Calls Tryd.prog 67 #[.int .i64 x] w (Yields w (.int .i64 r)) := e ▸ rofW_any x w

set_option maxHeartbeats 400000 in
theorem nextW_any (p x : Int) (h0 : -4611686018427387904 ≤ p) (h1 : p ≤ 4611686018427387904) (w : World) : Calls Tryd.prog 46 #[.int .i64 p, .int .i64 x] w (Yields w (.int .i64 (p + ofW x))) := by
  have ho := ofW_bounds x
  go_enter Tryd.func46, Tryd.ntmps46
  go_wp2_with (go_at_call 66; refine (ofW_any _ _).yields ?_; intro p)
  all_goals
    go_returns
    exact ⟨by simp, (by repeat (first | exact Ext.refl _ | assumption | refine Ext.more ?_ _ | refine Ext.drew ?_ | refine Ext.drewN ?_ _ | refine Ext.alloc ?_ _ | refine Ext.setCell ?_ (by simp; try omega) _ | refine Ext.trans ?_ (by assumption)))⟩
theorem nextW_to {p x r : Int} (h0 : -4611686018427387904 ≤ p) (h1 : p ≤ 4611686018427387904) (e : p + ofW x = r) (w : World) : Calls Tryd.prog 46 #[.int .i64 p, .int .i64 x] w (Yields w (.int .i64 r)) := e ▸ nextW_any p x h0 h1 w

set_option maxHeartbeats 400000 in
theorem rnextW_any (p x : Int) (h0 : -4611686018427387904 ≤ p) (h1 : p ≤ 4611686018427387904) (w : World) : Calls Tryd.prog 48 #[.int .i64 p, .int .i64 x] w (Yields w (.int .i64 (p + ofW x))) := by
  have ho := ofW_bounds x
  go_enter Tryd.func48, Tryd.ntmps48
  go_wp2_with (go_at_call 67; refine (rofW_any _ _).yields ?_; intro p)
  all_goals
    go_returns
    exact ⟨by simp, (by repeat (first | exact Ext.refl _ | assumption | refine Ext.more ?_ _ | refine Ext.drew ?_ | refine Ext.drewN ?_ _ | refine Ext.alloc ?_ _ | refine Ext.setCell ?_ (by simp; try omega) _ | refine Ext.trans ?_ (by assumption)))⟩
theorem rnextW_to {p x r : Int} (h0 : -4611686018427387904 ≤ p) (h1 : p ≤ 4611686018427387904) (e : p + ofW x = r) (w : World) : Calls Tryd.prog 48 #[.int .i64 p, .int .i64 x] w (Yields w (.int .i64 r)) := e ▸ rnextW_any p x h0 h1 w

set_option maxHeartbeats 400000 in
theorem scaleW_any (p n a b : Int) (ha : isW a = true) (hn : 0 ≤ n) (hn' : n ≤ 1099511627776) (hp : 0 ≤ p) (hp' : p ≤ 1099511627776 + 1099511627776) (w : World) : Calls Tryd.prog 39 #[.int .i64 p, .int .i64 n, .int .i64 a, .int .i64 b] w (Yields w (.int .i64 (scaleW p n a b))) := by
  have H := hid ha
  by_cases h : p ≤ n
  · go_enter Tryd.func39, Tryd.ntmps39
    go_wp2_with (go_at_call 28; refine (isW_to H.out _).yields ?_; intro p)
    all_goals
      go_returns
      exact ⟨by simp [scaleW, h], (by repeat (first | exact Ext.refl _ | assumption | refine Ext.more ?_ _ | refine Ext.drew ?_ | refine Ext.drewN ?_ _ | refine Ext.alloc ?_ _ | refine Ext.setCell ?_ (by simp; try omega) _ | refine Ext.trans ?_ (by assumption)))⟩
  · have hw := way_bounds (by omega) hn hp' b
    have hq := ofW_pos ha
    have hq' := ofW_bounds a
    have hb := ofW_bounds b
    have hr := part_bounds hw.1 hq
    have hz : (ofW a == 0) = false := by rw [beq_eq_false_iff_ne]; omega
    have hs : scaleW p n a b = n + Int.tdiv ((p - n) * ofW b) (ofW a) := by simp [scaleW, h]
    have HS := hid hs
    clear hs
    go_enter Tryd.func39, Tryd.ntmps39
    go_wp2_with (first
      | (go_at_call 28; refine (isW_to H.out _).yields ?_; intro p0)
      | (go_at_call 66; refine (ofW_any _ _).yields ?_; intro p0))
    all_goals
      go_returns
      exact ⟨by simp [HS.out], (by repeat (first | exact Ext.refl _ | assumption | refine Ext.more ?_ _ | refine Ext.drew ?_ | refine Ext.drewN ?_ _ | refine Ext.alloc ?_ _ | refine Ext.setCell ?_ (by simp; try omega) _ | refine Ext.trans ?_ (by assumption)))⟩

set_option maxHeartbeats 400000 in
theorem rscaleW_any (p n a b : Int) (ha : isW a = true) (hn : 0 ≤ n) (hn' : n ≤ 1099511627776) (hp : 0 ≤ p) (hp' : p ≤ 1099511627776 + 1099511627776) (w : World) : Calls Tryd.prog 42 #[.int .i64 p, .int .i64 n, .int .i64 a, .int .i64 b] w (Yields w (.int .i64 (scaleW p n a b))) := by
  by_cases h : p ≤ n
  · go_enter Tryd.func42, Tryd.ntmps42
    go_wp2_with (fail)
    all_goals
      go_returns
      exact ⟨by simp [scaleW, h], (by repeat (first | exact Ext.refl _ | assumption | refine Ext.more ?_ _ | refine Ext.drew ?_ | refine Ext.drewN ?_ _ | refine Ext.alloc ?_ _ | refine Ext.setCell ?_ (by simp; try omega) _ | refine Ext.trans ?_ (by assumption)))⟩
  · have hw := way_bounds (by omega) hn hp' b
    have hq := ofW_pos ha
    have hq' := ofW_bounds a
    have hb := ofW_bounds b
    have hr := part_bounds hw.1 hq
    have hz : (ofW a == 0) = false := by rw [beq_eq_false_iff_ne]; omega
    have hs : scaleW p n a b = n + Int.tdiv ((p - n) * ofW b) (ofW a) := by simp [scaleW, h]
    have HS := hid hs
    clear hs
    go_enter Tryd.func42, Tryd.ntmps42
    go_wp2_with (go_at_call 67; refine (rofW_any _ _).yields ?_; intro p0)
    all_goals
      go_returns
      exact ⟨by simp [HS.out], (by repeat (first | exact Ext.refl _ | assumption | refine Ext.more ?_ _ | refine Ext.drew ?_ | refine Ext.drewN ?_ _ | refine Ext.alloc ?_ _ | refine Ext.setCell ?_ (by simp; try omega) _ | refine Ext.trans ?_ (by assumption)))⟩


end Go.Proofs.YtfccmdmfllicdaaDoor
