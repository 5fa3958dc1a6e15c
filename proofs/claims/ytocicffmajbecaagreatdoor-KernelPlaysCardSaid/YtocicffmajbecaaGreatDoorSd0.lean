/- What the functions of package stride come to, and the document's own ones beside them. -/
import Derived.Test.YtocicffmajbecaaGreatDoorRows
import Derived.Test.YtocicffmajbecaaGreatDoorLib
import Derived.Test.YtocicffmajbecaaGreatDoorFl
import Derived.Test.YtocicffmajbecaaGreatDoorWt
import Derived.WalkKit
import Derived.WalkSpells
import Derived.WalkLawsBesides
import Derived.Deep.QuietTactic
import Derived.BigQuiet
import Derived.Deep.RegionHeld3
import Derived.Handy
import Derived.Laws.Externs
import Derived.Deep.CutRange
namespace Go.Proofs.YtocicffmajbecaaGreatDoor
open Go.RowKit
set_option maxHeartbeats 400000 in
theorem isW_any (x : Int) (w : World) : Calls Tryz.prog 77 #[.int .i64 x] w (Yields w (.bool (isW x))) := by
  by_cases h : 1 ≤ x <;>
  · go_enter Tryz.func77,Tryz.ntmps77
    go_wp2
    go_ret
    exact ⟨by simp [isW,h]; try omega,ext_by⟩
theorem isW_to {x : Int} {r : Bool} (e : isW x = r) (w : World) : Calls Tryz.prog 77 #[.int .i64 x] w (Yields w (.bool r)) := e ▸ isW_any x w
set_option maxHeartbeats 400000 in
theorem risW_any (x : Int) (w : World) : Calls Tryz.prog 45 #[.int .i64 x] w (Yields w (.bool (isW x))) := by
  by_cases h : 1 ≤ x <;>
  · go_enter Tryz.func45,Tryz.ntmps45
    go_wp2
    go_ret
    exact ⟨by simp [isW,h]; try omega,ext_by⟩
theorem risW_to {x : Int} {r : Bool} (e : isW x = r) (w : World) : Calls Tryz.prog 45 #[.int .i64 x] w (Yields w (.bool r)) := e ▸ risW_any x w
set_option maxHeartbeats 400000 in
theorem ofW_any (x : Int) (w : World) : Calls Tryz.prog 122 #[.int .i64 x] w (Yields w (.int .i64 (ofW x))) := by
  cases h : isW x
  · have H := hid h
    go_enter Tryz.func122,Tryz.ntmps122
    go_wp2_with (go_at_call 77; refine (isW_to H.out _).yields ?_; intro p)
    go_returns
    exact ⟨by simp [ofW,h],ext_by⟩
  · have H := hid h
    have hb := isW_iff.1 h
    have hz : (x == 0) = false := by rw [beq_eq_false_iff_ne]; omega
    have ho := ofW_bounds x
    have ho2 : ofW x = Int.tdiv 720720 x := by simp [ofW,h]
    go_enter Tryz.func122,Tryz.ntmps122
    go_wp2_with (go_at_call 77; refine (isW_to H.out _).yields ?_; intro p)
    go_returns
    exact ⟨by simp [ho2],ext_by⟩
set_option maxHeartbeats 400000 in
theorem rofW_any (x : Int) (w : World) : Calls Tryz.prog 100 #[.int .i64 x] w (Yields w (.int .i64 (ofW x))) := by
  cases h : isW x
  · have H := hid h
    go_enter Tryz.func100,Tryz.ntmps100
    go_wp2_with (go_at_call 45; refine (risW_to H.out _).yields ?_; intro p)
    go_returns
    exact ⟨by simp [ofW,h],ext_by⟩
  · have H := hid h
    have hb := isW_iff.1 h
    have hz : (x == 0) = false := by rw [beq_eq_false_iff_ne]; omega
    have ho := ofW_bounds x
    have ho2 : ofW x = Int.tdiv 720720 x := by simp [ofW,h]
    go_enter Tryz.func100,Tryz.ntmps100
    go_wp2_with (go_at_call 45; refine (risW_to H.out _).yields ?_; intro p)
    go_returns
    exact ⟨by simp [ho2],ext_by⟩
set_option maxHeartbeats 400000 in
theorem nextW_any (p x : Int) (h0 : -4611686018427387904 ≤ p) (h1 : p ≤ 4611686018427387904) (w : World) : Calls Tryz.prog 106 #[.int .i64 p,.int .i64 x] w (Yields w (.int .i64 (p + ofW x))) := by
  have ho := ofW_bounds x
  go_enter Tryz.func106,Tryz.ntmps106
  go_wp2_with (go_at_call 122; refine (ofW_any _ _).yields ?_; intro p)
  all_goals
    go_returns
    exact ⟨by simp,ext_by⟩
set_option maxHeartbeats 400000 in
theorem rnextW_any (p x : Int) (h0 : -4611686018427387904 ≤ p) (h1 : p ≤ 4611686018427387904) (w : World) : Calls Tryz.prog 72 #[.int .i64 p,.int .i64 x] w (Yields w (.int .i64 (p + ofW x))) := by
  have ho := ofW_bounds x
  go_enter Tryz.func72,Tryz.ntmps72
  go_wp2_with (go_at_call 100; refine (rofW_any _ _).yields ?_; intro p)
  all_goals
    go_returns
    exact ⟨by simp,ext_by⟩
set_option maxHeartbeats 400000 in
theorem scaleW_any (p n a b : Int) (ha : isW a = true) (hn : 0 ≤ n) (hn' : n ≤ 1099511627776) (hp : 0 ≤ p) (hp' : p ≤ 1099511627776 + 1099511627776) (w : World) : Calls Tryz.prog 97 #[.int .i64 p,.int .i64 n,.int .i64 a,.int .i64 b] w (Yields w (.int .i64 (scaleW p n a b))) := by
  have H := hid ha
  by_cases h : p ≤ n
  · go_enter Tryz.func97,Tryz.ntmps97
    go_wp2_with (go_at_call 77; refine (isW_to H.out _).yields ?_; intro p)
    all_goals
      go_returns
      exact ⟨by simp [scaleW,h],ext_by⟩
  · have hw := way_bounds (by omega) hn hp' b
    have hq := ofW_pos ha
    have hq' := ofW_bounds a
    have hb := ofW_bounds b
    have hr := part_bounds hw.1 hq
    have hz : (ofW a == 0) = false := by rw [beq_eq_false_iff_ne]; omega
    have hs : scaleW p n a b = n + Int.tdiv ((p - n) * ofW b) (ofW a) := by simp [scaleW,h]
    have HS := hid hs
    clear hs
    go_enter Tryz.func97,Tryz.ntmps97
    go_wp2_with (first
      | (go_at_call 77; refine (isW_to H.out _).yields ?_; intro p0)
      | (go_at_call 122; refine (ofW_any _ _).yields ?_; intro p0))
    all_goals
      go_returns
      exact ⟨by simp [HS.out],ext_by⟩
set_option maxHeartbeats 400000 in
theorem rscaleW_any (p n a b : Int) (ha : isW a = true) (hn : 0 ≤ n) (hn' : n ≤ 1099511627776) (hp : 0 ≤ p) (hp' : p ≤ 1099511627776 + 1099511627776) (w : World) : Calls Tryz.prog 67 #[.int .i64 p,.int .i64 n,.int .i64 a,.int .i64 b] w (Yields w (.int .i64 (scaleW p n a b))) := by
  by_cases h : p ≤ n
  · go_enter Tryz.func67,Tryz.ntmps67
    go_wp2_with (fail)
    all_goals
      go_returns
      exact ⟨by simp [scaleW,h],ext_by⟩
  · have hw := way_bounds (by omega) hn hp' b
    have hq := ofW_pos ha
    have hq' := ofW_bounds a
    have hb := ofW_bounds b
    have hr := part_bounds hw.1 hq
    have hz : (ofW a == 0) = false := by rw [beq_eq_false_iff_ne]; omega
    have hs : scaleW p n a b = n + Int.tdiv ((p - n) * ofW b) (ofW a) := by simp [scaleW,h]
    have HS := hid hs
    clear hs
    go_enter Tryz.func67,Tryz.ntmps67
    go_wp2_with (go_at_call 100; refine (rofW_any _ _).yields ?_; intro p0)
    all_goals
      go_returns
      exact ⟨by simp [HS.out],ext_by⟩
end Go.Proofs.YtocicffmajbecaaGreatDoor
