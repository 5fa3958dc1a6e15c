/- What the functions of package stride come to, and the document's own ones beside them. -/
import Derived.Test.YtocicffmajbecaaGreatRows
import Derived.Test.YtocicffmajbecaaGreatLib
import Derived.Test.YtocicffmajbecaaGreatFl
import Derived.Test.YtocicffmajbecaaGreatWt
import Derived.WalkKit
import Derived.WalkSpells
import Derived.WalkLawsBesides
import Derived.Deep.QuietTactic
import Derived.BigQuiet
import Derived.Deep.RegionHeld3
import Derived.Handy
import Derived.Laws.Externs
import Derived.Deep.CutRange
namespace Go.Proofs.YtocicffmajbecaaGreat
open Go.RowKit

set_option maxHeartbeats 400000 in
theorem isW_any (x : Int) (w : World) : Calls Tryz.prog 45 #[.int .i64 x] w (Yields w (.bool (isW x))) := by
  by_cases h : 1 ≤ x <;>
  · go_enter Tryz.func45, Tryz.ntmps45
    go_wp2
    go_ret
    exact ⟨by simp [isW, h]; try omega, (by repeat (first | exact Ext.refl _ | assumption | refine Ext.more ?_ _ | refine Ext.drew ?_ | refine Ext.drewN ?_ _ | refine Ext.alloc ?_ _ | refine Ext.setCell ?_ (by simp; try omega) _ | refine Ext.trans ?_ (by assumption)))⟩
theorem isW_to {x : Int} {r : Bool} (e : isW x = r) (w : World) : Calls Tryz.prog 45 #[.int .i64 x] w (Yields w (.bool r)) := e ▸ isW_any x w

set_option maxHeartbeats 400000 in
theorem ofW_any (x : Int) (w : World) : Calls Tryz.prog 82 #[.int .i64 x] w (Yields w (.int .i64 (ofW x))) := by
  cases h : isW x
  · have H := hid h
    go_enter Tryz.func82, Tryz.ntmps82
    go_wp2_with (go_at_call 45; refine (isW_to H.out _).yields ?_; intro p)
    go_returns
    exact ⟨by simp [ofW, h], (by repeat (first | exact Ext.refl _ | assumption | refine Ext.more ?_ _ | refine Ext.drew ?_ | refine Ext.drewN ?_ _ | refine Ext.alloc ?_ _ | refine Ext.setCell ?_ (by simp; try omega) _ | refine Ext.trans ?_ (by assumption)))⟩
  · have H := hid h
    have hb := isW_iff.1 h
    have hz : (x == 0) = false := by rw [beq_eq_false_iff_ne]; omega
    have ho := ofW_bounds x
    have ho2 : ofW x = Int.tdiv 720720 x := by simp [ofW, h]
    go_enter Tryz.func82, Tryz.ntmps82
    go_wp2_with (go_at_call 45; refine (isW_to H.out _).yields ?_; intro p)
    go_returns
    exact ⟨by simp [ho2], (by repeat (first | exact Ext.refl _ | assumption | refine Ext.more ?_ _ | refine Ext.drew ?_ | refine Ext.drewN ?_ _ | refine Ext.alloc ?_ _ | refine Ext.setCell ?_ (by simp; try omega) _ | refine Ext.trans ?_ (by assumption)))⟩
theorem ofW_to {x r : Int} (e : ofW x = r) (w : World) : Calls Tryz.prog 82 #[.int .i64 x] w (Yields w (.int .i64 r)) := e ▸ ofW_any x w

set_option maxHeartbeats 400000 in
theorem nextW_any (p x : Int) (h0 : -4611686018427387904 ≤ p) (h1 : p ≤ 4611686018427387904) (w : World) : Calls Tryz.prog 60 #[.int .i64 p, .int .i64 x] w (Yields w (.int .i64 (p + ofW x))) := by
  have ho := ofW_bounds x
  go_enter Tryz.func60, Tryz.ntmps60
  go_wp2_with (go_at_call 82; refine (ofW_any _ _).yields ?_; intro p)
  all_goals
    go_returns
    exact ⟨by simp, (by repeat (first | exact Ext.refl _ | assumption | refine Ext.more ?_ _ | refine Ext.drew ?_ | refine Ext.drewN ?_ _ | refine Ext.alloc ?_ _ | refine Ext.setCell ?_ (by simp; try omega) _ | refine Ext.trans ?_ (by assumption)))⟩
theorem nextW_to {p x r : Int} (h0 : -4611686018427387904 ≤ p) (h1 : p ≤ 4611686018427387904) (e : p + ofW x = r) (w : World) : Calls Tryz.prog 60 #[.int .i64 p, .int .i64 x] w (Yields w (.int .i64 r)) := e ▸ nextW_any p x h0 h1 w



end Go.Proofs.YtocicffmajbecaaGreat
