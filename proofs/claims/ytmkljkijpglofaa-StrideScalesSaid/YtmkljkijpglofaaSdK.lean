/- What tontinelaw6's known comes to: true. -/
import Derived.Test.YtmkljkijpglofaaSd0
namespace Go.Proofs.Ytmkljkijpglofaa
open Go.RowKit

theorem k1 : isW 16 = true := by decide
theorem k2 : isW 17 = false := by decide
theorem k3 : ofW 3 = 240240 := by decide
theorem k4 : ofW 0 = 0 := by decide
theorem k5 : (5 : Int) + ofW 16 = 45050 := by decide
theorem k6 : scaleW 30 10 1 2 = 20 := by decide
theorem k7 : scaleW 7 10 1 2 = 7 := by decide
theorem k8 : fairW 2 1 4 2 = true := by decide
theorem k9 : fairW 9 1 2 2 = false := by decide

theorem scaleW_to {p n a b r : Int} (e : scaleW p n a b = r) (ha : isW a = true) (hn : 0 ≤ n) (hn' : n ≤ 1099511627776) (hp : 0 ≤ p) (hp' : p ≤ 1099511627776 + 1099511627776) (w : World) : Calls Try.prog 16 #[.int .i64 p, .int .i64 n, .int .i64 a, .int .i64 b] w (Yields w (.int .i64 r)) := e ▸ scaleW_any p n a b ha hn hn' hp hp' w

set_option maxHeartbeats 1000000 in
theorem known_any (w : World) : Calls Try.prog 7 #[] w (Yields w (.bool true)) := by
  go_enter Try.func7, Try.ntmps7
  go_wp2_with (first
    | (go_at_call 8; (first | (with_reducible refine (isW_to k1 _).yields ?_) | (with_reducible refine (isW_to k2 _).yields ?_)); intro p0)
    | (go_at_call 10; (first | (with_reducible refine (ofW_to k3 _).yields ?_) | (with_reducible refine (ofW_to k4 _).yields ?_)); intro p0)
    | (go_at_call 14; (with_reducible refine (nextW_to (by omega) (by omega) k5 _).yields ?_); intro p0)
    | (go_at_call 16; (first | (with_reducible refine (scaleW_to k6 (by decide) (by omega) (by omega) (by omega) (by omega) _).yields ?_) | (with_reducible refine (scaleW_to k7 (by decide) (by omega) (by omega) (by omega) (by omega) _).yields ?_)); intro p0)
    | (go_at_call 12; (first | (with_reducible refine (fair_to k8 _).yields ?_) | (with_reducible refine (fair_to k9 _).yields ?_)); intro p0))
  all_goals
    go_returns
    exact ⟨by simp, (by repeat (first | exact Ext.refl _ | assumption | refine Ext.more ?_ _ | refine Ext.drew ?_ | refine Ext.drewN ?_ _ | refine Ext.alloc ?_ _ | refine Ext.setCell ?_ (by simp; try omega) _ | refine Ext.trans ?_ (by assumption)))⟩
end Go.Proofs.Ytmkljkijpglofaa
