/- Actions, arrivals held against each other. -/
import Derived.Test.YtmpgeabfogcblaaGreatScr
import Derived.WalkKit
import Derived.WalkSpells
import Derived.WalkLawsBesides
import Derived.Handy
namespace Go.Proofs.YtmpgeabfogcblaaGreat
open Go.RowKit

def eq3 (a b c d e f : Int) : Bool := a == d && b == e && c == f
def eq2 (a b d e : Int) : Bool := a == d && b == e
theorem eq3_axn (x y : Axn) : eq3 x.op x.a x.b y.op y.a y.b = decide (x = y) := by
  cases x; cases y
  rw [eq3, Bool.eq_iff_iff]
  simp [and_assoc]
theorem eq2_arv (x y : Arv) : eq2 x.tick x.obj y.tick y.obj = decide (x = y) := by
  cases x; cases y
  rw [eq2, Bool.eq_iff_iff]
  simp
@[go_sem high] theorem run_neq_axn (a b c d e f : Int) (w : World) : (binOp .neq 43 (.agg #[.int .i64 a, .int .i64 b, .int .i64 c]) (.agg #[.int .i64 d, .int .i64 e, .int .i64 f])).run Tryz.prog w = .ok (.bool (!eq3 a b c d e f)) w := by
  by_cases h1 : a = d <;> by_cases h2 : b = e <;> by_cases h3 : c = f <;> simp [eq3, h1, h2, h3, go_sem]
@[go_sem high] theorem run_neq_arv (a b d e : Int) (w : World) : (binOp .neq 46 (.agg #[.int .i64 a, .int .i64 b]) (.agg #[.int .i64 d, .int .i64 e])).run Tryz.prog w = .ok (.bool (!eq2 a b d e)) w := by
  by_cases h1 : a = d <;> by_cases h2 : b = e <;> simp [eq2, h1, h2, go_sem]
end Go.Proofs.YtmpgeabfogcblaaGreat
