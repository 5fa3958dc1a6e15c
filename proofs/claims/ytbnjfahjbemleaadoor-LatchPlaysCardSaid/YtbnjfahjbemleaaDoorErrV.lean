/- An api error's value. -/
import Derived.Test.YtbnjfahjbemleaaDoorRows
import Derived.Test.YtbnjfahjbemleaaDoorStr
import Derived.WalkKit
namespace Go.Proofs.YtbnjfahjbemleaaDoor
open Go.RowKit

/-- The error of this number, nil for 0. -/
def errV (e : Nat) : Value := if e = 0 then .nilIface else .iface 52 (.int .i64 e)
theorem errV_0 : errV 0 = .nilIface := rfl
theorem errV_pos {e : Nat} (h : e ≠ 0) : errV e = .iface 52 (.int .i64 e) := if_neg h

end Go.Proofs.YtbnjfahjbemleaaDoor
