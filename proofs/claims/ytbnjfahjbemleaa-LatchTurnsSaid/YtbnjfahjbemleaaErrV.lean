/- An api error's value. -/
import Derived.Test.YtbnjfahjbemleaaRows
import Derived.Test.YtbnjfahjbemleaaStr
import Derived.WalkKit
namespace Go.Proofs.Ytbnjfahjbemleaa
open Go.RowKit

/-- The error of this number, nil for 0. -/
def errV (e : Nat) : Value := if e = 0 then .nilIface else .iface 47 (.int .i64 e)
theorem errV_0 : errV 0 = .nilIface := rfl
theorem errV_pos {e : Nat} (h : e ≠ 0) : errV e = .iface 47 (.int .i64 e) := if_neg h

end Go.Proofs.Ytbnjfahjbemleaa
