/- An api error's value. -/
import Derived.Test.YtmpgeabfogcblaaGreatRows
import Derived.Test.YtmpgeabfogcblaaGreatStr
import Derived.WalkKit
namespace Go.Proofs.YtmpgeabfogcblaaGreat
open Go.RowKit

/-- The error of this number, nil for 0. -/
def errV (e : Nat) : Value := if e = 0 then .nilIface else .iface 39 (.int .i64 e)
theorem errV_0 : errV 0 = .nilIface := rfl
theorem errV_pos {e : Nat} (h : e ≠ 0) : errV e = .iface 39 (.int .i64 e) := if_neg h

end Go.Proofs.YtmpgeabfogcblaaGreat
