/- An api error's value. -/
import Derived.Test.YtocicffmajbecaaGreatDoorRows
import Derived.Test.YtocicffmajbecaaGreatDoorStr
import Derived.WalkKit
namespace Go.Proofs.YtocicffmajbecaaGreatDoor
open Go.RowKit
def errV (e : Nat) : Value := if e = 0 then .nilIface else .iface 66 (.int .i64 e)
theorem errV_0 : errV 0 = .nilIface := rfl
theorem errV_pos {e : Nat} (h : e ≠ 0) : errV e = .iface 66 (.int .i64 e) := if_neg h
end Go.Proofs.YtocicffmajbecaaGreatDoor
