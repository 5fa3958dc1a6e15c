/- errors.Is of api's errors, and nil: Go's own text of errors.Is walked. -/
import Derived.Test.YtocicffmajbecaaGreatDoorRows
import Derived.Test.YtocicffmajbecaaGreatDoorLib
import Derived.WalkKit
import Derived.WalkLawsBesides
import Derived.Handy
import Derived.LaidEql
import Derived.Stop.Asserts
import Derived.RowKitTokens
namespace Go.Proofs.YtocicffmajbecaaGreatDoor
open Go.RowKit Go.Extern.Stop Go.Stop Go.Extern
namespace Err
theorem typeOf (v : Value) (w : World) : (Extern.ReflectliteType.typeOf #[.iface 66 v]).run Tryz.prog w = .ok (.iface 162 (.agg #[.pointer (some ⟨1,66,none⟩)])) w := by kernel_rfl
theorem callTypeOf (v : Value) (w : World) : (callFunc 74 #[.iface 66 v]).run Tryz.prog w = .ok (.value (.iface 162 (.agg #[.pointer (some ⟨1,66,none⟩)]))) w := by
  rw [@run_callFunc_extern Tryz.prog 74 _ Extern.ReflectliteType.typeOf Tryz.func74 (by kernel_rfl) (by kernel_rfl) (by kernel_rfl) (by kernel_rfl),typeOf]
  rfl
theorem comparable (w : World) : ((Extern.ReflectliteType.method fun t => do Extern.Rtype.noPackHeld "Comparable" t; pure (.bool (← typeInfo t).comparable)) #[.agg #[.pointer (some ⟨1,66,none⟩)]]).run Tryz.prog w = .ok (.bool true) w := by kernel_rfl
theorem callComparable (w : World) : (callFunc 181 #[.agg #[.pointer (some ⟨1,66,none⟩)]]).run Tryz.prog w = .ok (.value (.bool true)) w := by
  rw [@run_callFunc_extern Tryz.prog 181 _ (Extern.ReflectliteType.method fun t => do Extern.Rtype.noPackHeld "Comparable" t; pure (.bool (← typeInfo t).comparable)) Tryz.func181 (by kernel_rfl) (by kernel_rfl) (by kernel_rfl) (by kernel_rfl),comparable]
  rfl
theorem methodComparable (v : Value) (w : World) : (Go.method 345 162 v "Comparable").run Tryz.prog w = .ok (181,v) w := by kernel_rfl
theorem comp : (Tryz.prog.info? 66).map (·.comparable) = some true := by kernel_rfl
theorem noIs (v : Value) (xT : TypeId) (w : World) : (Instr.typeAssert (.iface 66 v) xT 164 true).run Tryz.prog w = .ok (.tuple #[.nilIface,.bool false]) w := run_typeAssert_lacksB Tryz.underlying164 (by kernel_rfl) (by kernel_rfl) v xT w
theorem noUnwrap (v : Value) (xT : TypeId) (w : World) : (Instr.typeAssert (.iface 66 v) xT 167 true).run Tryz.prog w = .ok (.tuple #[.nilIface,.bool false]) w := run_typeAssert_lacksB Tryz.underlying167 (by kernel_rfl) (by kernel_rfl) v xT w
theorem noUnwraps (v : Value) (xT : TypeId) (w : World) : (Instr.typeAssert (.iface 66 v) xT 169 true).run Tryz.prog w = .ok (.tuple #[.nilIface,.bool false]) w := run_typeAssert_lacksB Tryz.underlying169 (by kernel_rfl) (by kernel_rfl) v xT w
theorem equalIn (d : Nat) (a b : Int) (w : World) : (Op.equalIn (d + 2) 31 (.iface 66 (.int .i64 a)) (.iface 66 (.int .i64 b))).run Tryz.prog w = .ok (a == b) w := by
  obtain ⟨i,hi,hcmp⟩ := Option.map_eq_some_iff.1 comp
  simp [Op.equalIn,run_underlying Tryz.underlying31,run_underlying Tryz.underlying66,typeInfo,hi,hcmp]
theorem eql (a b : Int) (w : World) : (binOp .eql 31 (.iface 66 (.int .i64 a)) (.iface 66 (.int .i64 b))).run Tryz.prog w = .ok (.bool (a == b)) w := by
  simp only [binOp]
  simp [Op.equal,Op.maxDepth,equalIn 9998 a b w]
set_option maxHeartbeats 1000000 in
theorem is_errno (n m : Int) (w : World) : Calls Tryz.prog 34 #[.iface 66 (.int .i64 n),.iface 66 (.int .i64 m)] w (Yields w (.bool (n == m))) := by
  have tT := fun v => callTypeOf v
  have cT := callComparable
  have mR := methodComparable
  have nE := noIs
  have uE := noUnwrap
  have vE := noUnwraps
  have heq := eql n m w
  cases hq : n == m
  all_goals
    go_enter Tryz.func34,Tryz.ntmps34
    go_wp2
    refine wp_loop_rounds 1 ?_
    rw [rounds_succ]
    go_wp2
    go_returns
    exact ⟨rfl,Ext.refl _⟩
end Err
theorem is_errno_to {n m : Int} {r : Bool} (e : (n == m) = r) (w : World) : Calls Tryz.prog 34 #[.iface 66 (.int .i64 n),.iface 66 (.int .i64 m)] w (Yields w (.bool r)) := e ▸ Err.is_errno n m w
end Go.Proofs.YtocicffmajbecaaGreatDoor
