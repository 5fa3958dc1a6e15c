/- errors.Is of api's errors, and nil: Go's own text of errors.Is walked. -/
import Derived.Test.YtbnjfahjbemleaaDoorRows
import Derived.Test.YtbnjfahjbemleaaDoorLib
import Derived.WalkKit
import Derived.WalkLawsBesides
import Derived.Handy
import Derived.LaidEql
import Derived.Stop.Asserts
import Derived.RowKitTokens
namespace Go.Proofs.YtbnjfahjbemleaaDoor
open Go.RowKit Go.Extern.Stop Go.Stop Go.Extern

namespace Err
theorem typeOf (v : Value) (w : World) : (Extern.ReflectliteType.typeOf #[.iface 52 v]).run Tryd.prog w = .ok (.iface 88 (.agg #[.pointer (some ⟨1, 52, none⟩)])) w := by kernel_rfl
theorem callTypeOf (v : Value) (w : World) : (callFunc 28 #[.iface 52 v]).run Tryd.prog w = .ok (.value (.iface 88 (.agg #[.pointer (some ⟨1, 52, none⟩)]))) w := by
  rw [@run_callFunc_extern Tryd.prog 28 _ Extern.ReflectliteType.typeOf Tryd.func28 (by kernel_rfl) (by kernel_rfl) (by kernel_rfl) (by kernel_rfl), typeOf]
  rfl
theorem comparable (w : World) : ((Extern.ReflectliteType.method fun t => do Extern.Rtype.noPackHeld "Comparable" t; pure (.bool (← typeInfo t).comparable)) #[.agg #[.pointer (some ⟨1, 52, none⟩)]]).run Tryd.prog w = .ok (.bool true) w := by kernel_rfl
theorem callComparable (w : World) : (callFunc 75 #[.agg #[.pointer (some ⟨1, 52, none⟩)]]).run Tryd.prog w = .ok (.value (.bool true)) w := by
  rw [@run_callFunc_extern Tryd.prog 75 _ (Extern.ReflectliteType.method fun t => do Extern.Rtype.noPackHeld "Comparable" t; pure (.bool (← typeInfo t).comparable)) Tryd.func75 (by kernel_rfl) (by kernel_rfl) (by kernel_rfl) (by kernel_rfl), comparable]
  rfl
theorem methodComparable (v : Value) (w : World) : (Go.method 236 88 v "Comparable").run Tryd.prog w = .ok (75, v) w := by kernel_rfl
theorem comp : (Tryd.prog.info? 52).map (·.comparable) = some true := by kernel_rfl
theorem noIs (v : Value) (xT : TypeId) (w : World) : (Instr.typeAssert (.iface 52 v) xT 90 true).run Tryd.prog w = .ok (.tuple #[.nilIface, .bool false]) w := run_typeAssert_lacksB Tryd.underlying90 (by kernel_rfl) (by kernel_rfl) v xT w
theorem noUnwrap (v : Value) (xT : TypeId) (w : World) : (Instr.typeAssert (.iface 52 v) xT 93 true).run Tryd.prog w = .ok (.tuple #[.nilIface, .bool false]) w := run_typeAssert_lacksB Tryd.underlying93 (by kernel_rfl) (by kernel_rfl) v xT w
theorem noUnwraps (v : Value) (xT : TypeId) (w : World) : (Instr.typeAssert (.iface 52 v) xT 95 true).run Tryd.prog w = .ok (.tuple #[.nilIface, .bool false]) w := run_typeAssert_lacksB Tryd.underlying95 (by kernel_rfl) (by kernel_rfl) v xT w
theorem equalIn (d : Nat) (a b : Int) (w : World) : (Op.equalIn (d + 2) 38 (.iface 52 (.int .i64 a)) (.iface 52 (.int .i64 b))).run Tryd.prog w = .ok (a == b) w := by
  obtain ⟨i, hi, hcmp⟩ := Option.map_eq_some_iff.1 comp
  simp [Op.equalIn, run_underlying Tryd.underlying38, run_underlying Tryd.underlying52, typeInfo, hi, hcmp]
theorem eql (a b : Int) (w : World) : (binOp .eql 38 (.iface 52 (.int .i64 a)) (.iface 52 (.int .i64 b))).run Tryd.prog w = .ok (.bool (a == b)) w := by
  simp only [binOp]
  simp [Op.equal, Op.maxDepth, equalIn 9998 a b w]

set_option maxHeartbeats 1000000 in
theorem is_errno (n m : Int) (w : World) : Calls Tryd.prog 20 #[.iface 52 (.int .i64 n), .iface 52 (.int .i64 m)] w (Yields w (.bool (n == m))) := by
  have tT := fun v => callTypeOf v
  have cT := callComparable
  have mR := methodComparable
  have nE := noIs
  have uE := noUnwrap
  have vE := noUnwraps
  have heq := eql n m w
  cases hq : n == m
  all_goals
    go_enter Tryd.func20, Tryd.ntmps20
    go_wp2
    refine wp_loop_rounds 1 ?_
    rw [rounds_succ]
    go_wp2
    go_returns
    exact ⟨rfl, Ext.refl _⟩

set_option maxHeartbeats 400000 in
theorem is_nil (m : Int) (w : World) : Calls Tryd.prog 20 #[.nilIface, .iface 52 (.int .i64 m)] w (Yields w (.bool false)) := by
  have hn := run_eql_iface_nil_left (P := Tryd.prog) w 52 (.int .i64 m) Tryd.underlying38
  go_enter Tryd.func20, Tryd.ntmps20
  go_wp2
  go_returns
  exact ⟨rfl, Ext.refl _⟩
end Err
theorem is_errno_to {n m : Int} {r : Bool} (e : (n == m) = r) (w : World) : Calls Tryd.prog 20 #[.iface 52 (.int .i64 n), .iface 52 (.int .i64 m)] w (Yields w (.bool r)) := e ▸ Err.is_errno n m w
end Go.Proofs.YtbnjfahjbemleaaDoor
