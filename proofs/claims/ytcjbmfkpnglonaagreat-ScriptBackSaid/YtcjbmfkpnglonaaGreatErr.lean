/- errors.Is of api's errors, and nil: Go's own text of errors.Is walked. -/
import Derived.Test.YtcjbmfkpnglonaaGreatRows
import Derived.Test.YtcjbmfkpnglonaaGreatLib
import Derived.WalkKit
import Derived.WalkLawsBesides
import Derived.Handy
import Derived.LaidEql
import Derived.Stop.Asserts
import Derived.RowKitTokens
namespace Go.Proofs.YtcjbmfkpnglonaaGreat
open Go.RowKit Go.Extern.Stop Go.Stop Go.Extern

namespace Err
theorem typeOf (v : Value) (w : World) : (Extern.ReflectliteType.typeOf #[.iface 39 v]).run Tryz.prog w = .ok (.iface 112 (.agg #[.pointer (some ⟨0, 39, none⟩)])) w := by kernel_rfl
theorem callTypeOf (v : Value) (w : World) : (callFunc 27 #[.iface 39 v]).run Tryz.prog w = .ok (.value (.iface 112 (.agg #[.pointer (some ⟨0, 39, none⟩)]))) w := by
  rw [@run_callFunc_extern Tryz.prog 27 _ Extern.ReflectliteType.typeOf Tryz.func27 (by kernel_rfl) (by kernel_rfl) (by kernel_rfl) (by kernel_rfl), typeOf]
  rfl
theorem comparable (w : World) : ((Extern.ReflectliteType.method fun t => do Extern.Rtype.noPackHeld "Comparable" t; pure (.bool (← typeInfo t).comparable)) #[.agg #[.pointer (some ⟨0, 39, none⟩)]]).run Tryz.prog w = .ok (.bool true) w := by kernel_rfl
theorem callComparable (w : World) : (callFunc 128 #[.agg #[.pointer (some ⟨0, 39, none⟩)]]).run Tryz.prog w = .ok (.value (.bool true)) w := by
  rw [@run_callFunc_extern Tryz.prog 128 _ (Extern.ReflectliteType.method fun t => do Extern.Rtype.noPackHeld "Comparable" t; pure (.bool (← typeInfo t).comparable)) Tryz.func128 (by kernel_rfl) (by kernel_rfl) (by kernel_rfl) (by kernel_rfl), comparable]
  rfl
theorem methodComparable (v : Value) (w : World) : (Go.method 285 112 v "Comparable").run Tryz.prog w = .ok (128, v) w := by kernel_rfl
theorem comp : (Tryz.prog.info? 39).map (·.comparable) = some true := by kernel_rfl
theorem noIs (v : Value) (xT : TypeId) (w : World) : (Instr.typeAssert (.iface 39 v) xT 114 true).run Tryz.prog w = .ok (.tuple #[.nilIface, .bool false]) w := run_typeAssert_lacksB Tryz.underlying114 (by kernel_rfl) (by kernel_rfl) v xT w
theorem noUnwrap (v : Value) (xT : TypeId) (w : World) : (Instr.typeAssert (.iface 39 v) xT 117 true).run Tryz.prog w = .ok (.tuple #[.nilIface, .bool false]) w := run_typeAssert_lacksB Tryz.underlying117 (by kernel_rfl) (by kernel_rfl) v xT w
theorem noUnwraps (v : Value) (xT : TypeId) (w : World) : (Instr.typeAssert (.iface 39 v) xT 118 true).run Tryz.prog w = .ok (.tuple #[.nilIface, .bool false]) w := run_typeAssert_lacksB Tryz.underlying118 (by kernel_rfl) (by kernel_rfl) v xT w
theorem equalIn (d : Nat) (a b : Int) (w : World) : (Op.equalIn (d + 2) 32 (.iface 39 (.int .i64 a)) (.iface 39 (.int .i64 b))).run Tryz.prog w = .ok (a == b) w := by
  obtain ⟨i, hi, hcmp⟩ := Option.map_eq_some_iff.1 comp
  simp [Op.equalIn, run_underlying Tryz.underlying32, run_underlying Tryz.underlying39, typeInfo, hi, hcmp]
theorem eql (a b : Int) (w : World) : (binOp .eql 32 (.iface 39 (.int .i64 a)) (.iface 39 (.int .i64 b))).run Tryz.prog w = .ok (.bool (a == b)) w := by
  simp only [binOp]
  simp [Op.equal, Op.maxDepth, equalIn 9998 a b w]

set_option maxHeartbeats 1000000 in
theorem is_errno (n m : Int) (w : World) : Calls Tryz.prog 10 #[.iface 39 (.int .i64 n), .iface 39 (.int .i64 m)] w (Yields w (.bool (n == m))) := by
  have tT := fun v => callTypeOf v
  have cT := callComparable
  have mR := methodComparable
  have nE := noIs
  have uE := noUnwrap
  have vE := noUnwraps
  have heq := eql n m w
  cases hq : n == m
  all_goals
    go_enter Tryz.func10, Tryz.ntmps10
    go_wp2
    refine wp_loop_rounds 1 ?_
    rw [rounds_succ]
    go_wp2
    go_returns
    exact ⟨rfl, Ext.refl _⟩

set_option maxHeartbeats 400000 in
theorem is_nil (m : Int) (w : World) : Calls Tryz.prog 10 #[.nilIface, .iface 39 (.int .i64 m)] w (Yields w (.bool false)) := by
  have hn := run_eql_iface_nil_left (P := Tryz.prog) w 39 (.int .i64 m) Tryz.underlying32
  go_enter Tryz.func10, Tryz.ntmps10
  go_wp2
  go_returns
  exact ⟨rfl, Ext.refl _⟩
end Err
end Go.Proofs.YtcjbmfkpnglonaaGreat
