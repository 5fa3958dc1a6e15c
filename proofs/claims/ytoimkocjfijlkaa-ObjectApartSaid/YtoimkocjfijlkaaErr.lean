/- errors.Is of api's errors, and nil: Go's own text of errors.Is walked. -/
import Derived.Test.YtoimkocjfijlkaaRows
import Derived.Test.YtoimkocjfijlkaaLib
import Derived.WalkKit
import Derived.WalkLawsBesides
import Derived.Handy
import Derived.LaidEql
import Derived.Stop.Asserts
import Derived.RowKitTokens
namespace Go.Proofs.Ytoimkocjfijlkaa
open Go.RowKit Go.Extern.Stop Go.Stop Go.Extern

namespace Err
theorem typeOf (v : Value) (w : World) : (Extern.ReflectliteType.typeOf #[.iface 44 v]).run Try.prog w = .ok (.iface 62 (.agg #[.pointer (some ⟨0, 44, none⟩)])) w := by kernel_rfl
theorem callTypeOf (v : Value) (w : World) : (callFunc 17 #[.iface 44 v]).run Try.prog w = .ok (.value (.iface 62 (.agg #[.pointer (some ⟨0, 44, none⟩)]))) w := by
  rw [@run_callFunc_extern Try.prog 17 _ Extern.ReflectliteType.typeOf Try.func17 (by kernel_rfl) (by kernel_rfl) (by kernel_rfl) (by kernel_rfl), typeOf]
  rfl
theorem comparable (w : World) : ((Extern.ReflectliteType.method fun t => do Extern.Rtype.noPackHeld "Comparable" t; pure (.bool (← typeInfo t).comparable)) #[.agg #[.pointer (some ⟨0, 44, none⟩)]]).run Try.prog w = .ok (.bool true) w := by kernel_rfl
theorem callComparable (w : World) : (callFunc 38 #[.agg #[.pointer (some ⟨0, 44, none⟩)]]).run Try.prog w = .ok (.value (.bool true)) w := by
  rw [@run_callFunc_extern Try.prog 38 _ (Extern.ReflectliteType.method fun t => do Extern.Rtype.noPackHeld "Comparable" t; pure (.bool (← typeInfo t).comparable)) Try.func38 (by kernel_rfl) (by kernel_rfl) (by kernel_rfl) (by kernel_rfl), comparable]
  rfl
theorem methodComparable (v : Value) (w : World) : (Go.method 205 62 v "Comparable").run Try.prog w = .ok (38, v) w := by kernel_rfl
theorem comp : (Try.prog.info? 44).map (·.comparable) = some true := by kernel_rfl
theorem noIs (v : Value) (xT : TypeId) (w : World) : (Instr.typeAssert (.iface 44 v) xT 64 true).run Try.prog w = .ok (.tuple #[.nilIface, .bool false]) w := run_typeAssert_lacksB Try.underlying64 (by kernel_rfl) (by kernel_rfl) v xT w
theorem noUnwrap (v : Value) (xT : TypeId) (w : World) : (Instr.typeAssert (.iface 44 v) xT 67 true).run Try.prog w = .ok (.tuple #[.nilIface, .bool false]) w := run_typeAssert_lacksB Try.underlying67 (by kernel_rfl) (by kernel_rfl) v xT w
theorem noUnwraps (v : Value) (xT : TypeId) (w : World) : (Instr.typeAssert (.iface 44 v) xT 69 true).run Try.prog w = .ok (.tuple #[.nilIface, .bool false]) w := run_typeAssert_lacksB Try.underlying69 (by kernel_rfl) (by kernel_rfl) v xT w
theorem equalIn (d : Nat) (a b : Int) (w : World) : (Op.equalIn (d + 2) 27 (.iface 44 (.int .i64 a)) (.iface 44 (.int .i64 b))).run Try.prog w = .ok (a == b) w := by
  obtain ⟨i, hi, hcmp⟩ := Option.map_eq_some_iff.1 comp
  simp [Op.equalIn, run_underlying Try.underlying27, run_underlying Try.underlying44, typeInfo, hi, hcmp]
theorem eql (a b : Int) (w : World) : (binOp .eql 27 (.iface 44 (.int .i64 a)) (.iface 44 (.int .i64 b))).run Try.prog w = .ok (.bool (a == b)) w := by
  simp only [binOp]
  simp [Op.equal, Op.maxDepth, equalIn 9998 a b w]

set_option maxHeartbeats 1000000 in
theorem is_errno (n m : Int) (w : World) : Calls Try.prog 13 #[.iface 44 (.int .i64 n), .iface 44 (.int .i64 m)] w (Yields w (.bool (n == m))) := by
  have tT := fun v => callTypeOf v
  have cT := callComparable
  have mR := methodComparable
  have nE := noIs
  have uE := noUnwrap
  have vE := noUnwraps
  have heq := eql n m w
  cases hq : n == m
  all_goals
    go_enter Try.func13, Try.ntmps13
    go_wp2
    refine wp_loop_rounds 1 ?_
    rw [rounds_succ]
    go_wp2
    go_returns
    exact ⟨rfl, Ext.refl _⟩

set_option maxHeartbeats 400000 in
theorem is_nil (m : Int) (w : World) : Calls Try.prog 13 #[.nilIface, .iface 44 (.int .i64 m)] w (Yields w (.bool false)) := by
  have hn := run_eql_iface_nil_left (P := Try.prog) w 44 (.int .i64 m) Try.underlying27
  go_enter Try.func13, Try.ntmps13
  go_wp2
  go_returns
  exact ⟨rfl, Ext.refl _⟩
end Err
theorem is_errno_to {n m : Int} {r : Bool} (e : (n == m) = r) (w : World) : Calls Try.prog 13 #[.iface 44 (.int .i64 n), .iface 44 (.int .i64 m)] w (Yields w (.bool r)) := e ▸ Err.is_errno n m w
end Go.Proofs.Ytoimkocjfijlkaa
