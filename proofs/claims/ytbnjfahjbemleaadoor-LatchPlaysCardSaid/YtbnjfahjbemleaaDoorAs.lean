/- errors.As of api's errors into an api.Errno: Go's own text of errors.As walked; and what the statements' own 'code' comes to. -/
import Derived.Test.YtbnjfahjbemleaaDoorRows
import Derived.Test.YtbnjfahjbemleaaDoorLib
import Derived.WalkKit
import Derived.WalkLawsBesides
import Derived.Handy
import Derived.LaidEql
import Derived.Stop.Asserts
import Derived.RowKitTokens
namespace Go.Proofs.YtbnjfahjbemleaaDoor
open Go.RowKit Go.Extern.Stop Go.Stop Go.Extern

namespace As
/-- reflectlite's Value of a pointer to an api.Errno, of an api.Errno, of what such a pointer leads to. -/
abbrev vPtr (x : Addr) : Value := .agg #[.pointer (some ⟨1, 68, none⟩), .pointer (some x), .int .u64 150]
abbrev vErr (x : Addr) : Value := .agg #[.pointer (some ⟨1, 52, none⟩), .pointer (some x), .int .u64 130]
abbrev vDst (x : Addr) : Value := .agg #[.pointer (some ⟨1, 52, none⟩), .pointer (some x), .int .u64 386]
abbrev tPtr : Value := .iface 88 (.agg #[.pointer (some ⟨1, 68, none⟩)])
abbrev tErr : Value := .iface 88 (.agg #[.pointer (some ⟨1, 52, none⟩)])
abbrev tAny : Value := .iface 88 (.agg #[.pointer (some ⟨1, 38, none⟩)])

theorem valueOfPtr (a : Addr) (w : World) : (callFunc 36 #[.iface 68 (.pointer (some a))]).run Tryd.prog w = .ok (.value (vPtr ⟨w.heap.size, 0, none⟩)) (w.alloc (.cells #[.pointer (some a)] 68)) := by kernel_rfl
theorem valueOfErr (n : Int) (w : World) : (callFunc 36 #[.iface 52 (.int .i64 n)]).run Tryd.prog w = .ok (.value (vErr ⟨w.heap.size, 0, none⟩)) (w.alloc (.cells #[.int .i64 n] 52)) := by kernel_rfl
theorem typeOf (n : Int) (w : World) : (callFunc 28 #[.iface 52 (.int .i64 n)]).run Tryd.prog w = .ok (.value tErr) w := by kernel_rfl
theorem valueType (x : Addr) (w : World) : (callFunc 37 #[vPtr x]).run Tryd.prog w = .ok (.value tPtr) w := by kernel_rfl
theorem kindPtr (w : World) : (callFunc 66 #[.pointer (some ⟨1, 68, none⟩)]).run Tryd.prog w = .ok (.value (.int .u8 22)) w := by kernel_rfl
theorem kindErr (w : World) : (callFunc 66 #[.pointer (some ⟨1, 52, none⟩)]).run Tryd.prog w = .ok (.value (.int .u8 2)) w := by kernel_rfl
theorem typeElem (w : World) : (callFunc 76 #[.agg #[.pointer (some ⟨1, 68, none⟩)]]).run Tryd.prog w = .ok (.value tErr) w := by kernel_rfl
theorem implements (w : World) : (callFunc 77 #[.agg #[.pointer (some ⟨1, 52, none⟩)], tAny]).run Tryd.prog w = .ok (.value (.bool true)) w := by kernel_rfl
theorem assignable (w : World) : (callFunc 74 #[.agg #[.pointer (some ⟨1, 52, none⟩)], tErr]).run Tryd.prog w = .ok (.value (.bool true)) w := by kernel_rfl

theorem loadPtr {a x : Addr} {w : World} (hc : w.cell? x = some (.pointer (some a))) : (loadVar 68 x).run Tryd.prog w = .ok (.pointer (some a)) w := by
  have h : (isAgg 68).run Tryd.prog w = .ok false w := by kernel_rfl
  simp [loadVar, h, go_sem, hc]
theorem loadErr {n : Int} {x : Addr} {w : World} (hc : w.cell? x = some (.int .i64 n)) : (loadVar 52 x).run Tryd.prog w = .ok (.int .i64 n) w := by
  have h : (isAgg 52).run Tryd.prog w = .ok false w := by kernel_rfl
  simp [loadVar, h, go_sem, hc]
theorem partsPtr (x : Addr) (w : World) : (ReflectliteValue.parts (vPtr x)).run Tryd.prog w = .ok (some (68, x, 150)) w := by kernel_rfl
theorem partsErr (x : Addr) (w : World) : (ReflectliteValue.parts (vErr x)).run Tryd.prog w = .ok (some (52, x, 130)) w := by kernel_rfl
theorem partsDst (x : Addr) (w : World) : (ReflectliteValue.parts (vDst x)).run Tryd.prog w = .ok (some (52, x, 386)) w := by kernel_rfl

theorem method_run {Z : Sem Value} {f : TypeId → Addr → Nat → Nat → Sem Value} {v : Value} {t : TypeId} {a : Addr} {fl : Nat} {w : World} (h : (ReflectliteValue.parts v).run Tryd.prog w = .ok (some (t, a, fl)) w) :
    (ReflectliteValue.method Z f #[v]).run Tryd.prog w = (f t a fl (fl % 32)).run Tryd.prog w := by
  show (ReflectliteValue.parts v >>= fun r => match r with | none => Z | some (t, a, fl) => f t a fl (fl % 32)).run Tryd.prog w = _
  simp only [Sem.run_bind, h, Result.andThen_ok]

theorem isNil {a x : Addr} {w : World} (hc : w.cell? x = some (.pointer (some a))) : (callFunc 38 #[vPtr x]).run Tryd.prog w = .ok (.value (.bool false)) w := by
  rw [@run_callFunc_extern Tryd.prog 38 _ (ReflectliteValue.method (ReflectliteValue.valueError "reflectlite.Value.IsNil" 0) ReflectliteValue.isNil) Tryd.func38 (by kernel_rfl) (by kernel_rfl) (by kernel_rfl) (by kernel_rfl)]
  rw [method_run (partsPtr x w)]
  simp [ReflectliteValue.isNil, hc, go_sem]
theorem elemOf (w : World) : (Extern.Rtype.elem? 68).run Tryd.prog w = .ok (some 52) w := by kernel_rfl
theorem mkDst (a : Addr) (w : World) : (ReflectliteValue.mk 52 a 256).run Tryd.prog w = .ok (vDst a) w := by kernel_rfl
theorem elem {a x : Addr} {w : World} (hc : w.cell? x = some (.pointer (some a))) : (callFunc 45 #[vPtr x]).run Tryd.prog w = .ok (.value (vDst a)) w := by
  rw [@run_callFunc_extern Tryd.prog 45 _ (ReflectliteValue.method (ReflectliteValue.valueError "reflectlite.Value.Elem" 0) ReflectliteValue.elem) Tryd.func45 (by kernel_rfl) (by kernel_rfl) (by kernel_rfl) (by kernel_rfl)]
  rw [method_run (partsPtr x w)]
  simp [ReflectliteValue.elem, hc, elemOf, mkDst, ReflectliteValue.flagAddr, go_sem]
theorem direct (w : World) : (Extern.Rtype.directlyAssignable 52 52).run Tryd.prog w = .ok true w := by kernel_rfl
theorem storeErr {n m : Int} {a : Addr} {w : World} (hc : w.cell? a = some (.int .i64 m)) (hf : w.frozen? a = false) : (storeVar 52 a (.int .i64 n)).run Tryd.prog w = .ok () (w.setCell a (.int .i64 n)) := by
  have h : (sizeOf 52).run Tryd.prog w = .ok 1 w := by kernel_rfl
  simp [storeVar, h, Value.cells, go_sem, hc, hf]
theorem set {n m : Int} {a x : Addr} {w : World} (hc : w.cell? a = some (.int .i64 m)) (hf : w.frozen? a = false) (hx : w.cell? x = some (.int .i64 n)) :
    (callFunc 46 #[vDst a, vErr x]).run Tryd.prog w = .ok (.value (.tuple #[])) (w.setCell a (.int .i64 n)) := by
  rw [@run_callFunc_extern Tryd.prog 46 _ ReflectliteValue.set Tryd.func46 (by kernel_rfl) (by kernel_rfl) (by kernel_rfl) (by kernel_rfl)]
  show ((ReflectliteValue.parts (vDst a) >>= fun p => ReflectliteValue.parts (vErr x) >>= fun q => (match (p, q) with
    | (some (dst, a, fl), some (src, b, _)) => do
      if fl / ReflectliteValue.flagAddr % 2 == 0 then unsupported (.noEntry "extern/(internal/reflectlite.Value).Set.unaddressable")
      let val ← loadVar src b
      if ← Extern.Rtype.directlyAssignable dst src then storeVar dst a val
      else if ← Extern.Rtype.implements dst src then
        if (← Extern.Rtype.kind src) == 20 then
          match val with
          | .nilIface => unsupported (.noEntry "extern/reflectlite: a nil value of one interface type handed on as a value of another")
          | _ => storeVar dst a val
        else storeVar dst a (.iface src val)
      else panicString ("reflectlite.Set: value of type " ++ (← Extern.Rtype.spelt src) ++ " is not assignable to type " ++ (← Extern.Rtype.spelt dst))
      pure (.tuple #[])
    | _ => unsupported (.noEntry "extern/(internal/reflectlite.Value).Set.zeroValue") : Sem Value)).run Tryd.prog w).andThen _ = _
  simp [partsDst, partsErr, hx, hc, hf, direct, ReflectliteValue.flagAddr, go_sem]

/-- What errors.As leaves: the number at a, nothing else turned. -/
def Puts (w : World) (a : Addr) (n : Int) (e : Ending) (w' : World) : Prop :=
  e = .returned (.bool true) ∧ w'.cell? a = some (.int .i64 n) ∧ ∀ w0, Ext w0 w → w0.heap.size ≤ a.block → Ext w0 w'

set_option maxHeartbeats 2000000 in
set_option maxRecDepth 100000 in
theorem as_errno (n m : Int) (b : Nat) (x : Addr) (w : World) (hx : w.cell? x = some (.pointer (some ⟨b, 0, none⟩))) (ha : w.cell? ⟨b, 0, none⟩ = some (.int .i64 m)) (hf : w.frozen? ⟨b, 0, none⟩ = false) :
    Calls Tryd.prog 39 #[.iface 52 (.int .i64 n), .iface 68 (.pointer (some ⟨b, 0, none⟩)), vPtr x, tErr] w (Puts w ⟨b, 0, none⟩ n) := by
  have lb : b < w.heap.size := World.block_lt_of_cell? w _ ha
  have lx := World.block_lt_of_cell? w _ hx
  have f1 := typeOf n
  have f2 := assignable
  have f3 := fun (w' : World) (hc : w'.cell? x = some (.pointer (some ⟨b, 0, none⟩))) => elem (a := ⟨b, 0, none⟩) (x := x) (w := w') hc
  have f4 := valueOfErr n
  go_enter Tryd.func39, Tryd.ntmps39
  go_wp2
  refine wp_loop_rounds 1 ?_
  rw [rounds_succ]
  go_wp2
  rw [set (n := n) (m := m) ?h1 ?h2 ?h3]
  case h1 => simp [go_sem, lb, ha]
  case h2 => simp [go_sem, lb, hf]
  case h3 => simp [go_sem]
  go_wp2
  go_returns
  refine ⟨rfl, ?_, fun w0 h0 h1 => ?_⟩
  · simp [go_sem, lb, ha]
  · exact Ext.alloc (Ext.alloc (Ext.setCell h0 h1 _) _) _

set_option maxRecDepth 100000 in
set_option maxHeartbeats 2000000 in
theorem as_any (n m : Int) (b : Nat) (w : World) (hg : w.cell? ⟨0, 0, none⟩ = some tAny) (ha : w.cell? ⟨b, 0, none⟩ = some (.int .i64 m)) (hf : w.frozen? ⟨b, 0, none⟩ = false) :
    Calls Tryd.prog 26 #[.iface 52 (.int .i64 n), .iface 68 (.pointer (some ⟨b, 0, none⟩))] w (Puts w ⟨b, 0, none⟩ n) := by
  have lb : b < w.heap.size := World.block_lt_of_cell? w _ ha
  have l0 : 0 < w.heap.size := World.block_lt_of_cell? w _ hg
  have f1 := valueOfPtr ⟨b, 0, none⟩
  have f2 := valueType
  have f3 := kindPtr
  have f4 := fun (w' : World) (hc : w'.cell? ⟨w.heap.size, 0, none⟩ = some (.pointer (some ⟨b, 0, none⟩))) => isNil (a := ⟨b, 0, none⟩) (x := ⟨w.heap.size, 0, none⟩) (w := w') hc
  have f5 := typeElem
  have f6 := kindErr
  have f7 := implements
  go_enter Tryd.func26, Tryd.ntmps26
  go_wp2_with (go_at_call 39; refine (as_errno n m b _ _ ?_ ?_ ?_).mono ?_; (· simp [go_sem]); (· simp [go_sem, lb, ha]); (· simp [go_sem, lb, hf]); rintro e w' ⟨rfl, h1, h2⟩)
  go_returns
  exact ⟨rfl, h1, fun w0 h0 hb => h2 w0 (Ext.alloc (Ext.alloc h0 _) _) hb⟩

set_option maxHeartbeats 1000000 in
theorem code15_errno (n : Int) (w : World) (hg : w.cell? ⟨0, 0, none⟩ = some tAny) : Calls Tryd.prog 9 #[.iface 52 (.int .i64 n)] w (Yields w (.int .i64 n)) := by
  have l0 : 0 < w.heap.size := World.block_lt_of_cell? w _ hg
  go_enter Tryd.func9, Tryd.ntmps9
  go_wp2_with (go_at_call 26; refine (as_any n 0 _ _ ?_ ?_ ?_).mono ?_; (· simp [go_sem, l0, hg]); (· simp [go_sem]); (· simp [go_sem]); rintro e w' ⟨rfl, h1, h2⟩)
  go_returns
  exact ⟨rfl, h2 w (Ext.alloc (Ext.refl _) _) (Nat.le_refl _)⟩

theorem code15_nil (w : World) : Calls Tryd.prog 9 #[.nilIface] w (Yields w (.int .i64 0)) := by
  go_enter Tryd.func9, Tryd.ntmps9
  go_wp2
  go_returns
  exact ⟨rfl, ext_by⟩
end As
end Go.Proofs.YtbnjfahjbemleaaDoor
