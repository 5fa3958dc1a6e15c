/- ConfLimits, part D: what is asked of each number. -/
import Derived.Test.YtgcbkhbpbmmfhaaConfLim0
import Derived.Deep.CutRange
import Derived.Deep.RegionHeld3
namespace Go.Proofs.Ytgcbkhbpbmmfhaa
open Go.RowKit

namespace confLimits
def o7 (n : Int) : List RO := setRO baseRO 13 29 (.i n) ++ [varRO]
def c7 (n : Int) : Cnf := ⟨8, 2, [[2, 2, 2, 2], [5, 1, 1, 1]], [⟨0, 0, [[1, 3], [2, 3]], [], -1, 4, 2, 4, 3, 2⟩, ⟨1, 1, [[3]], [0, 1], 0, 4, 2, 4, 3, 2⟩, ⟨1, 2, [[3]], [], -1, 4, 2, 4, 3, n⟩, ⟨2, 3, [], [0, 1, 2], 1, 4, 2, 4, 3, 2⟩]⟩
theorem c7_of (n : Int) : confOf (o7 n) 8 2 (.s 3 2) (.s 13 4) = some (c7 n) := by rfl
set_option maxRecDepth 100000 in
set_option maxHeartbeats 8000000 in
theorem walk7 (which : Int) (hw0 : 0 ≤ which) (hw1 : which ≤ 255) (hr : which % 9 = 7) (up over : Bool) (w : World) :
    Calls Try.prog 3 #[.int .u8 which, .bool up, .bool over] w (Yields w (.bool true)) := by
  go_enter Try.func3, Try.ntmps3
  go_wp2_with (go_at_call 8; refine (known_any _).yields ?_; intro p0)
  refine (base_to _).mono ?_
  rintro e w1 ⟨N, rfl, n1, l1, x1, s1⟩
  have X1 : Ext w w1 := Ext.trans (ext_more _ _) x1
  have HN : Hid (w.heap.size ≤ N) := by have := n1.out; have := (ext_more w p0).size; unfold Hid; omega
  clear x1 n1
  have k0 := l1.at (b := 13) (j := 29) (v := .i 2) rfl
  have f0 := l1.free (b := 13) (j := 29) (v := .i 2) rfl
  simp only [RV.val] at k0
  have i0 : ∀ w', (Instr.index 28 (.agg #[.int .i64 1, .int .i64 1, .int .i64 0, .int .i64 1, .int .i64 0, .int .i64 1, .int .i64 0, .int .i64 1, .int .i64 0]) (.int .u8 7)).run Try.prog w' = .ok (.int .i64 1) w' := fun w' => by kernel_rfl
  have i1 : ∀ w', (Instr.index 28 (.agg #[.int .i64 64, .int .i64 8, .int .i64 1000, .int .i64 8, .int .i64 4, .int .i64 16, .int .i64 8, .int .i64 8, .int .i64 8]) (.int .u8 7)).run Try.prog w' = .ok (.int .i64 8) w' := fun w' => by kernel_rfl
  have i2 : ∀ w', (Instr.index 32 (.agg #[.iface 31 (.int .i64 10), .iface 31 (.int .i64 10), .iface 31 (.int .i64 18), .iface 31 (.int .i64 19), .iface 31 (.int .i64 19), .iface 31 (.int .i64 19), .iface 31 (.int .i64 19), .iface 31 (.int .i64 19), .iface 31 (.int .i64 17)]) (.int .u8 7)).run Try.prog w' = .ok (.iface 31 (.int .i64 19)) w' := fun w' => by kernel_rfl
  cases up <;> cases over
  · go_wp2_with fail
    refine calls_forget (fun v => Lies N (o7 1) v ∧ Ext w v) ⟨(l1.put (b := 13) (j := 29) (v := .i 2) rfl (.i 1) (RV.wf_of rfl)).one (by simp [s1, setRO, baseRO]) varRO rfl, (Ext.setCell X1 (by have := HN.out; simp; omega) _).alloc _⟩ ?_
    rintro v ⟨L, X⟩
    have K := hid (kg_conf L (c7_of 1))
    clear L
    refine (gIs_ok (by rfl) K.out).yields ?_
    intro p1
    go_wp2_with fail
    go_returns
    exact ⟨rfl, (by repeat (first | exact Ext.refl _ | assumption | refine Ext.more ?_ _ | refine Ext.drew ?_ | refine Ext.drewN ?_ _ | refine Ext.alloc ?_ _ | refine Ext.setCell ?_ (by simp; try omega) _ | refine Ext.trans ?_ (by assumption)))⟩
  · go_wp2_with fail
    refine calls_forget (fun v => Lies N (o7 0) v ∧ Ext w v) ⟨(l1.put (b := 13) (j := 29) (v := .i 2) rfl (.i 0) (RV.wf_of rfl)).one (by simp [s1, setRO, baseRO]) varRO rfl, (Ext.setCell X1 (by have := HN.out; simp; omega) _).alloc _⟩ ?_
    rintro v ⟨L, X⟩
    have K := hid (kg_conf L (c7_of 0))
    clear L
    refine (gIs_bad 19 (n := 19) (by rfl) (by decide) rfl K.out).yields ?_
    intro p1
    go_wp2_with (go_at_call 11; (with_reducible refine (is_errno_to (r := true) rfl _).yields ?_); intro p2)
    go_returns
    exact ⟨rfl, (by repeat (first | exact Ext.refl _ | assumption | refine Ext.more ?_ _ | refine Ext.drew ?_ | refine Ext.drewN ?_ _ | refine Ext.alloc ?_ _ | refine Ext.setCell ?_ (by simp; try omega) _ | refine Ext.trans ?_ (by assumption)))⟩
  · go_wp2_with fail
    refine calls_forget (fun v => Lies N (o7 8) v ∧ Ext w v) ⟨(l1.put (b := 13) (j := 29) (v := .i 2) rfl (.i 8) (RV.wf_of rfl)).one (by simp [s1, setRO, baseRO]) varRO rfl, (Ext.setCell X1 (by have := HN.out; simp; omega) _).alloc _⟩ ?_
    rintro v ⟨L, X⟩
    have K := hid (kg_conf L (c7_of 8))
    clear L
    refine (gIs_ok (by rfl) K.out).yields ?_
    intro p1
    go_wp2_with fail
    go_returns
    exact ⟨rfl, (by repeat (first | exact Ext.refl _ | assumption | refine Ext.more ?_ _ | refine Ext.drew ?_ | refine Ext.drewN ?_ _ | refine Ext.alloc ?_ _ | refine Ext.setCell ?_ (by simp; try omega) _ | refine Ext.trans ?_ (by assumption)))⟩
  · go_wp2_with fail
    refine calls_forget (fun v => Lies N (o7 9) v ∧ Ext w v) ⟨(l1.put (b := 13) (j := 29) (v := .i 2) rfl (.i 9) (RV.wf_of rfl)).one (by simp [s1, setRO, baseRO]) varRO rfl, (Ext.setCell X1 (by have := HN.out; simp; omega) _).alloc _⟩ ?_
    rintro v ⟨L, X⟩
    have K := hid (kg_conf L (c7_of 9))
    clear L
    refine (gIs_bad 19 (n := 19) (by rfl) (by decide) rfl K.out).yields ?_
    intro p1
    go_wp2_with (go_at_call 11; (with_reducible refine (is_errno_to (r := true) rfl _).yields ?_); intro p2)
    go_returns
    exact ⟨rfl, (by repeat (first | exact Ext.refl _ | assumption | refine Ext.more ?_ _ | refine Ext.drew ?_ | refine Ext.drewN ?_ _ | refine Ext.alloc ?_ _ | refine Ext.setCell ?_ (by simp; try omega) _ | refine Ext.trans ?_ (by assumption)))⟩
def o8 (n : Int) : List RO := setRO baseRO 12 1 (.i n) ++ [varRO]
def c8 (n : Int) : Cnf := ⟨8, 2, [[2, 2, 2, 2], [5, 1, 1, 1]], [⟨0, 0, [[1, 3], [2, 3]], [], -1, 4, 2, 4, 3, 2⟩, ⟨1, 1, [[3]], [0, 1], 0, 4, 2, 4, 3, 2⟩, ⟨1, 2, [[3]], [], -1, 4, 2, 4, 3, 2⟩, ⟨2, 3, [], [0, n, 2], 1, 4, 2, 4, 3, 2⟩]⟩
theorem c8_of (n : Int) : confOf (o8 n) 8 2 (.s 3 2) (.s 13 4) = some (c8 n) := by rfl
set_option maxRecDepth 100000 in
set_option maxHeartbeats 8000000 in
theorem walk8 (which : Int) (hw0 : 0 ≤ which) (hw1 : which ≤ 255) (hr : which % 9 = 8) (up over : Bool) (w : World) :
    Calls Try.prog 3 #[.int .u8 which, .bool up, .bool over] w (Yields w (.bool true)) := by
  go_enter Try.func3, Try.ntmps3
  go_wp2_with (go_at_call 8; refine (known_any _).yields ?_; intro p0)
  refine (base_to _).mono ?_
  rintro e w1 ⟨N, rfl, n1, l1, x1, s1⟩
  have X1 : Ext w w1 := Ext.trans (ext_more _ _) x1
  have HN : Hid (w.heap.size ≤ N) := by have := n1.out; have := (ext_more w p0).size; unfold Hid; omega
  clear x1 n1
  have k0 := l1.at (b := 12) (j := 1) (v := .i 1) rfl
  have f0 := l1.free (b := 12) (j := 1) (v := .i 1) rfl
  have k1 := l1.at (b := 13) (j := 33) (v := .s 12 3) rfl
  simp only [RV.val] at k0 k1
  have i0 : ∀ w', (Instr.index 28 (.agg #[.int .i64 1, .int .i64 1, .int .i64 0, .int .i64 1, .int .i64 0, .int .i64 1, .int .i64 0, .int .i64 1, .int .i64 0]) (.int .u8 8)).run Try.prog w' = .ok (.int .i64 0) w' := fun w' => by kernel_rfl
  have i1 : ∀ w', (Instr.index 28 (.agg #[.int .i64 64, .int .i64 8, .int .i64 1000, .int .i64 8, .int .i64 4, .int .i64 16, .int .i64 8, .int .i64 8, .int .i64 8]) (.int .u8 8)).run Try.prog w' = .ok (.int .i64 8) w' := fun w' => by kernel_rfl
  have i2 : ∀ w', (Instr.index 32 (.agg #[.iface 31 (.int .i64 10), .iface 31 (.int .i64 10), .iface 31 (.int .i64 18), .iface 31 (.int .i64 19), .iface 31 (.int .i64 19), .iface 31 (.int .i64 19), .iface 31 (.int .i64 19), .iface 31 (.int .i64 19), .iface 31 (.int .i64 17)]) (.int .u8 8)).run Try.prog w' = .ok (.iface 31 (.int .i64 17)) w' := fun w' => by kernel_rfl
  cases up <;> cases over
  · go_wp2_with fail
    refine calls_forget (fun v => Lies N (o8 0) v ∧ Ext w v) ⟨(l1.put (b := 12) (j := 1) (v := .i 1) rfl (.i 0) (RV.wf_of rfl)).one (by simp [s1, setRO, baseRO]) varRO rfl, (Ext.setCell X1 (by have := HN.out; simp; omega) _).alloc _⟩ ?_
    rintro v ⟨L, X⟩
    have K := hid (kg_conf L (c8_of 0))
    clear L
    refine (gIs_ok (by rfl) K.out).yields ?_
    intro p1
    go_wp2_with fail
    go_returns
    exact ⟨rfl, (by repeat (first | exact Ext.refl _ | assumption | refine Ext.more ?_ _ | refine Ext.drew ?_ | refine Ext.drewN ?_ _ | refine Ext.alloc ?_ _ | refine Ext.setCell ?_ (by simp; try omega) _ | refine Ext.trans ?_ (by assumption)))⟩
  · go_wp2_with fail
    refine calls_forget (fun v => Lies N (o8 (-1)) v ∧ Ext w v) ⟨(l1.put (b := 12) (j := 1) (v := .i 1) rfl (.i (-1)) (RV.wf_of rfl)).one (by simp [s1, setRO, baseRO]) varRO rfl, (Ext.setCell X1 (by have := HN.out; simp; omega) _).alloc _⟩ ?_
    rintro v ⟨L, X⟩
    have K := hid (kg_conf L (c8_of (-1)))
    clear L
    refine (gIs_bad 17 (n := 17) (by rfl) (by decide) rfl K.out).yields ?_
    intro p1
    go_wp2_with (go_at_call 11; (with_reducible refine (is_errno_to (r := true) rfl _).yields ?_); intro p2)
    go_returns
    exact ⟨rfl, (by repeat (first | exact Ext.refl _ | assumption | refine Ext.more ?_ _ | refine Ext.drew ?_ | refine Ext.drewN ?_ _ | refine Ext.alloc ?_ _ | refine Ext.setCell ?_ (by simp; try omega) _ | refine Ext.trans ?_ (by assumption)))⟩
  · go_wp2_with fail
    refine calls_forget (fun v => Lies N (o8 8) v ∧ Ext w v) ⟨(l1.put (b := 12) (j := 1) (v := .i 1) rfl (.i 8) (RV.wf_of rfl)).one (by simp [s1, setRO, baseRO]) varRO rfl, (Ext.setCell X1 (by have := HN.out; simp; omega) _).alloc _⟩ ?_
    rintro v ⟨L, X⟩
    have K := hid (kg_conf L (c8_of 8))
    clear L
    refine (gIs_ok (by rfl) K.out).yields ?_
    intro p1
    go_wp2_with fail
    go_returns
    exact ⟨rfl, (by repeat (first | exact Ext.refl _ | assumption | refine Ext.more ?_ _ | refine Ext.drew ?_ | refine Ext.drewN ?_ _ | refine Ext.alloc ?_ _ | refine Ext.setCell ?_ (by simp; try omega) _ | refine Ext.trans ?_ (by assumption)))⟩
  · go_wp2_with fail
    refine calls_forget (fun v => Lies N (o8 9) v ∧ Ext w v) ⟨(l1.put (b := 12) (j := 1) (v := .i 1) rfl (.i 9) (RV.wf_of rfl)).one (by simp [s1, setRO, baseRO]) varRO rfl, (Ext.setCell X1 (by have := HN.out; simp; omega) _).alloc _⟩ ?_
    rintro v ⟨L, X⟩
    have K := hid (kg_conf L (c8_of 9))
    clear L
    refine (gIs_bad 17 (n := 17) (by rfl) (by decide) rfl K.out).yields ?_
    intro p1
    go_wp2_with (go_at_call 11; (with_reducible refine (is_errno_to (r := true) rfl _).yields ?_); intro p2)
    go_returns
    exact ⟨rfl, (by repeat (first | exact Ext.refl _ | assumption | refine Ext.more ?_ _ | refine Ext.drew ?_ | refine Ext.drewN ?_ _ | refine Ext.alloc ?_ _ | refine Ext.setCell ?_ (by simp; try omega) _ | refine Ext.trans ?_ (by assumption)))⟩
end confLimits
end Go.Proofs.Ytgcbkhbpbmmfhaa
