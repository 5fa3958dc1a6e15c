/- ConfLimits, part A: what is asked of each number. -/
import Derived.Test.YtgcbkhbpbmmfhaaConfLim0
import Derived.Deep.CutRange
import Derived.Deep.RegionHeld3
namespace Go.Proofs.Ytgcbkhbpbmmfhaa
open Go.RowKit

namespace confLimits
def o1 (n : Int) : List RO := baseRO ++ [([.i 8, .i n, .s 3 2, .s 13 4], 26)]
def c1 (n : Int) : Cnf := ⟨8, n, [[2, 2, 2, 2], [5, 1, 1, 1]], [⟨0, 0, [[1, 3], [2, 3]], [], -1, 4, 2, 4, 3, 2⟩, ⟨1, 1, [[3]], [0, 1], 0, 4, 2, 4, 3, 2⟩, ⟨1, 2, [[3]], [], -1, 4, 2, 4, 3, 2⟩, ⟨2, 3, [], [0, 1, 2], 1, 4, 2, 4, 3, 2⟩]⟩
theorem c1_of (n : Int) : confOf (o1 n) 8 n (.s 3 2) (.s 13 4) = some (c1 n) := by rfl
set_option maxRecDepth 100000 in
set_option maxHeartbeats 8000000 in
theorem walk1 (which : Int) (hw0 : 0 ≤ which) (hw1 : which ≤ 255) (hr : which % 9 = 1) (up over : Bool) (w : World) :
    Calls Try.prog 3 #[.int .u8 which, .bool up, .bool over] w (Yields w (.bool true)) := by
  go_enter Try.func3, Try.ntmps3
  go_wp2_with (go_at_call 8; refine (known_any _).yields ?_; intro p0)
  refine (base_to _).mono ?_
  rintro e w1 ⟨N, rfl, n1, l1, x1, s1⟩
  have X1 : Ext w w1 := Ext.trans (ext_more _ _) x1
  have HN : Hid (w.heap.size ≤ N) := by have := n1.out; have := (ext_more w p0).size; unfold Hid; omega
  clear x1 n1
  have i0 : ∀ w', (Instr.index 28 (.agg #[.int .i64 1, .int .i64 1, .int .i64 0, .int .i64 1, .int .i64 0, .int .i64 1, .int .i64 0, .int .i64 1, .int .i64 0]) (.int .u8 1)).run Try.prog w' = .ok (.int .i64 1) w' := fun w' => by kernel_rfl
  have i1 : ∀ w', (Instr.index 28 (.agg #[.int .i64 64, .int .i64 8, .int .i64 1000, .int .i64 8, .int .i64 4, .int .i64 16, .int .i64 8, .int .i64 8, .int .i64 8]) (.int .u8 1)).run Try.prog w' = .ok (.int .i64 8) w' := fun w' => by kernel_rfl
  have i2 : ∀ w', (Instr.index 32 (.agg #[.iface 31 (.int .i64 10), .iface 31 (.int .i64 10), .iface 31 (.int .i64 18), .iface 31 (.int .i64 19), .iface 31 (.int .i64 19), .iface 31 (.int .i64 19), .iface 31 (.int .i64 19), .iface 31 (.int .i64 19), .iface 31 (.int .i64 17)]) (.int .u8 1)).run Try.prog w' = .ok (.iface 31 (.int .i64 10)) w' := fun w' => by kernel_rfl
  cases up <;> cases over
  · go_wp2_with fail
    refine calls_forget (fun v => Lies N (o1 1) v ∧ Ext w v) ⟨l1.one s1 ([.i 8, .i 1, .s 3 2, .s 13 4], 26) rfl, X1.alloc _⟩ ?_
    rintro v ⟨L, X⟩
    have K := hid (kg_conf L (c1_of 1))
    clear L
    refine (gIs_ok (by rfl) K.out).yields ?_
    intro p1
    go_wp2_with fail
    go_returns
    exact ⟨rfl, (by repeat (first | exact Ext.refl _ | assumption | refine Ext.more ?_ _ | refine Ext.drew ?_ | refine Ext.drewN ?_ _ | refine Ext.alloc ?_ _ | refine Ext.setCell ?_ (by simp; try omega) _ | refine Ext.trans ?_ (by assumption)))⟩
  · go_wp2_with fail
    refine calls_forget (fun v => Lies N (o1 0) v ∧ Ext w v) ⟨l1.one s1 ([.i 8, .i 0, .s 3 2, .s 13 4], 26) rfl, X1.alloc _⟩ ?_
    rintro v ⟨L, X⟩
    have K := hid (kg_conf L (c1_of 0))
    clear L
    refine (gIs_bad 10 (n := 10) (by rfl) (by decide) rfl K.out).yields ?_
    intro p1
    go_wp2_with (go_at_call 11; (with_reducible refine (is_errno_to (r := true) rfl _).yields ?_); intro p2)
    go_returns
    exact ⟨rfl, (by repeat (first | exact Ext.refl _ | assumption | refine Ext.more ?_ _ | refine Ext.drew ?_ | refine Ext.drewN ?_ _ | refine Ext.alloc ?_ _ | refine Ext.setCell ?_ (by simp; try omega) _ | refine Ext.trans ?_ (by assumption)))⟩
  · go_wp2_with fail
    refine calls_forget (fun v => Lies N (o1 8) v ∧ Ext w v) ⟨l1.one s1 ([.i 8, .i 8, .s 3 2, .s 13 4], 26) rfl, X1.alloc _⟩ ?_
    rintro v ⟨L, X⟩
    have K := hid (kg_conf L (c1_of 8))
    clear L
    refine (gIs_ok (by rfl) K.out).yields ?_
    intro p1
    go_wp2_with fail
    go_returns
    exact ⟨rfl, (by repeat (first | exact Ext.refl _ | assumption | refine Ext.more ?_ _ | refine Ext.drew ?_ | refine Ext.drewN ?_ _ | refine Ext.alloc ?_ _ | refine Ext.setCell ?_ (by simp; try omega) _ | refine Ext.trans ?_ (by assumption)))⟩
  · go_wp2_with fail
    refine calls_forget (fun v => Lies N (o1 9) v ∧ Ext w v) ⟨l1.one s1 ([.i 8, .i 9, .s 3 2, .s 13 4], 26) rfl, X1.alloc _⟩ ?_
    rintro v ⟨L, X⟩
    have K := hid (kg_conf L (c1_of 9))
    clear L
    refine (gIs_bad 10 (n := 10) (by rfl) (by decide) rfl K.out).yields ?_
    intro p1
    go_wp2_with (go_at_call 11; (with_reducible refine (is_errno_to (r := true) rfl _).yields ?_); intro p2)
    go_returns
    exact ⟨rfl, (by repeat (first | exact Ext.refl _ | assumption | refine Ext.more ?_ _ | refine Ext.drew ?_ | refine Ext.drewN ?_ _ | refine Ext.alloc ?_ _ | refine Ext.setCell ?_ (by simp; try omega) _ | refine Ext.trans ?_ (by assumption)))⟩
def o2 (n : Int) : List RO := setRO baseRO 2 2 (.i n) ++ [varRO]
def c2 (n : Int) : Cnf := ⟨8, 2, [[2, 2, 2, 2], [5, 1, n, 1]], [⟨0, 0, [[1, 3], [2, 3]], [], -1, 4, 2, 4, 3, 2⟩, ⟨1, 1, [[3]], [0, 1], 0, 4, 2, 4, 3, 2⟩, ⟨1, 2, [[3]], [], -1, 4, 2, 4, 3, 2⟩, ⟨2, 3, [], [0, 1, 2], 1, 4, 2, 4, 3, 2⟩]⟩
theorem c2_of (n : Int) : confOf (o2 n) 8 2 (.s 3 2) (.s 13 4) = some (c2 n) := by rfl
set_option maxRecDepth 100000 in
set_option maxHeartbeats 8000000 in
theorem walk2 (which : Int) (hw0 : 0 ≤ which) (hw1 : which ≤ 255) (hr : which % 9 = 2) (up over : Bool) (w : World) :
    Calls Try.prog 3 #[.int .u8 which, .bool up, .bool over] w (Yields w (.bool true)) := by
  go_enter Try.func3, Try.ntmps3
  go_wp2_with (go_at_call 8; refine (known_any _).yields ?_; intro p0)
  refine (base_to _).mono ?_
  rintro e w1 ⟨N, rfl, n1, l1, x1, s1⟩
  have X1 : Ext w w1 := Ext.trans (ext_more _ _) x1
  have HN : Hid (w.heap.size ≤ N) := by have := n1.out; have := (ext_more w p0).size; unfold Hid; omega
  clear x1 n1
  have k0 := l1.at (b := 2) (j := 2) (v := .i 1) rfl
  have f0 := l1.free (b := 2) (j := 2) (v := .i 1) rfl
  have k1 := l1.at (b := 3) (j := 1) (v := .s 2 4) rfl
  simp only [RV.val] at k0 k1
  have i0 : ∀ w', (Instr.index 28 (.agg #[.int .i64 1, .int .i64 1, .int .i64 0, .int .i64 1, .int .i64 0, .int .i64 1, .int .i64 0, .int .i64 1, .int .i64 0]) (.int .u8 2)).run Try.prog w' = .ok (.int .i64 0) w' := fun w' => by kernel_rfl
  have i1 : ∀ w', (Instr.index 28 (.agg #[.int .i64 64, .int .i64 8, .int .i64 1000, .int .i64 8, .int .i64 4, .int .i64 16, .int .i64 8, .int .i64 8, .int .i64 8]) (.int .u8 2)).run Try.prog w' = .ok (.int .i64 1000) w' := fun w' => by kernel_rfl
  have i2 : ∀ w', (Instr.index 32 (.agg #[.iface 31 (.int .i64 10), .iface 31 (.int .i64 10), .iface 31 (.int .i64 18), .iface 31 (.int .i64 19), .iface 31 (.int .i64 19), .iface 31 (.int .i64 19), .iface 31 (.int .i64 19), .iface 31 (.int .i64 19), .iface 31 (.int .i64 17)]) (.int .u8 2)).run Try.prog w' = .ok (.iface 31 (.int .i64 18)) w' := fun w' => by kernel_rfl
  cases up <;> cases over
  · go_wp2_with fail
    refine calls_forget (fun v => Lies N (o2 0) v ∧ Ext w v) ⟨(l1.put (b := 2) (j := 2) (v := .i 1) rfl (.i 0) (RV.wf_of rfl)).one (by simp [s1, setRO, baseRO]) varRO rfl, (Ext.setCell X1 (by have := HN.out; simp; omega) _).alloc _⟩ ?_
    rintro v ⟨L, X⟩
    have K := hid (kg_conf L (c2_of 0))
    clear L
    refine (gIs_ok (by rfl) K.out).yields ?_
    intro p1
    go_wp2_with fail
    go_returns
    exact ⟨rfl, (by repeat (first | exact Ext.refl _ | assumption | refine Ext.more ?_ _ | refine Ext.drew ?_ | refine Ext.drewN ?_ _ | refine Ext.alloc ?_ _ | refine Ext.setCell ?_ (by simp; try omega) _ | refine Ext.trans ?_ (by assumption)))⟩
  · go_wp2_with fail
    refine calls_forget (fun v => Lies N (o2 (-1)) v ∧ Ext w v) ⟨(l1.put (b := 2) (j := 2) (v := .i 1) rfl (.i (-1)) (RV.wf_of rfl)).one (by simp [s1, setRO, baseRO]) varRO rfl, (Ext.setCell X1 (by have := HN.out; simp; omega) _).alloc _⟩ ?_
    rintro v ⟨L, X⟩
    have K := hid (kg_conf L (c2_of (-1)))
    clear L
    refine (gIs_bad 18 (n := 18) (by rfl) (by decide) rfl K.out).yields ?_
    intro p1
    go_wp2_with (go_at_call 11; (with_reducible refine (is_errno_to (r := true) rfl _).yields ?_); intro p2)
    go_returns
    exact ⟨rfl, (by repeat (first | exact Ext.refl _ | assumption | refine Ext.more ?_ _ | refine Ext.drew ?_ | refine Ext.drewN ?_ _ | refine Ext.alloc ?_ _ | refine Ext.setCell ?_ (by simp; try omega) _ | refine Ext.trans ?_ (by assumption)))⟩
  · go_wp2_with fail
    refine calls_forget (fun v => Lies N (o2 1000) v ∧ Ext w v) ⟨(l1.put (b := 2) (j := 2) (v := .i 1) rfl (.i 1000) (RV.wf_of rfl)).one (by simp [s1, setRO, baseRO]) varRO rfl, (Ext.setCell X1 (by have := HN.out; simp; omega) _).alloc _⟩ ?_
    rintro v ⟨L, X⟩
    have K := hid (kg_conf L (c2_of 1000))
    clear L
    refine (gIs_ok (by rfl) K.out).yields ?_
    intro p1
    go_wp2_with fail
    go_returns
    exact ⟨rfl, (by repeat (first | exact Ext.refl _ | assumption | refine Ext.more ?_ _ | refine Ext.drew ?_ | refine Ext.drewN ?_ _ | refine Ext.alloc ?_ _ | refine Ext.setCell ?_ (by simp; try omega) _ | refine Ext.trans ?_ (by assumption)))⟩
  · go_wp2_with fail
    refine calls_forget (fun v => Lies N (o2 1001) v ∧ Ext w v) ⟨(l1.put (b := 2) (j := 2) (v := .i 1) rfl (.i 1001) (RV.wf_of rfl)).one (by simp [s1, setRO, baseRO]) varRO rfl, (Ext.setCell X1 (by have := HN.out; simp; omega) _).alloc _⟩ ?_
    rintro v ⟨L, X⟩
    have K := hid (kg_conf L (c2_of 1001))
    clear L
    refine (gIs_bad 18 (n := 18) (by rfl) (by decide) rfl K.out).yields ?_
    intro p1
    go_wp2_with (go_at_call 11; (with_reducible refine (is_errno_to (r := true) rfl _).yields ?_); intro p2)
    go_returns
    exact ⟨rfl, (by repeat (first | exact Ext.refl _ | assumption | refine Ext.more ?_ _ | refine Ext.drew ?_ | refine Ext.drewN ?_ _ | refine Ext.alloc ?_ _ | refine Ext.setCell ?_ (by simp; try omega) _ | refine Ext.trans ?_ (by assumption)))⟩
def o3 (n : Int) : List RO := setRO baseRO 13 25 (.i n) ++ [varRO]
def c3 (n : Int) : Cnf := ⟨8, 2, [[2, 2, 2, 2], [5, 1, 1, 1]], [⟨0, 0, [[1, 3], [2, 3]], [], -1, 4, 2, 4, 3, 2⟩, ⟨1, 1, [[3]], [0, 1], 0, 4, 2, 4, 3, 2⟩, ⟨1, 2, [[3]], [], -1, n, 2, 4, 3, 2⟩, ⟨2, 3, [], [0, 1, 2], 1, 4, 2, 4, 3, 2⟩]⟩
theorem c3_of (n : Int) : confOf (o3 n) 8 2 (.s 3 2) (.s 13 4) = some (c3 n) := by rfl
set_option maxRecDepth 100000 in
set_option maxHeartbeats 8000000 in
theorem walk3 (which : Int) (hw0 : 0 ≤ which) (hw1 : which ≤ 255) (hr : which % 9 = 3) (up over : Bool) (w : World) :
    Calls Try.prog 3 #[.int .u8 which, .bool up, .bool over] w (Yields w (.bool true)) := by
  go_enter Try.func3, Try.ntmps3
  go_wp2_with (go_at_call 8; refine (known_any _).yields ?_; intro p0)
  refine (base_to _).mono ?_
  rintro e w1 ⟨N, rfl, n1, l1, x1, s1⟩
  have X1 : Ext w w1 := Ext.trans (ext_more _ _) x1
  have HN : Hid (w.heap.size ≤ N) := by have := n1.out; have := (ext_more w p0).size; unfold Hid; omega
  clear x1 n1
  have k0 := l1.at (b := 13) (j := 25) (v := .i 4) rfl
  have f0 := l1.free (b := 13) (j := 25) (v := .i 4) rfl
  simp only [RV.val] at k0
  have i0 : ∀ w', (Instr.index 28 (.agg #[.int .i64 1, .int .i64 1, .int .i64 0, .int .i64 1, .int .i64 0, .int .i64 1, .int .i64 0, .int .i64 1, .int .i64 0]) (.int .u8 3)).run Try.prog w' = .ok (.int .i64 1) w' := fun w' => by kernel_rfl
  have i1 : ∀ w', (Instr.index 28 (.agg #[.int .i64 64, .int .i64 8, .int .i64 1000, .int .i64 8, .int .i64 4, .int .i64 16, .int .i64 8, .int .i64 8, .int .i64 8]) (.int .u8 3)).run Try.prog w' = .ok (.int .i64 8) w' := fun w' => by kernel_rfl
  have i2 : ∀ w', (Instr.index 32 (.agg #[.iface 31 (.int .i64 10), .iface 31 (.int .i64 10), .iface 31 (.int .i64 18), .iface 31 (.int .i64 19), .iface 31 (.int .i64 19), .iface 31 (.int .i64 19), .iface 31 (.int .i64 19), .iface 31 (.int .i64 19), .iface 31 (.int .i64 17)]) (.int .u8 3)).run Try.prog w' = .ok (.iface 31 (.int .i64 19)) w' := fun w' => by kernel_rfl
  cases up <;> cases over
  · go_wp2_with fail
    refine calls_forget (fun v => Lies N (o3 1) v ∧ Ext w v) ⟨(l1.put (b := 13) (j := 25) (v := .i 4) rfl (.i 1) (RV.wf_of rfl)).one (by simp [s1, setRO, baseRO]) varRO rfl, (Ext.setCell X1 (by have := HN.out; simp; omega) _).alloc _⟩ ?_
    rintro v ⟨L, X⟩
    have K := hid (kg_conf L (c3_of 1))
    clear L
    refine (gIs_ok (by rfl) K.out).yields ?_
    intro p1
    go_wp2_with fail
    go_returns
    exact ⟨rfl, (by repeat (first | exact Ext.refl _ | assumption | refine Ext.more ?_ _ | refine Ext.drew ?_ | refine Ext.drewN ?_ _ | refine Ext.alloc ?_ _ | refine Ext.setCell ?_ (by simp; try omega) _ | refine Ext.trans ?_ (by assumption)))⟩
  · go_wp2_with fail
    refine calls_forget (fun v => Lies N (o3 0) v ∧ Ext w v) ⟨(l1.put (b := 13) (j := 25) (v := .i 4) rfl (.i 0) (RV.wf_of rfl)).one (by simp [s1, setRO, baseRO]) varRO rfl, (Ext.setCell X1 (by have := HN.out; simp; omega) _).alloc _⟩ ?_
    rintro v ⟨L, X⟩
    have K := hid (kg_conf L (c3_of 0))
    clear L
    refine (gIs_bad 19 (n := 19) (by rfl) (by decide) rfl K.out).yields ?_
    intro p1
    go_wp2_with (go_at_call 11; (with_reducible refine (is_errno_to (r := true) rfl _).yields ?_); intro p2)
    go_returns
    exact ⟨rfl, (by repeat (first | exact Ext.refl _ | assumption | refine Ext.more ?_ _ | refine Ext.drew ?_ | refine Ext.drewN ?_ _ | refine Ext.alloc ?_ _ | refine Ext.setCell ?_ (by simp; try omega) _ | refine Ext.trans ?_ (by assumption)))⟩
  · go_wp2_with fail
    refine calls_forget (fun v => Lies N (o3 8) v ∧ Ext w v) ⟨(l1.put (b := 13) (j := 25) (v := .i 4) rfl (.i 8) (RV.wf_of rfl)).one (by simp [s1, setRO, baseRO]) varRO rfl, (Ext.setCell X1 (by have := HN.out; simp; omega) _).alloc _⟩ ?_
    rintro v ⟨L, X⟩
    have K := hid (kg_conf L (c3_of 8))
    clear L
    refine (gIs_ok (by rfl) K.out).yields ?_
    intro p1
    go_wp2_with fail
    go_returns
    exact ⟨rfl, (by repeat (first | exact Ext.refl _ | assumption | refine Ext.more ?_ _ | refine Ext.drew ?_ | refine Ext.drewN ?_ _ | refine Ext.alloc ?_ _ | refine Ext.setCell ?_ (by simp; try omega) _ | refine Ext.trans ?_ (by assumption)))⟩
  · go_wp2_with fail
    refine calls_forget (fun v => Lies N (o3 9) v ∧ Ext w v) ⟨(l1.put (b := 13) (j := 25) (v := .i 4) rfl (.i 9) (RV.wf_of rfl)).one (by simp [s1, setRO, baseRO]) varRO rfl, (Ext.setCell X1 (by have := HN.out; simp; omega) _).alloc _⟩ ?_
    rintro v ⟨L, X⟩
    have K := hid (kg_conf L (c3_of 9))
    clear L
    refine (gIs_bad 19 (n := 19) (by rfl) (by decide) rfl K.out).yields ?_
    intro p1
    go_wp2_with (go_at_call 11; (with_reducible refine (is_errno_to (r := true) rfl _).yields ?_); intro p2)
    go_returns
    exact ⟨rfl, (by repeat (first | exact Ext.refl _ | assumption | refine Ext.more ?_ _ | refine Ext.drew ?_ | refine Ext.drewN ?_ _ | refine Ext.alloc ?_ _ | refine Ext.setCell ?_ (by simp; try omega) _ | refine Ext.trans ?_ (by assumption)))⟩
end confLimits
end Go.Proofs.Ytgcbkhbpbmmfhaa
