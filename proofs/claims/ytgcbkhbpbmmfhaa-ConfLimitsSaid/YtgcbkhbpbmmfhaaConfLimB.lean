/- ConfLimits, part B: what is asked of each number. -/
import Derived.Test.YtgcbkhbpbmmfhaaConfLim0
import Derived.Deep.CutRange
import Derived.Deep.RegionHeld3
namespace Go.Proofs.Ytgcbkhbpbmmfhaa
open Go.RowKit

namespace confLimits
def o4 (n : Int) : List RO := setRO baseRO 13 26 (.i n) ++ [varRO]
def c4 (n : Int) : Cnf := ⟨8, 2, [[2, 2, 2, 2], [5, 1, 1, 1]], [⟨0, 0, [[1, 3], [2, 3]], [], -1, 4, 2, 4, 3, 2⟩, ⟨1, 1, [[3]], [0, 1], 0, 4, 2, 4, 3, 2⟩, ⟨1, 2, [[3]], [], -1, 4, n, 4, 3, 2⟩, ⟨2, 3, [], [0, 1, 2], 1, 4, 2, 4, 3, 2⟩]⟩
theorem c4_of (n : Int) : confOf (o4 n) 8 2 (.s 3 2) (.s 13 4) = some (c4 n) := by rfl
set_option maxRecDepth 100000 in
set_option maxHeartbeats 8000000 in
theorem walk4 (which : Int) (hw0 : 0 ≤ which) (hw1 : which ≤ 255) (hr : which % 9 = 4) (up over : Bool) (w : World) :
    Calls Try.prog 3 #[.int .u8 which, .bool up, .bool over] w (Yields w (.bool true)) := by
  go_enter Try.func3, Try.ntmps3
  go_wp2_with (go_at_call 8; refine (known_any _).yields ?_; intro p0)
  refine (base_to _).mono ?_
  rintro e w1 ⟨N, rfl, n1, l1, x1, s1⟩
  have X1 : Ext w w1 := Ext.trans (ext_more _ _) x1
  have HN : Hid (w.heap.size ≤ N) := by have := n1.out; have := (ext_more w p0).size; unfold Hid; omega
  clear x1 n1
  have k0 := l1.at (b := 13) (j := 26) (v := .i 2) rfl
  have f0 := l1.free (b := 13) (j := 26) (v := .i 2) rfl
  simp only [RV.val] at k0
  have i0 : ∀ w', (Instr.index 28 (.agg #[.int .i64 1, .int .i64 1, .int .i64 0, .int .i64 1, .int .i64 0, .int .i64 1, .int .i64 0, .int .i64 1, .int .i64 0]) (.int .u8 4)).run Try.prog w' = .ok (.int .i64 0) w' := fun w' => by kernel_rfl
  have i1 : ∀ w', (Instr.index 28 (.agg #[.int .i64 64, .int .i64 8, .int .i64 1000, .int .i64 8, .int .i64 4, .int .i64 16, .int .i64 8, .int .i64 8, .int .i64 8]) (.int .u8 4)).run Try.prog w' = .ok (.int .i64 4) w' := fun w' => by kernel_rfl
  have i2 : ∀ w', (Instr.index 32 (.agg #[.iface 31 (.int .i64 10), .iface 31 (.int .i64 10), .iface 31 (.int .i64 18), .iface 31 (.int .i64 19), .iface 31 (.int .i64 19), .iface 31 (.int .i64 19), .iface 31 (.int .i64 19), .iface 31 (.int .i64 19), .iface 31 (.int .i64 17)]) (.int .u8 4)).run Try.prog w' = .ok (.iface 31 (.int .i64 19)) w' := fun w' => by kernel_rfl
  cases up <;> cases over
  · go_wp2_with fail
    refine calls_forget (fun v => Lies N (o4 0) v ∧ Ext w v) ⟨(l1.put (b := 13) (j := 26) (v := .i 2) rfl (.i 0) (RV.wf_of rfl)).one (by simp [s1, setRO, baseRO]) varRO rfl, (Ext.setCell X1 (by have := HN.out; simp; omega) _).alloc _⟩ ?_
    rintro v ⟨L, X⟩
    have K := hid (kg_conf L (c4_of 0))
    clear L
    refine (gIs_ok (by rfl) K.out).yields ?_
    intro p1
    go_wp2_with fail
    go_returns
    exact ⟨rfl, (by repeat (first | exact Ext.refl _ | assumption | refine Ext.more ?_ _ | refine Ext.drew ?_ | refine Ext.drewN ?_ _ | refine Ext.alloc ?_ _ | refine Ext.setCell ?_ (by simp; try omega) _ | refine Ext.trans ?_ (by assumption)))⟩
  · go_wp2_with fail
    refine calls_forget (fun v => Lies N (o4 (-1)) v ∧ Ext w v) ⟨(l1.put (b := 13) (j := 26) (v := .i 2) rfl (.i (-1)) (RV.wf_of rfl)).one (by simp [s1, setRO, baseRO]) varRO rfl, (Ext.setCell X1 (by have := HN.out; simp; omega) _).alloc _⟩ ?_
    rintro v ⟨L, X⟩
    have K := hid (kg_conf L (c4_of (-1)))
    clear L
    refine (gIs_bad 19 (n := 19) (by rfl) (by decide) rfl K.out).yields ?_
    intro p1
    go_wp2_with (go_at_call 11; (with_reducible refine (is_errno_to (r := true) rfl _).yields ?_); intro p2)
    go_returns
    exact ⟨rfl, (by repeat (first | exact Ext.refl _ | assumption | refine Ext.more ?_ _ | refine Ext.drew ?_ | refine Ext.drewN ?_ _ | refine Ext.alloc ?_ _ | refine Ext.setCell ?_ (by simp; try omega) _ | refine Ext.trans ?_ (by assumption)))⟩
  · go_wp2_with fail
    refine calls_forget (fun v => Lies N (o4 4) v ∧ Ext w v) ⟨(l1.put (b := 13) (j := 26) (v := .i 2) rfl (.i 4) (RV.wf_of rfl)).one (by simp [s1, setRO, baseRO]) varRO rfl, (Ext.setCell X1 (by have := HN.out; simp; omega) _).alloc _⟩ ?_
    rintro v ⟨L, X⟩
    have K := hid (kg_conf L (c4_of 4))
    clear L
    refine (gIs_ok (by rfl) K.out).yields ?_
    intro p1
    go_wp2_with fail
    go_returns
    exact ⟨rfl, (by repeat (first | exact Ext.refl _ | assumption | refine Ext.more ?_ _ | refine Ext.drew ?_ | refine Ext.drewN ?_ _ | refine Ext.alloc ?_ _ | refine Ext.setCell ?_ (by simp; try omega) _ | refine Ext.trans ?_ (by assumption)))⟩
  · go_wp2_with fail
    refine calls_forget (fun v => Lies N (o4 5) v ∧ Ext w v) ⟨(l1.put (b := 13) (j := 26) (v := .i 2) rfl (.i 5) (RV.wf_of rfl)).one (by simp [s1, setRO, baseRO]) varRO rfl, (Ext.setCell X1 (by have := HN.out; simp; omega) _).alloc _⟩ ?_
    rintro v ⟨L, X⟩
    have K := hid (kg_conf L (c4_of 5))
    clear L
    refine (gIs_bad 19 (n := 19) (by rfl) (by decide) rfl K.out).yields ?_
    intro p1
    go_wp2_with (go_at_call 11; (with_reducible refine (is_errno_to (r := true) rfl _).yields ?_); intro p2)
    go_returns
    exact ⟨rfl, (by repeat (first | exact Ext.refl _ | assumption | refine Ext.more ?_ _ | refine Ext.drew ?_ | refine Ext.drewN ?_ _ | refine Ext.alloc ?_ _ | refine Ext.setCell ?_ (by simp; try omega) _ | refine Ext.trans ?_ (by assumption)))⟩
def o5 (n : Int) : List RO := setRO baseRO 13 27 (.i n) ++ [varRO]
def c5 (n : Int) : Cnf := ⟨8, 2, [[2, 2, 2, 2], [5, 1, 1, 1]], [⟨0, 0, [[1, 3], [2, 3]], [], -1, 4, 2, 4, 3, 2⟩, ⟨1, 1, [[3]], [0, 1], 0, 4, 2, 4, 3, 2⟩, ⟨1, 2, [[3]], [], -1, 4, 2, n, 3, 2⟩, ⟨2, 3, [], [0, 1, 2], 1, 4, 2, 4, 3, 2⟩]⟩
theorem c5_of (n : Int) : confOf (o5 n) 8 2 (.s 3 2) (.s 13 4) = some (c5 n) := by rfl
set_option maxRecDepth 100000 in
set_option maxHeartbeats 8000000 in
theorem walk5 (which : Int) (hw0 : 0 ≤ which) (hw1 : which ≤ 255) (hr : which % 9 = 5) (up over : Bool) (w : World) :
    Calls Try.prog 3 #[.int .u8 which, .bool up, .bool over] w (Yields w (.bool true)) := by
  go_enter Try.func3, Try.ntmps3
  go_wp2_with (go_at_call 8; refine (known_any _).yields ?_; intro p0)
  refine (base_to _).mono ?_
  rintro e w1 ⟨N, rfl, n1, l1, x1, s1⟩
  have X1 : Ext w w1 := Ext.trans (ext_more _ _) x1
  have HN : Hid (w.heap.size ≤ N) := by have := n1.out; have := (ext_more w p0).size; unfold Hid; omega
  clear x1 n1
  have k0 := l1.at (b := 13) (j := 27) (v := .i 4) rfl
  have f0 := l1.free (b := 13) (j := 27) (v := .i 4) rfl
  simp only [RV.val] at k0
  have i0 : ∀ w', (Instr.index 28 (.agg #[.int .i64 1, .int .i64 1, .int .i64 0, .int .i64 1, .int .i64 0, .int .i64 1, .int .i64 0, .int .i64 1, .int .i64 0]) (.int .u8 5)).run Try.prog w' = .ok (.int .i64 1) w' := fun w' => by kernel_rfl
  have i1 : ∀ w', (Instr.index 28 (.agg #[.int .i64 64, .int .i64 8, .int .i64 1000, .int .i64 8, .int .i64 4, .int .i64 16, .int .i64 8, .int .i64 8, .int .i64 8]) (.int .u8 5)).run Try.prog w' = .ok (.int .i64 16) w' := fun w' => by kernel_rfl
  have i2 : ∀ w', (Instr.index 32 (.agg #[.iface 31 (.int .i64 10), .iface 31 (.int .i64 10), .iface 31 (.int .i64 18), .iface 31 (.int .i64 19), .iface 31 (.int .i64 19), .iface 31 (.int .i64 19), .iface 31 (.int .i64 19), .iface 31 (.int .i64 19), .iface 31 (.int .i64 17)]) (.int .u8 5)).run Try.prog w' = .ok (.iface 31 (.int .i64 19)) w' := fun w' => by kernel_rfl
  cases up <;> cases over
  · go_wp2_with fail
    refine calls_forget (fun v => Lies N (o5 1) v ∧ Ext w v) ⟨(l1.put (b := 13) (j := 27) (v := .i 4) rfl (.i 1) (RV.wf_of rfl)).one (by simp [s1, setRO, baseRO]) varRO rfl, (Ext.setCell X1 (by have := HN.out; simp; omega) _).alloc _⟩ ?_
    rintro v ⟨L, X⟩
    have K := hid (kg_conf L (c5_of 1))
    clear L
    refine (gIs_ok (by rfl) K.out).yields ?_
    intro p1
    go_wp2_with fail
    go_returns
    exact ⟨rfl, (by repeat (first | exact Ext.refl _ | assumption | refine Ext.more ?_ _ | refine Ext.drew ?_ | refine Ext.drewN ?_ _ | refine Ext.alloc ?_ _ | refine Ext.setCell ?_ (by simp; try omega) _ | refine Ext.trans ?_ (by assumption)))⟩
  · go_wp2_with fail
    refine calls_forget (fun v => Lies N (o5 0) v ∧ Ext w v) ⟨(l1.put (b := 13) (j := 27) (v := .i 4) rfl (.i 0) (RV.wf_of rfl)).one (by simp [s1, setRO, baseRO]) varRO rfl, (Ext.setCell X1 (by have := HN.out; simp; omega) _).alloc _⟩ ?_
    rintro v ⟨L, X⟩
    have K := hid (kg_conf L (c5_of 0))
    clear L
    refine (gIs_bad 19 (n := 19) (by rfl) (by decide) rfl K.out).yields ?_
    intro p1
    go_wp2_with (go_at_call 11; (with_reducible refine (is_errno_to (r := true) rfl _).yields ?_); intro p2)
    go_returns
    exact ⟨rfl, (by repeat (first | exact Ext.refl _ | assumption | refine Ext.more ?_ _ | refine Ext.drew ?_ | refine Ext.drewN ?_ _ | refine Ext.alloc ?_ _ | refine Ext.setCell ?_ (by simp; try omega) _ | refine Ext.trans ?_ (by assumption)))⟩
  · go_wp2_with fail
    refine calls_forget (fun v => Lies N (o5 16) v ∧ Ext w v) ⟨(l1.put (b := 13) (j := 27) (v := .i 4) rfl (.i 16) (RV.wf_of rfl)).one (by simp [s1, setRO, baseRO]) varRO rfl, (Ext.setCell X1 (by have := HN.out; simp; omega) _).alloc _⟩ ?_
    rintro v ⟨L, X⟩
    have K := hid (kg_conf L (c5_of 16))
    clear L
    refine (gIs_ok (by rfl) K.out).yields ?_
    intro p1
    go_wp2_with fail
    go_returns
    exact ⟨rfl, (by repeat (first | exact Ext.refl _ | assumption | refine Ext.more ?_ _ | refine Ext.drew ?_ | refine Ext.drewN ?_ _ | refine Ext.alloc ?_ _ | refine Ext.setCell ?_ (by simp; try omega) _ | refine Ext.trans ?_ (by assumption)))⟩
  · go_wp2_with fail
    refine calls_forget (fun v => Lies N (o5 17) v ∧ Ext w v) ⟨(l1.put (b := 13) (j := 27) (v := .i 4) rfl (.i 17) (RV.wf_of rfl)).one (by simp [s1, setRO, baseRO]) varRO rfl, (Ext.setCell X1 (by have := HN.out; simp; omega) _).alloc _⟩ ?_
    rintro v ⟨L, X⟩
    have K := hid (kg_conf L (c5_of 17))
    clear L
    refine (gIs_bad 19 (n := 19) (by rfl) (by decide) rfl K.out).yields ?_
    intro p1
    go_wp2_with (go_at_call 11; (with_reducible refine (is_errno_to (r := true) rfl _).yields ?_); intro p2)
    go_returns
    exact ⟨rfl, (by repeat (first | exact Ext.refl _ | assumption | refine Ext.more ?_ _ | refine Ext.drew ?_ | refine Ext.drewN ?_ _ | refine Ext.alloc ?_ _ | refine Ext.setCell ?_ (by simp; try omega) _ | refine Ext.trans ?_ (by assumption)))⟩
def o6 (n : Int) : List RO := setRO baseRO 13 28 (.i n) ++ [varRO]
def c6 (n : Int) : Cnf := ⟨8, 2, [[2, 2, 2, 2], [5, 1, 1, 1]], [⟨0, 0, [[1, 3], [2, 3]], [], -1, 4, 2, 4, 3, 2⟩, ⟨1, 1, [[3]], [0, 1], 0, 4, 2, 4, 3, 2⟩, ⟨1, 2, [[3]], [], -1, 4, 2, 4, n, 2⟩, ⟨2, 3, [], [0, 1, 2], 1, 4, 2, 4, 3, 2⟩]⟩
theorem c6_of (n : Int) : confOf (o6 n) 8 2 (.s 3 2) (.s 13 4) = some (c6 n) := by rfl
set_option maxRecDepth 100000 in
set_option maxHeartbeats 8000000 in
theorem walk6 (which : Int) (hw0 : 0 ≤ which) (hw1 : which ≤ 255) (hr : which % 9 = 6) (up over : Bool) (w : World) :
    Calls Try.prog 3 #[.int .u8 which, .bool up, .bool over] w (Yields w (.bool true)) := by
  go_enter Try.func3, Try.ntmps3
  go_wp2_with (go_at_call 8; refine (known_any _).yields ?_; intro p0)
  refine (base_to _).mono ?_
  rintro e w1 ⟨N, rfl, n1, l1, x1, s1⟩
  have X1 : Ext w w1 := Ext.trans (ext_more _ _) x1
  have HN : Hid (w.heap.size ≤ N) := by have := n1.out; have := (ext_more w p0).size; unfold Hid; omega
  clear x1 n1
  have k0 := l1.at (b := 13) (j := 28) (v := .i 3) rfl
  have f0 := l1.free (b := 13) (j := 28) (v := .i 3) rfl
  simp only [RV.val] at k0
  have i0 : ∀ w', (Instr.index 28 (.agg #[.int .i64 1, .int .i64 1, .int .i64 0, .int .i64 1, .int .i64 0, .int .i64 1, .int .i64 0, .int .i64 1, .int .i64 0]) (.int .u8 6)).run Try.prog w' = .ok (.int .i64 0) w' := fun w' => by kernel_rfl
  have i1 : ∀ w', (Instr.index 28 (.agg #[.int .i64 64, .int .i64 8, .int .i64 1000, .int .i64 8, .int .i64 4, .int .i64 16, .int .i64 8, .int .i64 8, .int .i64 8]) (.int .u8 6)).run Try.prog w' = .ok (.int .i64 8) w' := fun w' => by kernel_rfl
  have i2 : ∀ w', (Instr.index 32 (.agg #[.iface 31 (.int .i64 10), .iface 31 (.int .i64 10), .iface 31 (.int .i64 18), .iface 31 (.int .i64 19), .iface 31 (.int .i64 19), .iface 31 (.int .i64 19), .iface 31 (.int .i64 19), .iface 31 (.int .i64 19), .iface 31 (.int .i64 17)]) (.int .u8 6)).run Try.prog w' = .ok (.iface 31 (.int .i64 19)) w' := fun w' => by kernel_rfl
  cases up <;> cases over
  · go_wp2_with fail
    refine calls_forget (fun v => Lies N (o6 0) v ∧ Ext w v) ⟨(l1.put (b := 13) (j := 28) (v := .i 3) rfl (.i 0) (RV.wf_of rfl)).one (by simp [s1, setRO, baseRO]) varRO rfl, (Ext.setCell X1 (by have := HN.out; simp; omega) _).alloc _⟩ ?_
    rintro v ⟨L, X⟩
    have K := hid (kg_conf L (c6_of 0))
    clear L
    refine (gIs_ok (by rfl) K.out).yields ?_
    intro p1
    go_wp2_with fail
    go_returns
    exact ⟨rfl, (by repeat (first | exact Ext.refl _ | assumption | refine Ext.more ?_ _ | refine Ext.drew ?_ | refine Ext.drewN ?_ _ | refine Ext.alloc ?_ _ | refine Ext.setCell ?_ (by simp; try omega) _ | refine Ext.trans ?_ (by assumption)))⟩
  · go_wp2_with fail
    refine calls_forget (fun v => Lies N (o6 (-1)) v ∧ Ext w v) ⟨(l1.put (b := 13) (j := 28) (v := .i 3) rfl (.i (-1)) (RV.wf_of rfl)).one (by simp [s1, setRO, baseRO]) varRO rfl, (Ext.setCell X1 (by have := HN.out; simp; omega) _).alloc _⟩ ?_
    rintro v ⟨L, X⟩
    have K := hid (kg_conf L (c6_of (-1)))
    clear L
    refine (gIs_bad 19 (n := 19) (by rfl) (by decide) rfl K.out).yields ?_
    intro p1
    go_wp2_with (go_at_call 11; (with_reducible refine (is_errno_to (r := true) rfl _).yields ?_); intro p2)
    go_returns
    exact ⟨rfl, (by repeat (first | exact Ext.refl _ | assumption | refine Ext.more ?_ _ | refine Ext.drew ?_ | refine Ext.drewN ?_ _ | refine Ext.alloc ?_ _ | refine Ext.setCell ?_ (by simp; try omega) _ | refine Ext.trans ?_ (by assumption)))⟩
  · go_wp2_with fail
    refine calls_forget (fun v => Lies N (o6 8) v ∧ Ext w v) ⟨(l1.put (b := 13) (j := 28) (v := .i 3) rfl (.i 8) (RV.wf_of rfl)).one (by simp [s1, setRO, baseRO]) varRO rfl, (Ext.setCell X1 (by have := HN.out; simp; omega) _).alloc _⟩ ?_
    rintro v ⟨L, X⟩
    have K := hid (kg_conf L (c6_of 8))
    clear L
    refine (gIs_ok (by rfl) K.out).yields ?_
    intro p1
    go_wp2_with fail
    go_returns
    exact ⟨rfl, (by repeat (first | exact Ext.refl _ | assumption | refine Ext.more ?_ _ | refine Ext.drew ?_ | refine Ext.drewN ?_ _ | refine Ext.alloc ?_ _ | refine Ext.setCell ?_ (by simp; try omega) _ | refine Ext.trans ?_ (by assumption)))⟩
  · go_wp2_with fail
    refine calls_forget (fun v => Lies N (o6 9) v ∧ Ext w v) ⟨(l1.put (b := 13) (j := 28) (v := .i 3) rfl (.i 9) (RV.wf_of rfl)).one (by simp [s1, setRO, baseRO]) varRO rfl, (Ext.setCell X1 (by have := HN.out; simp; omega) _).alloc _⟩ ?_
    rintro v ⟨L, X⟩
    have K := hid (kg_conf L (c6_of 9))
    clear L
    refine (gIs_bad 19 (n := 19) (by rfl) (by decide) rfl K.out).yields ?_
    intro p1
    go_wp2_with (go_at_call 11; (with_reducible refine (is_errno_to (r := true) rfl _).yields ?_); intro p2)
    go_returns
    exact ⟨rfl, (by repeat (first | exact Ext.refl _ | assumption | refine Ext.more ?_ _ | refine Ext.drew ?_ | refine Ext.drewN ?_ _ | refine Ext.alloc ?_ _ | refine Ext.setCell ?_ (by simp; try omega) _ | refine Ext.trans ?_ (by assumption)))⟩
end confLimits
end Go.Proofs.Ytgcbkhbpbmmfhaa
