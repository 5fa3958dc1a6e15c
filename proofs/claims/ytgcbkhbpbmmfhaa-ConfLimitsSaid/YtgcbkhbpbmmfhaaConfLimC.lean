/- ConfLimits, part C: the frame. -/
import Derived.Test.YtgcbkhbpbmmfhaaConfLim0
import Derived.Deep.CutRange
import Derived.Deep.RegionHeld3
namespace Go.Proofs.Ytgcbkhbpbmmfhaa
open Go.RowKit

namespace confLimits
def c0 (n : Int) : Cnf := ⟨n, 2, [[2, 2, 2, 2], [5, 1, 1, 1]], [⟨0, 0, [[1, 3], [2, 3]], [], -1, 4, 2, 4, 3, 2⟩, ⟨1, 1, [[3]], [0], 0, 4, 2, 4, 3, 2⟩, ⟨1, 2, [[3]], [], -1, 4, 2, 4, 3, 2⟩, ⟨2, 3, [], [0], 1, 4, 2, 4, 3, 2⟩]⟩
def oV (n : Int) : List RO := baseRO ++ [([.i n, .i 2, .s 3 2, .s 13 4], 26)]
theorem gk {N : Nat} {n : Int} {os : List RO} {w : World} (l : Lies N os w) (h : confOf os n 2 (.s 3 2) (.s 13 4) = some (c0 n)) (h0 : cellOf os 14 0 = some (.i n)) (h1 : cellOf os 14 1 = some (.i 2)) (h2 : cellOf os 14 2 = some (.s 3 2)) (h3 : cellOf os 14 3 = some (.s 13 4)) :
    KG N n 2 (c0 n) w.drew ∧ w.drew.cell? ⟨N + 14, 0, none⟩ = some (.int .i64 n) ∧ w.drew.cell? ⟨N + 14, 1, none⟩ = some (.int .i64 2) ∧ w.drew.cell? ⟨N + 14, 2, none⟩ = some (.slice (some ⟨N + 3, 0, none⟩) 2 2) ∧ w.drew.cell? ⟨N + 14, 3, none⟩ = some (.slice (some ⟨N + 13, 0, none⟩) 4 4) :=
  ⟨(kg_conf l h).ext (Ext.drew (Ext.refl _)), l.at h0, l.at h1, l.at h2, l.at h3⟩
theorem two {N : Nat} {n : Int} {w : World} (L : Lies N (oV n) w) (S : w.heap.size = N + 15) (p q : Nat) (h : p = N + 15 ∧ q = N + 16 ∨ p = N + 16 ∧ q = N + 15) :
    let u := ((((w.setCell ⟨N + 13, 13, none⟩ (.slice (some ⟨p, 0, none⟩) 1 1)).setCell ⟨N + 13, 33, none⟩ (.slice (some ⟨q, 0, none⟩) 1 1)).alloc (.cells #[.int .i64 0] 3 (0, 0))).alloc (.cells #[.int .i64 0] 3 (0, 0))).drew
    KG N n 2 (c0 n) u ∧ u.cell? ⟨N + 14, 0, none⟩ = some (.int .i64 n) ∧ u.cell? ⟨N + 14, 1, none⟩ = some (.int .i64 2) ∧ u.cell? ⟨N + 14, 2, none⟩ = some (.slice (some ⟨N + 3, 0, none⟩) 2 2) ∧ u.cell? ⟨N + 14, 3, none⟩ = some (.slice (some ⟨N + 13, 0, none⟩) 4 4) := by
  rcases h with ⟨rfl, rfl⟩ | ⟨rfl, rfl⟩
  · exact gk (((((L.put (b := 13) (j := 13) (v := .s 9 2) rfl (.s 15 1) (RV.wf_of rfl)).put (b := 13) (j := 33) (v := .s 12 3) rfl (.s 16 1) (RV.wf_of rfl)).one (by simp [S, setRO, oV, baseRO]) ([.i 0], 3) rfl).one (by simp [S, setRO, oV, baseRO]) ([.i 0], 3) rfl)) rfl rfl rfl rfl rfl
  · exact gk (((((L.put (b := 13) (j := 13) (v := .s 9 2) rfl (.s 16 1) (RV.wf_of rfl)).put (b := 13) (j := 33) (v := .s 12 3) rfl (.s 15 1) (RV.wf_of rfl)).one (by simp [S, setRO, oV, baseRO]) ([.i 0], 3) rfl).one (by simp [S, setRO, oV, baseRO]) ([.i 0], 3) rfl)) rfl rfl rfl rfl rfl
set_option maxRecDepth 100000 in
set_option maxHeartbeats 8000000 in
theorem walk0ff (which : Int) (hw0 : 0 ≤ which) (hw1 : which ≤ 255) (hr : which % 9 = 0) (w : World) :
    Calls Try.prog 3 #[.int .u8 which, .bool false, .bool false] w (Yields w (.bool true)) := by
  go_enter Try.func3, Try.ntmps3
  go_wp2_with (go_at_call 8; refine (known_any _).yields ?_; intro p0)
  refine (base_to _).mono ?_
  rintro e w1 ⟨N, rfl, n1, l1, x1, s1⟩
  have X1 : Ext w w1 := Ext.trans (ext_more _ _) x1
  have hN : w.heap.size ≤ N := by have := n1.out; have := (ext_more w p0).size; omega
  clear x1 n1
  have i0 : ∀ w', (Instr.index 28 (.agg #[.int .i64 1, .int .i64 1, .int .i64 0, .int .i64 1, .int .i64 0, .int .i64 1, .int .i64 0, .int .i64 1, .int .i64 0]) (.int .u8 0)).run Try.prog w' = .ok (.int .i64 1) w' := fun w' => by kernel_rfl
  have i1 : ∀ w', (Instr.index 28 (.agg #[.int .i64 64, .int .i64 8, .int .i64 1000, .int .i64 8, .int .i64 4, .int .i64 16, .int .i64 8, .int .i64 8, .int .i64 8]) (.int .u8 0)).run Try.prog w' = .ok (.int .i64 64) w' := fun w' => by kernel_rfl
  have i2 : ∀ w', (Instr.index 32 (.agg #[.iface 31 (.int .i64 10), .iface 31 (.int .i64 10), .iface 31 (.int .i64 18), .iface 31 (.int .i64 19), .iface 31 (.int .i64 19), .iface 31 (.int .i64 19), .iface 31 (.int .i64 19), .iface 31 (.int .i64 19), .iface 31 (.int .i64 17)]) (.int .u8 0)).run Try.prog w' = .ok (.iface 31 (.int .i64 10)) w' := fun w' => by kernel_rfl
  go_upto_region 18 with (fail)
  refine wp_forget (fun v => Lies N (oV 1) v ∧ Ext w v ∧ v.heap.size = N + 15) ⟨l1.one s1 ([.i 1, .i 2, .s 3 2, .s 13 4], 26) rfl, X1.alloc _, by simp [s1]⟩ ?_
  rintro v ⟨L, X, S⟩
  clear l1 s1 X1
  have m3 := L.at (b := 14) (j := 3) (v := .s 13 4) rfl
  have k13 := L.at (b := 13) (j := 13) (v := .s 9 2) rfl
  have k33 := L.at (b := 13) (j := 33) (v := .s 12 3) rfl
  have f13 := L.free (b := 13) (j := 13) (v := .s 9 2) rfl
  have f33 := L.free (b := 13) (j := 33) (v := .s 12 3) rfl
  simp only [RV.val] at m3 k13 k33
  go_region_held3 (fun wx => Ext w wx ∧ wx.cell? ⟨N + 14, 3, none⟩ = some (.slice (some ⟨N + 13, 0, none⟩) 4 4)) (first | exact ⟨Ext.drew X, by simp [m3]⟩ | (go_split_ands; refine ⟨(by repeat (first | exact Ext.refl _ | assumption | refine Ext.more ?_ _ | refine Ext.drew ?_ | refine Ext.drewN ?_ _ | refine Ext.alloc ?_ _ | refine Ext.setCell ?_ (by simp; try omega) _ | refine Ext.trans ?_ (by assumption))), ?_⟩; (repeat (first | exact m3 | refine cell_drew ?_ | refine cell_alloc _ ?_ | refine cell_set_ne _ (by simp) ?_)))) (fail)
  all_goals
    go_split_ands
    go_upto_region 33 with (fail)
    refine wp_forget (fun v => (KG N 1 2 (c0 1) v ∧ v.cell? ⟨N + 14, 0, none⟩ = some (.int .i64 1) ∧ v.cell? ⟨N + 14, 1, none⟩ = some (.int .i64 2) ∧ v.cell? ⟨N + 14, 2, none⟩ = some (.slice (some ⟨N + 3, 0, none⟩) 2 2) ∧ v.cell? ⟨N + 14, 3, none⟩ = some (.slice (some ⟨N + 13, 0, none⟩) 4 4)) ∧ Ext w v) ⟨?_, (by repeat (first | exact Ext.refl _ | assumption | refine Ext.more ?_ _ | refine Ext.drew ?_ | refine Ext.drewN ?_ _ | refine Ext.alloc ?_ _ | refine Ext.setCell ?_ (by simp; try omega) _ | refine Ext.trans ?_ (by assumption)))⟩ ?_
    · exact two L S _ _ (by omega)
    rintro v ⟨⟨K, m0, m1, m2, m3⟩, X⟩
    have K := hid K
    go_wp2_with fail
    refine (gIs_ok (by rfl) K.out).yields ?_
    intro p1
    go_wp2_with fail
    go_returns
    exact ⟨rfl, (by repeat (first | exact Ext.refl _ | assumption | refine Ext.more ?_ _ | refine Ext.drew ?_ | refine Ext.drewN ?_ _ | refine Ext.alloc ?_ _ | refine Ext.setCell ?_ (by simp; try omega) _ | refine Ext.trans ?_ (by assumption)))⟩
set_option maxRecDepth 100000 in
set_option maxHeartbeats 8000000 in
theorem walk0ft (which : Int) (hw0 : 0 ≤ which) (hw1 : which ≤ 255) (hr : which % 9 = 0) (w : World) :
    Calls Try.prog 3 #[.int .u8 which, .bool false, .bool true] w (Yields w (.bool true)) := by
  go_enter Try.func3, Try.ntmps3
  go_wp2_with (go_at_call 8; refine (known_any _).yields ?_; intro p0)
  refine (base_to _).mono ?_
  rintro e w1 ⟨N, rfl, n1, l1, x1, s1⟩
  have X1 : Ext w w1 := Ext.trans (ext_more _ _) x1
  have hN : w.heap.size ≤ N := by have := n1.out; have := (ext_more w p0).size; omega
  clear x1 n1
  have i0 : ∀ w', (Instr.index 28 (.agg #[.int .i64 1, .int .i64 1, .int .i64 0, .int .i64 1, .int .i64 0, .int .i64 1, .int .i64 0, .int .i64 1, .int .i64 0]) (.int .u8 0)).run Try.prog w' = .ok (.int .i64 1) w' := fun w' => by kernel_rfl
  have i1 : ∀ w', (Instr.index 28 (.agg #[.int .i64 64, .int .i64 8, .int .i64 1000, .int .i64 8, .int .i64 4, .int .i64 16, .int .i64 8, .int .i64 8, .int .i64 8]) (.int .u8 0)).run Try.prog w' = .ok (.int .i64 64) w' := fun w' => by kernel_rfl
  have i2 : ∀ w', (Instr.index 32 (.agg #[.iface 31 (.int .i64 10), .iface 31 (.int .i64 10), .iface 31 (.int .i64 18), .iface 31 (.int .i64 19), .iface 31 (.int .i64 19), .iface 31 (.int .i64 19), .iface 31 (.int .i64 19), .iface 31 (.int .i64 19), .iface 31 (.int .i64 17)]) (.int .u8 0)).run Try.prog w' = .ok (.iface 31 (.int .i64 10)) w' := fun w' => by kernel_rfl
  go_upto_region 18 with (fail)
  refine wp_forget (fun v => Lies N (oV 0) v ∧ Ext w v ∧ v.heap.size = N + 15) ⟨l1.one s1 ([.i 0, .i 2, .s 3 2, .s 13 4], 26) rfl, X1.alloc _, by simp [s1]⟩ ?_
  rintro v ⟨L, X, S⟩
  clear l1 s1 X1
  have m3 := L.at (b := 14) (j := 3) (v := .s 13 4) rfl
  have k13 := L.at (b := 13) (j := 13) (v := .s 9 2) rfl
  have k33 := L.at (b := 13) (j := 33) (v := .s 12 3) rfl
  have f13 := L.free (b := 13) (j := 13) (v := .s 9 2) rfl
  have f33 := L.free (b := 13) (j := 33) (v := .s 12 3) rfl
  simp only [RV.val] at m3 k13 k33
  go_region_held3 (fun wx => Ext w wx ∧ wx.cell? ⟨N + 14, 3, none⟩ = some (.slice (some ⟨N + 13, 0, none⟩) 4 4)) (first | exact ⟨Ext.drew X, by simp [m3]⟩ | (go_split_ands; refine ⟨(by repeat (first | exact Ext.refl _ | assumption | refine Ext.more ?_ _ | refine Ext.drew ?_ | refine Ext.drewN ?_ _ | refine Ext.alloc ?_ _ | refine Ext.setCell ?_ (by simp; try omega) _ | refine Ext.trans ?_ (by assumption))), ?_⟩; (repeat (first | exact m3 | refine cell_drew ?_ | refine cell_alloc _ ?_ | refine cell_set_ne _ (by simp) ?_)))) (fail)
  all_goals
    go_split_ands
    go_upto_region 33 with (fail)
    refine wp_forget (fun v => (KG N 0 2 (c0 0) v ∧ v.cell? ⟨N + 14, 0, none⟩ = some (.int .i64 0) ∧ v.cell? ⟨N + 14, 1, none⟩ = some (.int .i64 2) ∧ v.cell? ⟨N + 14, 2, none⟩ = some (.slice (some ⟨N + 3, 0, none⟩) 2 2) ∧ v.cell? ⟨N + 14, 3, none⟩ = some (.slice (some ⟨N + 13, 0, none⟩) 4 4)) ∧ Ext w v) ⟨?_, (by repeat (first | exact Ext.refl _ | assumption | refine Ext.more ?_ _ | refine Ext.drew ?_ | refine Ext.drewN ?_ _ | refine Ext.alloc ?_ _ | refine Ext.setCell ?_ (by simp; try omega) _ | refine Ext.trans ?_ (by assumption)))⟩ ?_
    · exact two L S _ _ (by omega)
    rintro v ⟨⟨K, m0, m1, m2, m3⟩, X⟩
    have K := hid K
    go_wp2_with fail
    refine (gIs_bad 10 (n := 10) (by rfl) (by decide) rfl K.out).yields ?_
    intro p1
    go_wp2_with (go_at_call 11; (with_reducible refine (is_errno_to (r := true) rfl _).yields ?_); intro p2)
    go_returns
    exact ⟨rfl, (by repeat (first | exact Ext.refl _ | assumption | refine Ext.more ?_ _ | refine Ext.drew ?_ | refine Ext.drewN ?_ _ | refine Ext.alloc ?_ _ | refine Ext.setCell ?_ (by simp; try omega) _ | refine Ext.trans ?_ (by assumption)))⟩
set_option maxRecDepth 100000 in
set_option maxHeartbeats 8000000 in
theorem walk0tf (which : Int) (hw0 : 0 ≤ which) (hw1 : which ≤ 255) (hr : which % 9 = 0) (w : World) :
    Calls Try.prog 3 #[.int .u8 which, .bool true, .bool false] w (Yields w (.bool true)) := by
  go_enter Try.func3, Try.ntmps3
  go_wp2_with (go_at_call 8; refine (known_any _).yields ?_; intro p0)
  refine (base_to _).mono ?_
  rintro e w1 ⟨N, rfl, n1, l1, x1, s1⟩
  have X1 : Ext w w1 := Ext.trans (ext_more _ _) x1
  have hN : w.heap.size ≤ N := by have := n1.out; have := (ext_more w p0).size; omega
  clear x1 n1
  have i0 : ∀ w', (Instr.index 28 (.agg #[.int .i64 1, .int .i64 1, .int .i64 0, .int .i64 1, .int .i64 0, .int .i64 1, .int .i64 0, .int .i64 1, .int .i64 0]) (.int .u8 0)).run Try.prog w' = .ok (.int .i64 1) w' := fun w' => by kernel_rfl
  have i1 : ∀ w', (Instr.index 28 (.agg #[.int .i64 64, .int .i64 8, .int .i64 1000, .int .i64 8, .int .i64 4, .int .i64 16, .int .i64 8, .int .i64 8, .int .i64 8]) (.int .u8 0)).run Try.prog w' = .ok (.int .i64 64) w' := fun w' => by kernel_rfl
  have i2 : ∀ w', (Instr.index 32 (.agg #[.iface 31 (.int .i64 10), .iface 31 (.int .i64 10), .iface 31 (.int .i64 18), .iface 31 (.int .i64 19), .iface 31 (.int .i64 19), .iface 31 (.int .i64 19), .iface 31 (.int .i64 19), .iface 31 (.int .i64 19), .iface 31 (.int .i64 17)]) (.int .u8 0)).run Try.prog w' = .ok (.iface 31 (.int .i64 10)) w' := fun w' => by kernel_rfl
  go_upto_region 18 with (fail)
  refine wp_forget (fun v => Lies N (oV 64) v ∧ Ext w v ∧ v.heap.size = N + 15) ⟨l1.one s1 ([.i 64, .i 2, .s 3 2, .s 13 4], 26) rfl, X1.alloc _, by simp [s1]⟩ ?_
  rintro v ⟨L, X, S⟩
  clear l1 s1 X1
  have m3 := L.at (b := 14) (j := 3) (v := .s 13 4) rfl
  have k13 := L.at (b := 13) (j := 13) (v := .s 9 2) rfl
  have k33 := L.at (b := 13) (j := 33) (v := .s 12 3) rfl
  have f13 := L.free (b := 13) (j := 13) (v := .s 9 2) rfl
  have f33 := L.free (b := 13) (j := 33) (v := .s 12 3) rfl
  simp only [RV.val] at m3 k13 k33
  go_region_held3 (fun wx => Ext w wx ∧ wx.cell? ⟨N + 14, 3, none⟩ = some (.slice (some ⟨N + 13, 0, none⟩) 4 4)) (first | exact ⟨Ext.drew X, by simp [m3]⟩ | (go_split_ands; refine ⟨(by repeat (first | exact Ext.refl _ | assumption | refine Ext.more ?_ _ | refine Ext.drew ?_ | refine Ext.drewN ?_ _ | refine Ext.alloc ?_ _ | refine Ext.setCell ?_ (by simp; try omega) _ | refine Ext.trans ?_ (by assumption))), ?_⟩; (repeat (first | exact m3 | refine cell_drew ?_ | refine cell_alloc _ ?_ | refine cell_set_ne _ (by simp) ?_)))) (fail)
  all_goals
    go_split_ands
    go_upto_region 33 with (fail)
    refine wp_forget (fun v => (KG N 64 2 (c0 64) v ∧ v.cell? ⟨N + 14, 0, none⟩ = some (.int .i64 64) ∧ v.cell? ⟨N + 14, 1, none⟩ = some (.int .i64 2) ∧ v.cell? ⟨N + 14, 2, none⟩ = some (.slice (some ⟨N + 3, 0, none⟩) 2 2) ∧ v.cell? ⟨N + 14, 3, none⟩ = some (.slice (some ⟨N + 13, 0, none⟩) 4 4)) ∧ Ext w v) ⟨?_, (by repeat (first | exact Ext.refl _ | assumption | refine Ext.more ?_ _ | refine Ext.drew ?_ | refine Ext.drewN ?_ _ | refine Ext.alloc ?_ _ | refine Ext.setCell ?_ (by simp; try omega) _ | refine Ext.trans ?_ (by assumption)))⟩ ?_
    · exact two L S _ _ (by omega)
    rintro v ⟨⟨K, m0, m1, m2, m3⟩, X⟩
    have K := hid K
    go_wp2_with fail
    refine (gIs_ok (by rfl) K.out).yields ?_
    intro p1
    go_wp2_with fail
    go_returns
    exact ⟨rfl, (by repeat (first | exact Ext.refl _ | assumption | refine Ext.more ?_ _ | refine Ext.drew ?_ | refine Ext.drewN ?_ _ | refine Ext.alloc ?_ _ | refine Ext.setCell ?_ (by simp; try omega) _ | refine Ext.trans ?_ (by assumption)))⟩
set_option maxRecDepth 100000 in
set_option maxHeartbeats 8000000 in
theorem walk0tt (which : Int) (hw0 : 0 ≤ which) (hw1 : which ≤ 255) (hr : which % 9 = 0) (w : World) :
    Calls Try.prog 3 #[.int .u8 which, .bool true, .bool true] w (Yields w (.bool true)) := by
  go_enter Try.func3, Try.ntmps3
  go_wp2_with (go_at_call 8; refine (known_any _).yields ?_; intro p0)
  refine (base_to _).mono ?_
  rintro e w1 ⟨N, rfl, n1, l1, x1, s1⟩
  have X1 : Ext w w1 := Ext.trans (ext_more _ _) x1
  have hN : w.heap.size ≤ N := by have := n1.out; have := (ext_more w p0).size; omega
  clear x1 n1
  have i0 : ∀ w', (Instr.index 28 (.agg #[.int .i64 1, .int .i64 1, .int .i64 0, .int .i64 1, .int .i64 0, .int .i64 1, .int .i64 0, .int .i64 1, .int .i64 0]) (.int .u8 0)).run Try.prog w' = .ok (.int .i64 1) w' := fun w' => by kernel_rfl
  have i1 : ∀ w', (Instr.index 28 (.agg #[.int .i64 64, .int .i64 8, .int .i64 1000, .int .i64 8, .int .i64 4, .int .i64 16, .int .i64 8, .int .i64 8, .int .i64 8]) (.int .u8 0)).run Try.prog w' = .ok (.int .i64 64) w' := fun w' => by kernel_rfl
  have i2 : ∀ w', (Instr.index 32 (.agg #[.iface 31 (.int .i64 10), .iface 31 (.int .i64 10), .iface 31 (.int .i64 18), .iface 31 (.int .i64 19), .iface 31 (.int .i64 19), .iface 31 (.int .i64 19), .iface 31 (.int .i64 19), .iface 31 (.int .i64 19), .iface 31 (.int .i64 17)]) (.int .u8 0)).run Try.prog w' = .ok (.iface 31 (.int .i64 10)) w' := fun w' => by kernel_rfl
  go_upto_region 18 with (fail)
  refine wp_forget (fun v => Lies N (oV 65) v ∧ Ext w v ∧ v.heap.size = N + 15) ⟨l1.one s1 ([.i 65, .i 2, .s 3 2, .s 13 4], 26) rfl, X1.alloc _, by simp [s1]⟩ ?_
  rintro v ⟨L, X, S⟩
  clear l1 s1 X1
  have m3 := L.at (b := 14) (j := 3) (v := .s 13 4) rfl
  have k13 := L.at (b := 13) (j := 13) (v := .s 9 2) rfl
  have k33 := L.at (b := 13) (j := 33) (v := .s 12 3) rfl
  have f13 := L.free (b := 13) (j := 13) (v := .s 9 2) rfl
  have f33 := L.free (b := 13) (j := 33) (v := .s 12 3) rfl
  simp only [RV.val] at m3 k13 k33
  go_region_held3 (fun wx => Ext w wx ∧ wx.cell? ⟨N + 14, 3, none⟩ = some (.slice (some ⟨N + 13, 0, none⟩) 4 4)) (first | exact ⟨Ext.drew X, by simp [m3]⟩ | (go_split_ands; refine ⟨(by repeat (first | exact Ext.refl _ | assumption | refine Ext.more ?_ _ | refine Ext.drew ?_ | refine Ext.drewN ?_ _ | refine Ext.alloc ?_ _ | refine Ext.setCell ?_ (by simp; try omega) _ | refine Ext.trans ?_ (by assumption))), ?_⟩; (repeat (first | exact m3 | refine cell_drew ?_ | refine cell_alloc _ ?_ | refine cell_set_ne _ (by simp) ?_)))) (fail)
  all_goals
    go_split_ands
    go_upto_region 33 with (fail)
    refine wp_forget (fun v => (KG N 65 2 (c0 65) v ∧ v.cell? ⟨N + 14, 0, none⟩ = some (.int .i64 65) ∧ v.cell? ⟨N + 14, 1, none⟩ = some (.int .i64 2) ∧ v.cell? ⟨N + 14, 2, none⟩ = some (.slice (some ⟨N + 3, 0, none⟩) 2 2) ∧ v.cell? ⟨N + 14, 3, none⟩ = some (.slice (some ⟨N + 13, 0, none⟩) 4 4)) ∧ Ext w v) ⟨?_, (by repeat (first | exact Ext.refl _ | assumption | refine Ext.more ?_ _ | refine Ext.drew ?_ | refine Ext.drewN ?_ _ | refine Ext.alloc ?_ _ | refine Ext.setCell ?_ (by simp; try omega) _ | refine Ext.trans ?_ (by assumption)))⟩ ?_
    · exact two L S _ _ (by omega)
    rintro v ⟨⟨K, m0, m1, m2, m3⟩, X⟩
    have K := hid K
    go_wp2_with fail
    refine (gIs_bad 10 (n := 10) (by rfl) (by decide) rfl K.out).yields ?_
    intro p1
    go_wp2_with (go_at_call 11; (with_reducible refine (is_errno_to (r := true) rfl _).yields ?_); intro p2)
    go_returns
    exact ⟨rfl, (by repeat (first | exact Ext.refl _ | assumption | refine Ext.more ?_ _ | refine Ext.drew ?_ | refine Ext.drewN ?_ _ | refine Ext.alloc ?_ _ | refine Ext.setCell ?_ (by simp; try omega) _ | refine Ext.trans ?_ (by assumption)))⟩
theorem walk0 (which : Int) (hw0 : 0 ≤ which) (hw1 : which ≤ 255) (hr : which % 9 = 0) (up over : Bool) (w : World) :
    Calls Try.prog 3 #[.int .u8 which, .bool up, .bool over] w (Yields w (.bool true)) := by
  cases up <;> cases over
  · exact walk0ff which hw0 hw1 hr w
  · exact walk0ft which hw0 hw1 hr w
  · exact walk0tf which hw0 hw1 hr w
  · exact walk0tt which hw0 hw1 hr w
end confLimits
end Go.Proofs.Ytgcbkhbpbmmfhaa
