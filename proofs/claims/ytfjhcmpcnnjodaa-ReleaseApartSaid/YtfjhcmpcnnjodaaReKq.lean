/- What every statement of stage 14 asks first: known; how much and whose at the statements' own configuration. -/
import Derived.Test.YtfjhcmpcnnjodaaReBll
import Derived.Test.YtfjhcmpcnnjodaaBase
import Derived.Test.YtfjhcmpcnnjodaaSI
namespace Go.Proofs.Ytfjhcmpcnnjodaa
open Go.RowKit

theorem base_r : ∀ d ∈ baseC.doms, ∀ r ∈ d.routes, r.length ≤ 300 := by decide +kernel
theorem kAmt {N : Nat} {w : World} (k : KV N baseC w) {d l r : Int} (e : amtN baseC d l = r) : Calls Try.prog 11 #[baseV N, .int .i64 d, .int .i64 l] w (Yields w (.int .i64 r)) := k.val ▸ amount_to k.v base_r e
theorem kTurn {N : Nat} {vo vl : Value} {own lv a b : List Int} {w : World} (k : KV N baseC w) (hO : Ints w vo own) (hL : Ints w vl lv) (e : turnL baseC own lv = (a, b)) : Calls Try.prog 9 #[baseV N, vo, vl] w fun e w' => ∃ x y, e = .returned (.tuple #[x, y]) ∧ Ext w w' ∧ Ints w' x a ∧ Ints w' y b := by
  have := k.val ▸ turn_any k.v base_r hO hL
  rw [e] at this
  exact this
theorem rk1 : turnL baseC [0, 3, 1, 3, 2, 0, 3, 1] [0, 1, 0, 2] = ([0, 3, 1, 1, 2, 0, 1, 0], [-1, -1, -1, 3, -1, -1, 3, 1]) := by decide +kernel
theorem rk2 : amtN baseC 3 2 = 2 := by decide +kernel
theorem rk3 : amtN baseC 3 9 = 0 := by decide +kernel
theorem rk4 : amtN baseC 0 0 = 0 := by decide +kernel

set_option maxRecDepth 100000 in
set_option maxHeartbeats 4000000 in
theorem known_any (w : World) : Calls Try.prog 7 #[] w (Yields w (.bool true)) := by
  go_enter Try.func7, Try.ntmps7
  go_wp2_with fail
  refine (base_to _).mono ?_
  rintro e w1 ⟨N, rfl, n1, l1, x1, s1⟩
  clear n1
  go_upto_region 2 with fail
  refine wp_forget (fun v => Lies N (baseRO ++ [varRO]) v ∧ Ext w v) ⟨l1.one s1 varRO rfl, x1.alloc _⟩ ?_
  rintro W ⟨L, X⟩
  have K := hid (known_conf L (c := baseC) (by rfl))
  have k0 : W.cell? ⟨N + 14, 0, none⟩ = some (.int .i64 8) := L.cell (b := 14) (j := 0) rfl rfl
  have k1 : W.cell? ⟨N + 14, 1, none⟩ = some (.int .i64 2) := L.cell (b := 14) (j := 1) rfl rfl
  have k2 : W.cell? ⟨N + 14, 2, none⟩ = some (.slice (some ⟨N + 3, 0, none⟩) 2 2) := L.cell (b := 14) (j := 2) rfl rfl
  have k3 : W.cell? ⟨N + 14, 3, none⟩ = some (.slice (some ⟨N + 13, 0, none⟩) 4 4) := L.cell (b := 14) (j := 3) rfl rfl
  have hN : N + 14 < W.heap.size := World.block_lt_of_cell? _ _ k0
  clear L l1 x1 s1
  go_upto_region 3 with fail
  refine wp_forget (fun v => Ext W v ∧ Ints v (.slice (some ⟨W.heap.size, 0, none⟩) 8 8) [0, 3, 1, 3, 2, 0, 3, 1]) ⟨ext_by, lit_ints [0, 3, 1, 3, 2, 0, 3, 1] (by simp) rfl (by simp)⟩ ?_
  rintro W2 ⟨X2, hO⟩
  have HO := hid hO
  have K2 := hid (K.out.ext X2)
  have c0 := X2.cell k0
  have c1 := X2.cell k1
  have c2 := X2.cell k2
  have c3 := X2.cell k3
  have hN2 : N + 14 < W2.heap.size := World.block_lt_of_cell? _ _ c0
  have X3 := X.trans X2
  clear k0 k1 k2 k3 hN hO K X2 X
  generalize W.heap.size = go at *
  go_upto_region 4 with (go_at_call 9; (refine (kTurn (K2.out.ext ext_by) (HO.out.ext ext_by) (lit_ints [0, 1, 0, 2] (by simp) rfl (by simp)) rk1).mono ?_); rintro e w5 ⟨x, y, rfl, hx5, hI1, hI2⟩)
  have X5 : Ext W2 w5 := Ext.trans ext_by hx5
  have H1 := hid hI1
  have H2 := hid hI2
  have K5 := hid (K2.out.ext X5)
  have d0 := X5.cell c0
  have d1 := X5.cell c1
  have d2 := X5.cell c2
  have d3 := X5.cell c3
  have hN5 : N + 14 < w5.heap.size := World.block_lt_of_cell? _ _ d0
  have X6 := X3.trans X5
  clear hI1 hI2 hx5 X5 X3 c0 c1 c2 c3 hN2 K2 HO
  go_wp2_with (first
    | (go_at_call 11; (with_reducible refine (kAmt (K5.out.ext ext_by) rk2).yields ?_); intro p1)
    | (go_at_call 11; (with_reducible refine (kAmt (K5.out.ext ext_by) rk3).yields ?_); intro p2)
    | (go_at_call 11; (with_reducible refine (kAmt (K5.out.ext ext_by) rk4).yields ?_); intro p3)
    | (go_at_call 13; (with_reducible refine (sameI_to (H1.out.ext ?ha) (lit8 0 3 1 1 2 0 1 0 ?hb)).yields ?_); (case ha => exact ext_by); (case hb => simp [more_size]); intro p4)
    | (go_at_call 13; (with_reducible refine (sameI_to (H2.out.ext ?ha) (lit8 (-1) (-1) (-1) 3 (-1) (-1) 3 1 ?hb)).yields ?_); (case ha => exact ext_by); (case hb => simp [more_size]); intro p5))
  go_returns
  exact ⟨by simp, ext_by⟩
end Go.Proofs.Ytfjhcmpcnnjodaa
