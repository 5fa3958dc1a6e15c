/- ReleaseGrows: with a greater amount all that was given away is given away still, and more: the law answers true for every two levels and plan. No conditions. -/
import Derived.Test.YtfjhcmpcnnjodaaReKq
import Derived.Test.YtfjhcmpcnnjodaaReTq
import Derived.Test.YtfjhcmpcnnjodaaRlq
import Derived.Deep.LoopGhost
import Derived.IntWalk
import Derived.ChangeMaps5
import Derived.ChangeSame
import Derived.ChangeVars
import Derived.JoinedOf
import Derived.RowKitTokens
namespace Go.Proofs.Ytfjhcmpcnnjodaa
set_option linter.unusedSimpArgs false
open Go.ChangeShapes Go.WideShapes Go.ChangeAt Go.RowKit Go.Joins Go.Deep

namespace releaseGrows
def gRO : List RO := setRO (baseRO ++ [varRO]) 13 33 (.s 15 4) ++ [([.i 0, .i 1, .i 2, .i 8], 3)]
def gC : Cnf := ⟨8, 2, [[2, 2, 2, 2], [5, 1, 1, 1]], [⟨0, 0, [[1, 3], [2, 3]], [], -1, 4, 2, 4, 3, 2⟩, ⟨1, 1, [[3]], [0, 1], 0, 4, 2, 4, 3, 2⟩, ⟨1, 2, [[3]], [], -1, 4, 2, 4, 3, 2⟩, ⟨2, 3, [], [0, 1, 2, 8], 1, 4, 2, 4, 3, 2⟩]⟩
theorem gC_of : confOf gRO 8 2 (.s 3 2) (.s 13 4) = some gC := by rfl
theorem gC_r : ∀ d ∈ gC.doms, ∀ r ∈ d.routes, r.length ≤ 300 := by decide +kernel
def gO (p : Nat) : List Int := ownersL gC p
def gP (p x : Nat) : List Int := (turnL gC (gO p) [0, 0, 0, x]).1
def gF (p x : Nat) : List Int := (turnL gC (gO p) [0, 0, 0, x]).2
theorem g_len : ∀ p : Fin 2, (gO p).length = 8 ∧ ∀ x : Fin 4, (gP p x).length = 8 ∧ (gF p x).length = 8 := by decide +kernel
theorem g_grow : ∀ (p : Fin 2) (x y : Fin 4) (i : Fin 8), x.val ≤ y.val → (at0 (gF p x) i = 3 → at0 (gF p y) i = 3 ∧ at0 (gP p x) i = 1 ∧ at0 (gP p y) i = 1) ∧ (at0 (gO p) i ≠ 3 → at0 (gP p x) i = at0 (gO p) i ∧ at0 (gP p y) i = at0 (gO p) i) := by decide +kernel
theorem g_none : ∀ p : Fin 2, gP p 0 = gO p := by decide +kernel
theorem g_amt : ∀ x y : Fin 4, x.val ≤ y.val → amtN gC 3 (x.val : Int) ≤ amtN gC 3 (y.val : Int) := by decide +kernel
theorem g_amtb : ∀ x : Fin 4, 0 ≤ amtN gC 3 (x.val : Int) ∧ amtN gC 3 (x.val : Int) ≤ 8 := by decide +kernel
theorem gTurn {N : Nat} {vo vl : Value} {p : Fin 2} {x : Fin 4} {l : List Int} {w : World} (k : KV N gC w) (hO : Ints w vo (gO p)) (hL : Ints w vl l) (e : l = [0, 0, 0, (x.val : Int)]) : Calls Try.prog 9 #[baseV N, vo, vl] w fun e w' => ∃ p1 c1 p2 c2, e = .returned (.tuple #[.slice p1 8 c1, .slice p2 8 c2]) ∧ Ext w w' ∧ Ints w' (.slice p1 8 c1) (gP p x) ∧ Ints w' (.slice p2 8 c2) (gF p x) := by
  subst e
  refine (k.val ▸ turn_any k.v gC_r hO hL).mono ?_
  rintro e w' ⟨a, b, rfl, hx, hA, hB⟩
  obtain ⟨h1, h2⟩ := (g_len p).2 x
  obtain ⟨p1, c1, rfl, -, -⟩ := hA.shape
  obtain ⟨p2, c2, rfl, -, -⟩ := hB.shape
  unfold gP at h1
  unfold gF at h2
  rw [h1] at hA ⊢
  rw [h2] at hB ⊢
  exact ⟨p1, c1, p2, c2, rfl, hx, hA, hB⟩
theorem gOwn {N : Nat} {w : World} {p : Fin 2} (k : KV N gC w) : Calls Try.prog 15 #[baseV N, .int .i64 p.val] w fun e w' => ∃ p1 c1, e = .returned (.slice p1 8 c1) ∧ Ext w w' ∧ Ints w' (.slice p1 8 c1) (gO p) := by
  refine (k.val ▸ rowners_any k.v gC_r p.val).mono ?_
  rintro e w' ⟨u, rfl, hx, hI⟩
  have h := (g_len p).1
  obtain ⟨p1, c1, rfl, -, -⟩ := hI.shape
  unfold gO at h
  rw [h] at hI ⊢
  exact ⟨p1, c1, rfl, hx, hI⟩
theorem at_lit {w : World} {q : Option Addr} {d : Nat} {l : List Int} (h : Ints w (.slice q 8 d) l) (hl : l.length = 8) {i : Nat} (hi : i < 8) : ∃ b off, q = some ⟨b, off, none⟩ ∧ w.cell? ⟨b, off + i, none⟩ = some (.int .i64 (at0 l i)) := by
  obtain ⟨b, off, e, hc⟩ := h.at i (by omega)
  rw [Nat.mul_one] at hc
  exact ⟨b, off, e, by rw [at0_get (by omega)]; exact hc⟩
theorem gAmt {N : Nat} {w : World} (k : KV N gC w) {x : Int} (d : Int) : Calls Try.prog 11 #[baseV N, .int .i64 d, .int .i64 x] w (Yields w (.int .i64 (amtN gC d x))) := k.val ▸ amount_any k.v gC_r d x

set_option maxRecDepth 100000 in
set_option maxHeartbeats 8000000 in
theorem walk (a b pl : Int) (a0 : 0 ≤ a) (a9 : a ≤ 255) (b0 : 0 ≤ b) (b9 : b ≤ 255) (l0 : 0 ≤ pl) (l9 : pl ≤ 255) (w : World) :
    Calls Try.prog 6 #[.int .u8 a, .int .u8 b, .int .u8 pl] w (Yields w (.bool true)) := by
  obtain ⟨p, hp⟩ : ∃ p : Fin 2, pl % 2 = (p.val : Int) := ⟨⟨(pl % 2).toNat, by omega⟩, by simp; omega⟩
  obtain ⟨x, y, hxy, hc⟩ : ∃ x y : Fin 4, x.val ≤ y.val ∧ ((a % 4 = (x.val : Int) ∧ b % 4 = (y.val : Int)) ∨ (a % 4 = (y.val : Int) ∧ b % 4 = (x.val : Int) ∧ x.val < y.val)) := by
    by_cases h : a % 4 ≤ b % 4
    · exact ⟨⟨(a % 4).toNat, by omega⟩, ⟨(b % 4).toNat, by omega⟩, by simp; omega, .inl ⟨by simp; omega, by simp; omega⟩⟩
    · exact ⟨⟨(b % 4).toNat, by omega⟩, ⟨(a % 4).toNat, by omega⟩, by simp; omega, .inr ⟨by simp; omega, by simp; omega, by simp; omega⟩⟩
  have HXY := hid hxy
  have hp2 := p.isLt
  have hx4 := x.isLt
  have hy4 := y.isLt
  go_enter Try.func6, Try.ntmps6
  go_wp2_with (go_at_call 7; refine (known_any _).yields ?_; intro p0)
  refine (base_to _).mono ?_
  rintro e w1 ⟨N, rfl, n1, l1, x1, s1⟩
  have X1 : Ext w w1 := Ext.trans (ext_more _ _) x1
  have HN : Hid (w.heap.size ≤ N) := by have := n1.out; have := (ext_more w p0).size; unfold Hid; omega
  clear x1 n1
  go_upto_region 4 with fail
  refine wp_forget (fun v => Lies N (baseRO ++ [varRO]) v ∧ Ext w v ∧ Hid (v.heap.size = N + 15)) ⟨l1.one s1 varRO rfl, X1.alloc _, hid (by simp [s1])⟩ ?_
  rintro w2 ⟨L2, X2, S2⟩
  have s2 : w2.heap.size = N + 15 := S2.out
  have hNw : w.heap.size ≤ N + 13 := by have := HN.out; omega
  have k3 : w2.cell? ⟨N + 14, 3, none⟩ = some (.slice (some ⟨N + 13, 0, none⟩) 4 4) := L2.cell (b := 14) (j := 3) rfl rfl
  have f33 : w2.cell? ⟨N + 13, 33, none⟩ = some (.slice (some ⟨N + 12, 0, none⟩) 3 3) := L2.cell (b := 13) (j := 33) rfl rfl
  have g33 : w2.frozen? ⟨N + 13, 33, none⟩ = false := L2.unfrozen (b := 13) 33 rfl
  have hN13 : N + 14 < w2.heap.size := World.block_lt_of_cell? _ _ k3
  have hN12 : N + 13 < w2.heap.size := by omega
  clear l1 X1 s1
  go_upto_region 5 with fail
  refine wp_forget (fun v => Lies N gRO v ∧ Ext w v) ⟨(L2.put (b := 13) (j := 33) (v := .s 12 3) rfl (.s 15 4) (RV.wf_of rfl)).one (by simp [s2, setRO, baseRO]) ([.i 0, .i 1, .i 2, .i 8], 3) rfl, (Ext.setCell X2 (by simpa using hNw) _).alloc _⟩ ?_
  clear k3 f33 g33 hN13 hN12 L2 X2 S2 s2 hNw
  rintro W ⟨L, X⟩
  have K := hid (known_conf L gC_of)
  have k0 : W.cell? ⟨N + 14, 0, none⟩ = some (.int .i64 8) := L.cell (b := 14) (j := 0) rfl rfl
  have k1 : W.cell? ⟨N + 14, 1, none⟩ = some (.int .i64 2) := L.cell (b := 14) (j := 1) rfl rfl
  have k2 : W.cell? ⟨N + 14, 2, none⟩ = some (.slice (some ⟨N + 3, 0, none⟩) 2 2) := L.cell (b := 14) (j := 2) rfl rfl
  have k3 : W.cell? ⟨N + 14, 3, none⟩ = some (.slice (some ⟨N + 13, 0, none⟩) 4 4) := L.cell (b := 14) (j := 3) rfl rfl
  clear L
  have hp0 : (0 : Int) ≤ (p.val : Int) := by omega
  have hp9 : (p.val : Int) ≤ 1 := by omega
  go_upto_region 6 with (go_at_call 15; (refine (gOwn (p := p) K.out).mono ?_); rintro e w3 ⟨po, co, rfl, hx3, hO⟩)
  have X3 := X.trans hx3
  have HO := hid hO
  have K3 := hid (K.out.ext hx3)
  have c0 := hx3.cell k0
  have c1 := hx3.cell k1
  have c2 := hx3.cell k2
  have c3 := hx3.cell k3
  have hN3 : N + 14 < w3.heap.size := World.block_lt_of_cell? _ _ c0
  clear hO hx3 X K k0 k1 k2 k3
  rcases hc with ⟨e1, e2⟩ | ⟨e1, e2, e3⟩
  all_goals
    have z1 : (0 : Int) ≤ (x.val : Int) := by omega
    have z2 : (0 : Int) ≤ (y.val : Int) := by omega
    have z3 : (x.val : Int) ≤ 3 := by omega
    have z4 : (y.val : Int) ≤ 3 := by omega
    have z5 : ¬ (y.val : Int) < x.val := by omega
    go_upto_region 9 with fail
    clear hxy e1 e2
    go_upto_region 10 with (go_at_call 9; (refine (gTurn (x := x) (K3.out.ext ext_by) (HO.out.ext ext_by) (lit_ints [0, 0, 0, (x.val : Int)] (by simp) rfl (by simp)) rfl).mono ?_); rintro e w4 ⟨q1, d1, q2, d2, rfl, hx4, hP, hF⟩)
    have X4 : Ext w3 w4 := Ext.trans ext_by hx4
    have HP := hid hP
    have HF := hid hF
    have HO4 := hid (HO.out.ext X4)
    have K4 := hid (K3.out.ext X4)
    have m0 := X4.cell c0
    have m1 := X4.cell c1
    have m2 := X4.cell c2
    have m3 := X4.cell c3
    have hN4 : N + 14 < w4.heap.size := World.block_lt_of_cell? _ _ m0
    have X5 := X3.trans X4
    clear hP hF hx4 X4 X3 c0 c1 c2 c3 HO K3 hN3
    go_upto_region 11 with (go_at_call 9; (refine (gTurn (x := y) (K4.out.ext ext_by) (HO4.out.ext ext_by) (lit_ints [0, 0, 0, (y.val : Int)] (by simp) rfl (by simp)) rfl).mono ?_); rintro e w5 ⟨r1, f1, r2, f2, rfl, hx5, hQ, hG⟩)
    have X6 : Ext w4 w5 := Ext.trans ext_by hx5
    have HQ := hid hQ
    have HG := hid hG
    have HP5 := hid (HP.out.ext X6)
    have HF5 := hid (HF.out.ext X6)
    have HO5 := hid (HO4.out.ext X6)
    have K5 := hid (K4.out.ext X6)
    have c0 := X6.cell m0
    have c1 := X6.cell m1
    have c2 := X6.cell m2
    have c3 := X6.cell m3
    have hN5 : N + 14 < w5.heap.size := World.block_lt_of_cell? _ _ c0
    have X7 := X5.trans X6
    clear hQ hG hx5 X6 X5 m0 m1 m2 m3 HO4 K4 hN4 HP HF
    go_wp2
    go_loopw [15] (fun v15 wr => Ext w5 wr ∧ ∃ i : Nat, v15 = .int .i64 i ∧ i ≤ 8) (fun v15 _ => (8 - intOf v15).toNat)
    case atStart => exact ⟨Ext.refl _, 0, rfl, by omega⟩
    case round =>
      obtain ⟨hx, i, rfl, hi⟩ := hrel
      have X8 := X7.trans hx
      by_cases hlt : i < 8
      · obtain ⟨hl0, hl1⟩ := g_len p
        obtain ⟨ob, oo, eo, a0'⟩ := at_lit (HO5.out.ext hx) hl0 hlt
        obtain ⟨pb, pp, ep, a1'⟩ := at_lit (HP5.out.ext hx) (hl1 x).1 hlt
        obtain ⟨fb, fo, ef, a2'⟩ := at_lit (HF5.out.ext hx) (hl1 x).2 hlt
        obtain ⟨qb, qo, eq, a3'⟩ := at_lit (HQ.out.ext hx) (hl1 y).1 hlt
        obtain ⟨gb, go, eg, a4'⟩ := at_lit (HG.out.ext hx) (hl1 y).2 hlt
        obtain ⟨hg1, hg2⟩ := g_grow p x y ⟨i, hlt⟩ HXY.out
        simp only at hg1 hg2
        subst eo ep ef eq eg
        have n0 := more_cell a0'
        have n1 := more_cell a1'
        have n2 := more_cell a2'
        have n3 := more_cell a3'
        have n4 := more_cell a4'
        have i8 : (i : Int) < 8 := by omega
        clear a0' a1' a2' a3' a4'
        generalize at0 (gO p) i = o at *
        generalize at0 (gP p x) i = u at *
        generalize at0 (gF p x) i = f at *
        generalize at0 (gP p y) i = v at *
        generalize at0 (gF p y) i = h at *
        clear hl0 hl1
        by_cases hf : f = 3
        · obtain ⟨r1', r2', r3'⟩ := hg1 hf
          subst hf r1' r2' r3'
          by_cases ho : o = 3
          · subst ho
            clear hg1 hg2
            go_wp2
            ((first | refine wp_region_more (by kernel_rfl) (by kernel_rfl) ?_ | refine wp_region_ext (by kernel_rfl) (by kernel_rfl) ?_); (try dsimp only [append_cons', append_nil']); (repeat (go_big_quiet_step ((fail)))); refine wpQuiet_nil ?_; rintro _ ⟨pq, rfl⟩)
            go_wp2
            all_goals
              go_roundw
              case rel => exact ⟨hx.trans (ext_more _ _), i + 1, by go_num, by omega⟩
              case measure => simp [intOf]; omega
          · obtain ⟨s1', s2'⟩ := hg2 ho
            subst s1'
            clear hg1 hg2 s2'
            go_wp2
            ((first | refine wp_region_more (by kernel_rfl) (by kernel_rfl) ?_ | refine wp_region_ext (by kernel_rfl) (by kernel_rfl) ?_); (try dsimp only [append_cons', append_nil']); (repeat (go_big_quiet_step ((fail)))); refine wpQuiet_nil ?_; rintro _ ⟨pq, rfl⟩)
            go_wp2
            all_goals
              go_roundw
              case rel => exact ⟨hx.trans (ext_more _ _), i + 1, by go_num, by omega⟩
              case measure => simp [intOf]; omega
        · have hf1 : (f == 3) = false := by simpa using hf
          by_cases ho : o = 3
          · subst ho
            clear hg1 hg2
            go_wp2
            ((first | refine wp_region_more (by kernel_rfl) (by kernel_rfl) ?_ | refine wp_region_ext (by kernel_rfl) (by kernel_rfl) ?_); (try dsimp only [append_cons', append_nil']); (repeat (go_big_quiet_step ((fail)))); refine wpQuiet_nil ?_; rintro _ ⟨pq, rfl⟩)
            go_wp2
            all_goals
              go_roundw
              case rel => exact ⟨hx.trans (ext_more _ _), i + 1, by go_num, by omega⟩
              case measure => simp [intOf]; omega
          · obtain ⟨s1', s2'⟩ := hg2 ho
            subst s1' s2'
            have ho1 : (v != 3) = true := by simpa using ho
            have ho2 : (v != v) = false := by simp
            clear hg1 hg2
            go_wp2
            ((first | refine wp_region_more (by kernel_rfl) (by kernel_rfl) ?_ | refine wp_region_ext (by kernel_rfl) (by kernel_rfl) ?_); (try dsimp only [append_cons', append_nil']); (repeat (go_big_quiet_step ((fail)))); refine wpQuiet_nil ?_; rintro _ ⟨pq, rfl⟩)
            go_wp2
            all_goals
              go_roundw
              case rel => exact ⟨hx.trans (ext_more _ _), i + 1, by go_num, by omega⟩
              case measure => simp [intOf]; omega
      · obtain rfl : i = 8 := by omega
        have HO6 := hid (HO5.out.ext hx)
        have K6 := hid (K5.out.ext hx)
        have m0 := hx.cell c0
        have m1 := hx.cell c1
        have m2 := hx.cell c2
        have m3 := hx.cell c3
        have hN6 : N + 14 < wr.heap.size := World.block_lt_of_cell? _ _ m0
        clear HO5 K5 c0 c1 c2 c3 hN5 HP5 HF5 HQ HG
        go_upto_region 19 with (go_at_call 9; (refine (gTurn (p := p) (x := 0) (K6.out.ext ext_by) (HO6.out.ext ext_by) (lit_ints [0, 0, 0, 0] (by simp) rfl (by simp)) rfl).mono ?_); rintro e w6 ⟨z1', y1, z2', y2, rfl, hx6, hZ, hH⟩)
        have X9 : Ext wr w6 := Ext.trans ext_by hx6
        have HZ : Hid (Ints w6 (.slice z1' 8 y1) (gO p)) := hid (by have := g_none p; rw [← this]; exact hZ)
        have HO7 := hid (HO6.out.ext X9)
        have K7 := hid (K6.out.ext X9)
        have d0 := X9.cell m0
        have d1' := X9.cell m1
        have d2' := X9.cell m2
        have d3 := X9.cell m3
        have hN7 : N + 14 < w6.heap.size := World.block_lt_of_cell? _ _ d0
        have X10 := X8.trans X9
        have n0 := more_cell d0
        have n1 := more_cell d1'
        have n2 := more_cell d2'
        have n3 := more_cell d3
        have hge := g_amt x y HXY.out
        obtain ⟨b1', b2'⟩ := g_amtb x
        obtain ⟨b3', b4'⟩ := g_amtb y
        have A1 := hid (fun u (k : KV N gC u) => gAmt k (x := (x.val : Int)) 3)
        have A2 := hid (fun u (k : KV N gC u) => gAmt k (x := (y.val : Int)) 3)
        generalize amtN gC 3 (x.val : Int) = t1 at *
        generalize amtN gC 3 (y.val : Int) = t2 at *
        clear hZ hH hx6 X9 m0 m1 m2 m3 hN6 K6 HO6 hx
        go_wp2
        ((first | refine wp_region_more (by kernel_rfl) (by kernel_rfl) ?_ | refine wp_region_ext (by kernel_rfl) (by kernel_rfl) ?_); (try dsimp only [append_cons', append_nil']); (repeat (go_big_quiet_step ((first | (go_at_call 13; (with_reducible refine Calls.more_of (sameI_to (HZ.out.ext (ext_more _ _)) (HO7.out.ext (ext_more _ _))))) | (go_at_call 11; (with_reducible refine Calls.more_of (A2.out _ (K7.out.ext (ext_more _ _))))) | (go_at_call 11; (with_reducible refine Calls.more_of (A1.out _ (K7.out.ext (ext_more _ _))))))))); refine wpQuiet_nil ?_; rintro _ ⟨pq, rfl⟩)
        go_wp2
        go_returns
        exact ⟨by simp [hge], X10.more _⟩

set_option linter.unusedVariables false in
set_option maxRecDepth 100000 in
theorem lifted (os : Os) (started : os.Started) (H : Type) (enc : TypeId × Value → H) :
    ReturnsInHanded {} Try.checked os 6 .any (Rows.releaseGrowsSpec.pre6 enc Try.prog Try.f6 Rows.releaseGrowsRow.domain false) (Rows.releaseGrowsSpec.post enc Try.prog Try.f6 false true false false) := by
  refine returnsInHanded_of_change (C := Try.checked) Own.own started (by kernel_rfl) Try.func6
    (ChangeSpec.witness6 (enc := enc) (C := Try.checked) false ⟨#[], #[.int .u8 0, .int .u8 0, .int .u8 0], []⟩ 8 (by kernel_rfl) (by kernel_rfl) (by kernel_rfl) (by kernel_rfl)) ?_
  intro W base args ds gs before hval0 hW hcnd _
  have hval : ∀ (j : Nat) t v, Try.f6.params[j]? = some t → args[j]? = some v → Value.okWide Try.prog W .any base t v := hval0
  have hW' := hW
  obtain ⟨p, q, hA0, hV, rfl, hfz, hnd⟩ := hW
  have hA : DataW.TrodAll enc Try.prog W 0 (fun _ => true) true Try.f6.params.toList args.toList ds p := hA0
  rw [Try.params6] at hA hval
  obtain ⟨v0, vs0, d0, ds0, p0, q0, hargs, rfl, rfl, h0, r0⟩ := trodAll_cons hA
  obtain ⟨v1, vs1, d1, ds1, p1, q1, rfl, rfl, rfl, h1, r1⟩ := trodAll_cons r0
  obtain ⟨v2, vs2, d2, ds2, p2, q2, rfl, rfl, rfl, h2, r2⟩ := trodAll_cons r1
  obtain ⟨rfl, rfl, rfl⟩ := trodAll_nil r2
  obtain rfl : args = #[v0, v1, v2] := by cases args; simp_all
  obtain ⟨rfl, rfl⟩ := trodVars_none hV
  have k0 := h0
  have lt0 : ∀ x ∈ p0, x.block < W.heap.size := by obtain ⟨m, hm⟩ := k0; exact DataW.trod_lt m _ _ _ hm
  have k1 := h1
  have lt1 : ∀ x ∈ p1, x.block < W.heap.size := by obtain ⟨m, hm⟩ := k1; exact DataW.trod_lt m _ _ _ hm
  have k2 := h2
  have lt2 : ∀ x ∈ p2, x.block < W.heap.size := by obtain ⟨m, hm⟩ := k2; exact DataW.trod_lt m _ _ _ hm
  obtain ⟨a, rfl, rfl, rfl, wa⟩ := open_int Try.underlying5 (hval 0 5 v0 rfl rfl) h0
  obtain ⟨b, rfl, rfl, rfl, wb⟩ := open_int Try.underlying5 (hval 1 5 v1 rfl rfl) h1
  obtain ⟨pl, rfl, rfl, rfl, wp⟩ := open_int Try.underlying5 (hval 2 5 v2 rfl rfl) h2
  clear hA0 hval0
  refine (walk a b pl (wf_bounds8 wa).1 (wf_bounds8 wa).2 (wf_bounds8 wb).1 (wf_bounds8 wb).2 (wf_bounds8 wp).1 (wf_bounds8 wp).2 W).mono fun e W' ⟨he, hx⟩ => ?_
  subst he
  exact ⟨_, rfl, _, _, _, [], _, [], hW', trodAll_mk1 (shut_bool Try.underlying4 _), (trodAll_cons_mk (Below.trod Own.laidOut (by kernel_rfl) (of_decide_eq_true (by kernel_rfl)) k0 hx.below lt0) (trodAll_cons_mk (Below.trod Own.laidOut (by kernel_rfl) (of_decide_eq_true (by kernel_rfl)) k1 hx.below lt1) (trodAll_cons_mk (Below.trod Own.laidOut (by kernel_rfl) (of_decide_eq_true (by kernel_rfl)) k2 hx.below lt2) trodAll_mk0))), rfl, hx.below.frame _, fun h => by cases h⟩

theorem proved : Rows.ReleaseGrowsSaid :=
  OpenClaim.holds_of_wide 6 Try.f6 rfl rfl rfl rfl rfl rfl rfl ⟨rfl, rfl, rfl, rfl, rfl⟩ rfl rfl rfl rfl rfl (by kernel_rfl) Try.func6 (by kernel_rfl)
    (of_decide_eq_true (by kernel_rfl)) (by unfold Func.isWrapper; first | (rw [if_pos (by decide +kernel)]; kernel_rfl) | (rw [if_neg (by decide +kernel)]; exact ⟨rfl, rfl⟩))
    (fun os started H enc _ => lifted os started H enc)

end releaseGrows
end Go.Proofs.Ytfjhcmpcnnjodaa
