/- The program's counts, whatever comes in. -/
import Derived.Test.YtikecpgdacphjaaRows
import Derived.Test.YtikecpgdacphjaaLib
import Derived.Test.YtikecpgdacphjaaFlAll
import Derived.Test.YtikecpgdacphjaaShM
import Derived.Test.YtikecpgdacphjaaMv
import Derived.Test.YtikecpgdacphjaaInts
import Derived.Test.YtikecpgdacphjaaBlk
import Derived.Test.YtikecpgdacphjaaCxq
import Derived.WalkKit
import Derived.WalkSpells
import Derived.WalkLawsBesides
import Derived.Deep.QuietTactic
import Derived.BigQuiet
import Derived.Deep.RegionHeld3
import Derived.Handy
import Derived.Laws.Externs
import Derived.Laws.ComplexArith
import Derived.Laws.FloatArith
import Derived.Deep.LoopGhost
import Derived.Test.YtikecpgdacphjaaShD
import Derived.Laws.MakeOwn
import Derived.Deep.CutRange
import Derived.Deep.CutBlock
namespace Go.Proofs.Ytikecpgdacphjaa
open Go.RowKit

theorem toIntegral_num {x m : Nat} {s : Bool} {p : Int} (h : FloatKind.f64.decode x = .number s m p) (n : String) (way : Ieee.Toward) : Extern.MathFloor.toIntegral n way #[.float .f64 x] = pure (.float .f64 (FloatKind.f64.encode ((FloatKind.f64.decode x).integral way))) := by
  show Extern.MathFloor.toIntegral.match_1 _ (FloatKind.f64.decode x) _ _ = _
  rw [h]
theorem run_floor {x m : Nat} {s : Bool} {p : Int} (h : FloatKind.f64.decode x = .number s m p) (w : World) : (callFunc 54 #[.float .f64 x]).run Try.prog w = .ok (.value (.float .f64 (floorF x))) w := by
  rw [@run_callFunc_extern Try.prog 54 _ (Extern.MathFloor.toIntegral "math.archFloor" .down) Try.func54 (by kernel_rfl) (by kernel_rfl) (by kernel_rfl) (by kernel_rfl)]
  rw [toIntegral_num h]
  rfl

set_option maxHeartbeats 400000 in
/-- One whole number parted by another, rounded down. -/
theorem floor_any {x m : Nat} {s : Bool} {p : Int} (h : FloatKind.f64.decode x = .number s m p) (w : World) : Calls Try.prog 42 #[.float .f64 x] w (Yields w (.float .f64 (floorF x))) := by
  have r1 := fun w => run_floor h w
  clear h
  generalize floorF x = y at *
  go_enter Try.func42, Try.ntmps42
  go_wp2_with (simp only [r1])
  all_goals
    go_returns
    exact ⟨by simp, ext_by⟩

set_option maxHeartbeats 400000 in
/-- A part that has more quanta. -/
theorem after_any {a b c d e u v r s : Nat} (h1 : cMulBits c 0 d e = some (u, v)) (h2 : cSumBits .add .f64 a b u v = some (r, s)) (w : World) : Calls Try.prog 43 #[.complex .f64 a b, .float .f64 c, .complex .f64 d e] w (Yields w (.complex .f64 r s)) := by
  have hop1 := fun t w => run_complex_mul (P := Try.prog) w t c 0 d e u v h1
  have hop2 := fun t w => run_complex_sum (P := Try.prog) w .add (.inl rfl) t .f64 a b u v r s h2
  clear h1 h2
  go_enter Try.func43, Try.ntmps43
  go_wp2
  all_goals
    go_returns
    exact ⟨by simp, ext_by⟩

set_option maxRecDepth 100000 in
set_option maxHeartbeats 1000000 in
/-- The place of the part to which most is due. -/
theorem greatest_any {g : Nat} {P : List Pr} {w : World} (h : Cx w g P) (hP : P.length ≤ maxLen) (hb : ∀ p ∈ P, p.2.natAbs < 2 ^ 53) : Calls Try.prog 44 #[.slice (some ⟨g, 0, none⟩) P.length P.length] w (Yields w (.int .i64 (am (rs P)))) := by
  have HB := hid hb
  have HC := hid h
  have hg := h.lt
  unfold maxLen at hP
  clear h hb
  go_enter Try.func44, Try.ntmps44
  go_wp2
  go_loopw [3, 8] (fun v3 v8 wr => Ext w wr ∧ ∃ k m : Nat, v8 = .int .i64 k ∧ v3 = .int .i64 m ∧ k ≤ P.length ∧ Hid (m = amTo (rs P) k)) (fun _ v8 _ => (P.length - intOf v8).toNat)
  case atStart => exact ⟨Ext.refl _, 0, 0, rfl, rfl, by omega, rfl⟩
  case round =>
    obtain ⟨hx, k, m, rfl, rfl, hk, hm⟩ := hrel
    by_cases hlt : k < P.length
    · have hml : m < P.length := by
        rw [hm.out]
        by_cases h0 : k = 0
        · subst h0; simp only [amTo]; omega
        · have := amTo_lt (rs P) k (by omega); omega
      have c0 := hx.cell (HC.out.at hlt)
      have c1 := hx.cell (HC.out.at hml)
      have b0 := HB.out _ (List.getElem_mem hlt)
      have b1 := HB.out _ (List.getElem_mem hml)
      have hgt := gt_Fz b0 b1
      have hst : amTo (rs P) (k + 1) = if P[m].2 < P[k].2 then k else m := by
        have e1 := rs_get P hml
        have e2 := rs_get P hlt
        have := hm.out
        simp only [amTo]; rw [← this, e1, e2]
      have HST := hid hst
      clear hst
      generalize P[k].2 = y at *
      generalize P[m].2 = z at *
      generalize P[k].1 = y' at *
      generalize P[m].1 = z' at *
      have i1 : (k : Int) < P.length := by omega
      have i2 : (m : Int) < P.length := by omega
      by_cases hc : z < y
      · rw [decide_eq_true hc] at hgt
        go_wp2
        all_goals
          go_roundw
          case rel => exact ⟨ext_by, k + 1, k, by go_num, rfl, by omega, hid (by rw [HST.out, if_pos hc])⟩
          case measure => simp [intOf]; omega
      · rw [decide_eq_false hc] at hgt
        go_wp2
        all_goals
          go_roundw
          case rel => exact ⟨ext_by, k + 1, m, by go_num, rfl, by omega, hid (by rw [HST.out, if_neg hc])⟩
          case measure => simp [intOf]; omega
    · obtain rfl : k = P.length := by omega
      have he := hm.out
      have HE : Hid (m = am (rs P)) := hid (by rw [he, am, rs_length])
      clear he
      go_wp2
      go_returns
      exact ⟨by simp [HE.out], hx⟩
end Go.Proofs.Ytikecpgdacphjaa

namespace Go.Proofs.Ytikecpgdacphjaa
open Go.RowKit

set_option maxRecDepth 100000 in
set_option maxHeartbeats 1000000 in
theorem may_any {f : Int} {l : List Int} {v : Value} {w : World} (h : Ints w v l) : Calls Try.prog 40 #[.int .i64 f, v] w (Yields w (.bool (mayS f l))) := by
  obtain ⟨pa, ca, rfl, hca, hma⟩ := h.shape
  unfold maxLen at hma
  have HA := hid h
  clear h
  by_cases hf1 : f < 1
  · have hr : Hid (mayS f l = false) := hid (by simp [mayS]; intros; omega)
    go_enter Try.func40, Try.ntmps40
    go_wp2
    go_returns
    exact ⟨by simp [hr.out], ext_by⟩
  by_cases hf2 : 64 < f
  · have hr : Hid (mayS f l = false) := hid (by simp [mayS]; intros; omega)
    go_enter Try.func40, Try.ntmps40
    go_wp2
    go_returns
    exact ⟨by simp [hr.out], ext_by⟩
  by_cases hl : (6 : Int) < l.length
  · have hr : Hid (mayS f l = false) := hid (by simp [mayS]; intros; omega)
    go_enter Try.func40, Try.ntmps40
    go_wp2
    go_returns
    exact ⟨by simp [hr.out], ext_by⟩
  have hr : Hid (mayS f l = (l.all (fun x => decide (0 ≤ x) && decide (x ≤ 1000)) && l.any fun x => decide (0 < x))) := hid (by
    unfold mayS
    rw [decide_eq_true (by omega), decide_eq_true (by omega), decide_eq_true (by omega)]; simp)
  go_enter Try.func40, Try.ntmps40
  go_wp2
  go_loopw [5, 21] (fun v5 v21 wr => Ext w wr ∧ ∃ (k : Nat) (b : Bool), v21 = .int .i64 k ∧ v5 = .bool b ∧ k ≤ l.length ∧ Hid (b = (l.take k).any fun x => decide (0 < x)) ∧ Hid ((l.take k).all (fun x => decide (0 ≤ x) && decide (x ≤ 1000)) = true)) (fun _ v21 _ => (l.length - intOf v21).toNat)
  case atStart => exact ⟨Ext.refl _, 0, false, rfl, rfl, by omega, hid (by simp), hid (by simp)⟩
  case round =>
    obtain ⟨hx, k, b, rfl, rfl, hk, ha, hb⟩ := hrel
    by_cases hlt : k < l.length
    · obtain ⟨ba, oa, rfl, a0⟩ := HA.out.at k hlt
      have m0 := hx.cell a0
      simp only [Nat.mul_one] at m0
      have e1 : Hid ((l.take (k + 1)).any (fun x => decide (0 < x)) = (b || decide (0 < l[k]))) := hid (by
        rw [List.take_succ_eq_append_getElem hlt, List.any_append, ← ha.out]; simp)
      have e2 : Hid ((l.take (k + 1)).all (fun x => decide (0 ≤ x) && decide (x ≤ 1000)) = (decide (0 ≤ l[k]) && decide (l[k] ≤ 1000))) := hid (by
        rw [List.take_succ_eq_append_getElem hlt, List.all_append, hb.out]; simp)
      have e3 : Hid ((decide (0 ≤ l[k]) && decide (l[k] ≤ 1000)) = false → l.all (fun x => decide (0 ≤ x) && decide (x ≤ 1000)) = false) := hid (fun h => by
        rw [← Bool.not_eq_true, List.all_eq_true]
        intro hh
        have := hh _ (List.getElem_mem hlt)
        rw [this] at h; cases h)
      clear a0 ha hb
      generalize l[k] = x at *
      have i1 : (k : Int) < l.length := by omega
      by_cases h1 : x < 0
      · have hn := e3.out (by simp; omega)
        have HN : Hid (mayS f l = false) := hid (by rw [hr.out, hn]; rfl)
        clear hn
        go_wp2
        go_returns
        exact ⟨by simp [HN.out], hx⟩
      by_cases h2 : 1000 < x
      · have hn := e3.out (by simp; omega)
        have HN : Hid (mayS f l = false) := hid (by rw [hr.out, hn]; rfl)
        clear hn
        go_wp2
        go_returns
        exact ⟨by simp [HN.out], hx⟩
      have E2 : Hid ((l.take (k + 1)).all (fun x => decide (0 ≤ x) && decide (x ≤ 1000)) = true) := hid (by rw [e2.out]; simp; omega)
      clear e2 e3
      cases b
      · by_cases h3 : 0 < x
        · have E1 : Hid (true = (l.take (k + 1)).any (fun x => decide (0 < x))) := hid (by rw [e1.out]; simp [h3])
          clear e1
          go_wp2
          all_goals
            go_roundw
            case rel => exact ⟨hx, k + 1, true, by go_num, rfl, by omega, E1, E2⟩
            case measure => simp [intOf]; omega
        · have E1 : Hid (false = (l.take (k + 1)).any (fun x => decide (0 < x))) := hid (by rw [e1.out]; simp [h3])
          clear e1
          go_wp2
          all_goals
            go_roundw
            case rel => exact ⟨hx, k + 1, false, by go_num, rfl, by omega, E1, E2⟩
            case measure => simp [intOf]; omega
      · have E1 : Hid (true = (l.take (k + 1)).any (fun x => decide (0 < x))) := hid (by rw [e1.out]; simp)
        clear e1
        go_wp2
        all_goals
          go_roundw
          case rel => exact ⟨hx, k + 1, true, by go_num, rfl, by omega, E1, E2⟩
          case measure => simp [intOf]; omega
    · obtain rfl : k = l.length := by omega
      have h1 := ha.out
      have h2 := hb.out
      rw [List.take_length] at h1 h2
      have HE : Hid (mayS f l = b) := hid (by rw [hr.out, h2, ← h1]; rfl)
      clear h1 h2 ha hb
      go_wp2
      go_returns
      exact ⟨by simp [HE.out], hx⟩
theorem may_to {f : Int} {l : List Int} {v : Value} {w : World} {r : Bool} (h : Ints w v l) (e : mayS f l = r) : Calls Try.prog 40 #[.int .i64 f, v] w (Yields w (.bool r)) := e ▸ may_any h

set_option maxRecDepth 100000 in
set_option maxHeartbeats 2000000 in
theorem due_any {f : Int} {l : List Int} {v : Value} {w : World} (hM : May f l) (h : Ints w v l) : Calls Try.prog 41 #[.int .i64 f, v] w fun e w' => e = .returned (.tuple #[.slice (some ⟨w.heap.size, 0, none⟩) l.length l.length, .complex .f64 4607182418800017408 (Fz (-tot l))]) ∧ Ext w w' ∧ Cx w' w.heap.size (ini f l) := by
  obtain ⟨pa, ca, rfl, hca, hma⟩ := h.shape
  unfold maxLen at hma
  have HA := hid h
  have HM := hid hM
  have hf1 := hM.f1
  have hf2 := hM.f64
  have hn := hM.len
  have hmk := run_makeC l.length hn
  clear h hM
  obtain ⟨g, hg⟩ : ∃ g, g = w.heap.size := ⟨_, rfl⟩
  go_enter Try.func41, Try.ntmps41
  go_upto_region 2 with (fail)
  refine wp_forget (fun u => Ext w u ∧ Hid (Blk u g 58 (List.replicate l.length (Value.complex .f64 0 0)))) ⟨ext_by, hid (by have := Blk.new w 58 (List.replicate l.length (Value.complex .f64 0 0)); rw [hg]; simpa using this)⟩ ?_
  rintro w1 ⟨hx1, hb1⟩
  rw [← hg]
  have hgw : w.heap.size ≤ g := by omega
  have HG := hid hg
  clear hg
  go_wp2
  go_loopw [6, 14] (fun v6 v14 wr => Ext w wr ∧ ∃ (k : Nat) (s : Int) (L : List Value), v14 = .int .i64 k ∧ v6 = .int .i64 s ∧ k ≤ l.length ∧ Hid (s = tot (l.take k)) ∧ Hid (Blk wr g 58 L) ∧ Hid (L.length = l.length) ∧ Hid (L.take k = (ini f (l.take k)).map cV)) (fun _ v14 _ => (l.length - intOf v14).toNat)
  case atStart => exact ⟨hx1, 0, 0, _, rfl, rfl, by omega, hid (by simp [tot]), hb1, hid (by simp), hid (by simp [ini])⟩
  case round =>
    obtain ⟨hx, k, s, L, rfl, rfl, hk, hs, hB, hL, hT⟩ := hrel
    by_cases hlt : k < l.length
    · obtain ⟨ba, oa, rfl, a0⟩ := HA.out.at k hlt
      have m0 := hx.cell a0
      simp only [Nat.mul_one] at m0
      have hkL : k < L.length := by have := hL.out; omega
      have c0 := hB.out.cell hkL
      have c1 := hB.out.frozen k
      have c2 := hB.out.lt
      have x1 := HM.out.lo _ (List.getElem_mem hlt)
      have x2 := HM.out.hi _ (List.getElem_mem hlt)
      have b1 := prod_bounds hf1 hf2 x1 x2
      have hsb : Hid (tot (l.take (k + 1)) = s + l[k]) := hid (by rw [tot_take l k hlt, ← hs.out])
      have s1 : 0 ≤ s := by rw [hs.out]; exact tot_nonneg _ fun x hx => HM.out.lo x (List.mem_of_mem_take hx)
      have s2 : s ≤ 1000 * k := by
        rw [hs.out]
        have := tot_bound 1000 (l.take k) fun x hx => HM.out.hi x (List.mem_of_mem_take hx)
        rw [List.length_take, Nat.min_eq_left hk] at this; exact this
      have hT2 : Hid ((L.set k (cV (0, f * l[k]))).take (k + 1) = (ini f (l.take (k + 1))).map cV) := hid (by
        rw [take_set_succ hkL, hT.out, List.take_succ_eq_append_getElem hlt, ini, ini, List.map_append, List.map_append]; rfl)
      have hB2 : Hid (Blk (wr.setCell ⟨g, k, none⟩ (cV (0, f * l[k]))) g 58 (L.set k (cV (0, f * l[k])))) := hid (hB.out.set k _)
      clear a0 hT hB
      generalize l[k] = x at *
      have e1 := floatOfInt_eq (z := f * x) (by omega)
      have ez : cV (0, f * x) = .complex .f64 0 (Fz (f * x)) := by unfold cV; rw [zero_Fz]
      rw [ez] at hB2 hT2
      clear ez
      have i1 : (k : Int) < l.length := by omega
      generalize L[k] = old at *
      have i3 : s + x ≤ 9223372036854775807 := by omega
      have i4 : -9223372036854775808 ≤ s + x := by omega
      go_wp2
      all_goals
        go_roundw
        case rel => exact ⟨ext_by, k + 1, s + x, _, by go_num, rfl, by omega, hid hsb.out.symm, hB2, hid (by rw [List.length_set]; exact hL.out), hT2⟩
        case measure => simp [intOf]; omega
    · obtain rfl : k = l.length := by omega
      have h1 := hs.out
      have h2 := hT.out
      rw [List.take_length] at h1 h2
      rw [← hL.out, List.take_length] at h2
      have hC : Hid (Cx wr g (ini f l)) := hid (by have := hB.out; rw [h2] at this; exact this)
      have hS1 := HM.out.S1
      have hS6 := HM.out.S6
      rw [← h1] at hS1 hS6
      have HS : Hid (s = tot l) := hid h1
      have e1 := floatOfInt_eq (z := s) (by omega)
      have e2 := neg_Fz (z := s) (by omega) (by omega)
      clear h1 h2 hs hT hL
      go_wp2
      all_goals
        refine bodyPost_ret (v := .tuple #[.slice (some ⟨g, 0, none⟩) l.length l.length, .complex .f64 4607182418800017408 (Fz (-s))]) (by simp [results, Try.results41, go_sem]) rfl ⟨by rw [HS.out, HG.out], hx, by rw [← HG.out]; exact hC.out⟩

/-! The sign taken out. -/
theorem andNot_sign (n : Nat) (h : n < 2 ^ 64) : bits BinOp.andNot IntKind.u64 (n : Int) 9223372036854775808 = ((n % 2 ^ 63 : Nat) : Int) := by
  rw [u64_andNot (n : Int) 9223372036854775808 (by omega) (by omega) (by omega) (by omega)]
  have := Nat.and_two_pow_sub_one_eq_mod n 63
  rw [← this]
  rfl
theorem run_f64bits (b : Nat) (w : World) : (callFunc 67 #[.float .f64 b]).run Try.prog w = .ok (.value (.int .u64 (b : Int))) w := by
  rw [@run_callFunc_extern Try.prog 67 _ Extern.MathFloatBits.float64bits Try.func67 (by kernel_rfl) (by kernel_rfl) (by kernel_rfl) (by kernel_rfl)]; rfl
theorem run_f64frombits (b : Int) (w : World) : (callFunc 66 #[.int .u64 b]).run Try.prog w = .ok (.value (.float .f64 b.toNat)) w := by
  rw [@run_callFunc_extern Try.prog 66 _ Extern.MathFloatBits.float64frombits Try.func66 (by kernel_rfl) (by kernel_rfl) (by kernel_rfl) (by kernel_rfl)]; rfl
set_option maxHeartbeats 400000 in
theorem abs_any (x : Nat) (hx : x < 2 ^ 64) (w : World) : Calls Try.prog 62 #[.float .f64 x] w (Yields w (.float .f64 (x % 2 ^ 63))) := by
  have e1 := andNot_sign x hx
  have e2 : x % 2 ^ 63 < 2 ^ 64 := by omega
  have r1 := run_f64bits
  have r2 := run_f64frombits
  clear hx
  generalize x % 2 ^ 63 = G at *
  go_enter Try.func62, Try.ntmps62
  go_wp2_with (simp only [r1, r2])
  all_goals
    go_returns
    exact ⟨by simp, ext_by⟩
end Go.Proofs.Ytikecpgdacphjaa

namespace Go.Proofs.Ytikecpgdacphjaa
open Go.RowKit

theorem counts_none {f : Int} {l : List Int} {v : Value} {w : World} (h : Ints w v l) (hm : mayS f l = false) : Calls Try.prog 23 #[.int .i64 f, v] w (Yields w (.slice none 0 0)) := by
  have H := hid h
  have HM := hid hm
  clear h hm
  go_enter Try.func23, Try.ntmps23
  go_wp2_with (go_at_call 40; refine (may_to H.out HM.out).yields ?_; intro p)
  go_returns
  exact ⟨by simp, ext_by⟩

theorem quo_Fz {a S : Int} (h0 : 0 ≤ a) (h1 : a < 2 ^ 20) (h2 : 0 < S) (h3 : S < 2 ^ 20) : ∃ x s m p, Ieee.double.div (Fz a) (Fz S) = some x ∧ FloatKind.f64.decode x = .number s m p ∧ floorF x = Fz (a / S) := by
  obtain ⟨a', rfl⟩ := Int.eq_ofNat_of_zero_le h0
  obtain ⟨S', rfl⟩ := Int.eq_ofNat_of_zero_le (Int.le_of_lt h2)
  exact div_floor (by omega) (by omega) (by omega)

set_option maxRecDepth 100000 in
theorem part_step {a S : Int} (h0 : 0 ≤ a) (h1 : a ≤ 64000) (h2 : 1 ≤ S) (h3 : S ≤ 6000) : cMulBits (Fz (a / S)) 0 4607182418800017408 (Fz (-S)) = some (Fz (a / S), Fz (-(a / S * S))) ∧ cSumBits .add .f64 0 (Fz a) (Fz (a / S)) (Fz (-(a / S * S))) = some (Fz (a / S), Fz (a % S)) := by
  have d0 : 0 ≤ a / S := Int.ediv_nonneg h0 (by omega)
  have d1 : a / S ≤ a := Int.ediv_le_self S h0
  have d2 := Int.mul_ediv_add_emod a S
  have d3 : a / S * S = S * (a / S) := Int.mul_comm _ _
  have d4 := Int.emod_nonneg a (show S ≠ 0 by omega)
  have d5 := Int.emod_lt_of_pos a (show 0 < S by omega)
  have t := times_Fz (q := a / S) (S := S) (by omega) (by omega) (by omega)
  have u := sum_Fz (a := 0) (b := a) (c := a / S) (d := -(a / S * S)) (by decide) (by omega) (by omega) (by omega)
  rw [zero_Fz, one_Fz] at t
  rw [zero_Fz, Int.zero_add, show a + -(a / S * S) = a % S by omega] at u
  exact ⟨t, u⟩

theorem run_div {a S : Int} {x : Nat} (h : Ieee.double.div (Fz a) (Fz S) = some x) (t : TypeId) (w : World) : (binOp .quo t (.float .f64 (Fz a)) (.float .f64 (Fz S))).run Try.prog w = .ok (.float .f64 x) w := run_float_arith w .quo t .f64 _ _ _ h
theorem neg_neg_Fz {S : Int} (h1 : 1 ≤ S) (h2 : S ≤ 6000) : Op.negFloat .f64 (Fz (-S)) = Fz S := by
  have := neg_Fz (z := -S) (by omega) (by omega)
  rwa [Int.neg_neg] at this

/-- How it stands while a quantum after another is given. -/
structure Giv (w : World) (g : Nat) (f : Int) (l : List Int) (n : Nat) (P : List Pr) (wr : World) : Prop where
  ext : Ext w wr
  cx : Cx wr g P
  inv : Inv f l n P
  run : runP (tot l) n P = runP (tot l) (leftN f (tot l) l).toNat (low f (tot l) l)

theorem Giv.more {w wr u : World} {g n : Nat} {f : Int} {l : List Int} {P : List Pr} (h : Giv w g f l n P wr) (k : Ext wr u) : Giv w g f l n P u := ⟨h.ext.trans k, h.cx.ext k, h.inv, h.run⟩

set_option maxRecDepth 100000 in
set_option maxHeartbeats 4000000 in
theorem counts_any {f : Int} {l : List Int} {v : Value} {w : World} (hM : May f l) (hm : mayS f l = true) (h : Ints w v l) : Calls Try.prog 23 #[.int .i64 f, v] w fun e w' => ∃ g, e = .returned (.slice (some ⟨g, 0, none⟩) l.length l.length) ∧ w.heap.size ≤ g ∧ Ext w w' ∧ Iz w' g (countsL f l) := by
  have H := hid h
  have HM := hid hM
  have Hm := hid hm
  have hf1 := hM.f1
  have hf2 := hM.f64
  have hn := hM.len
  have hS1 := hM.S1
  have hS6 := hM.S6
  have hl0 := left_nonneg hM
  have hl64 := left_le hM
  have HN := hid (neg_neg_Fz hS1 hS6)
  clear h hm hM
  go_enter Try.func23, Try.ntmps23
  go_upto_region 3 with (go_at_call 40; refine (may_to H.out Hm.out).yields ?_; intro p)
  have hxm := ext_more w p
  have HI1 := hid (H.out.ext hxm)
  generalize more w p = w0 at *
  go_upto_region 4 with (go_at_call 41; refine (due_any HM.out HI1.out).mono ?_; rintro e w1 ⟨rfl, hx1, hc1⟩)
  have hgw : w.heap.size ≤ w0.heap.size := hxm.size
  have hx2 : Ext w w1 := hxm.trans hx1
  clear hx1 hxm HI1
  generalize w0.heap.size = g at *
  have HC1 := hid hc1
  clear hc1 w0
  go_wp2
  go_loopw [7, 26] (fun v7 v26 wr => Ext w wr ∧ ∃ (k : Nat) (a b : Int), v26 = .int .i64 k ∧ v7 = .complex .f64 (Fz a) (Fz b) ∧ k ≤ l.length ∧ Hid (a = tot (cs (low f (tot l) (l.take k))) ∧ b = tot (rs (low f (tot l) (l.take k)))) ∧ Hid (Cx wr g (mid f l k))) (fun _ v26 _ => (l.length - intOf v26).toNat)
  case atStart => exact ⟨hx2, 0, 0, 0, rfl, by rw [zero_Fz], by omega, hid ⟨by simp [low, cs, tot], by simp [low, rs, tot]⟩, hid (by rw [mid_zero]; exact HC1.out)⟩
  case round =>
    obtain ⟨hx, k, a, b, rfl, rfl, hk, hab, hC⟩ := hrel
    by_cases hlt : k < l.length
    · have hmk : k < (mid f l k).length := by rw [mid_length f l (by omega)]; exact hlt
      have hmg := mid_get f l hlt
      have hmg' : (mid f l k)[k] = (0, f * l[k]) := by rw [List.getElem?_eq_getElem hmk] at hmg; exact Option.some.inj hmg
      have c0 := hC.out.at hmk
      rw [hmg'] at c0
      simp only at c0
      rw [zero_Fz] at c0
      have c1 := hC.out.frozen k
      have c2 := hC.out.lt
      have x1 := HM.out.lo _ (List.getElem_mem hlt)
      have x2 := HM.out.hi _ (List.getElem_mem hlt)
      have b1 := prod_bounds hf1 hf2 x1 x2
      have hrb := rem_bounds HM.out (List.getElem_mem hlt)
      have hst := tot_take_low f (tot l) l hlt
      have hms := mid_set f l hlt
      have hb1 : 0 ≤ a ∧ a ≤ 64 * k ∧ 0 ≤ b ∧ b ≤ 6000 * k := by
        rw [hab.out.1, hab.out.2]
        have hl : (low f (tot l) (l.take k)).length = k := by rw [low_length, List.length_take, Nat.min_eq_left hk]
        refine ⟨tot_nonneg _ ?_, ?_, tot_nonneg _ ?_, ?_⟩
        · intro r hr
          simp only [cs, low, List.map_map, List.mem_map] at hr
          obtain ⟨x, hx, rfl⟩ := hr
          exact (rem_bounds HM.out (List.mem_of_mem_take hx)).1
        · have := tot_bound 64 (cs (low f (tot l) (l.take k))) fun r hr => by
            simp only [cs, low, List.map_map, List.mem_map] at hr
            obtain ⟨x, hx, rfl⟩ := hr
            exact (rem_bounds HM.out (List.mem_of_mem_take hx)).2.1
          rwa [cs_length, hl] at this
        · intro r hr
          simp only [rs, low, List.map_map, List.mem_map] at hr
          obtain ⟨x, hx, rfl⟩ := hr
          exact (rem_bounds HM.out (List.mem_of_mem_take hx)).2.2.1
        · have := tot_bound 6000 (rs (low f (tot l) (l.take k))) fun r hr => by
            simp only [rs, low, List.map_map, List.mem_map] at hr
            obtain ⟨x, hx, rfl⟩ := hr
            have := (rem_bounds HM.out (List.mem_of_mem_take hx)).2.2.2
            simp only [Function.comp]
            omega
          rwa [rs_length, hl] at this
      obtain ⟨hp1, hp2⟩ := part_step b1.1 b1.2 hS1 hS6
      obtain ⟨X, s', m', p', hd1, hd2, hd3⟩ := quo_Fz b1.1 (show f * l[k] < 2 ^ 20 by omega) (show 0 < tot l by omega) (show tot l < 2 ^ 20 by omega)
      have hdiv := run_div hd1
      have hneg := HN.out
      have HF : Hid (Calls Try.prog 42 #[.float .f64 X] wr (Yields wr (.float .f64 (Fz (f * l[k] / tot l))))) := hid (by rw [← hd3]; exact floor_any hd2 wr)
      have hA : Hid (∀ u, Calls Try.prog 43 #[.complex .f64 0 (Fz (f * l[k])), .float .f64 (Fz (f * l[k] / tot l)), .complex .f64 4607182418800017408 (Fz (-tot l))] u (Yields u (.complex .f64 (Fz (f * l[k] / tot l)) (Fz (f * l[k] % tot l))))) := hid (fun u => after_any hp1 hp2 u)
      clear hd1 hd2 hd3 hp1 hp2
      have hsum := fun t w => run_complex_sum (P := Try.prog) w .add (.inl rfl) t .f64 _ _ _ _ _ _ (sum_Fz (a := a) (b := b) (c := f * l[k] / tot l) (d := f * l[k] % tot l) (by omega) (by omega) (by omega) (by omega))
      have HC2 : Hid (∀ u, Ext wr u → Cx (u.setCell ⟨g, k, none⟩ (.complex .f64 (Fz (f * l[k] / tot l)) (Fz (f * l[k] % tot l)))) g (mid f l (k + 1))) := hid (fun u hu => by
        have := (hC.out.ext hu).set k (.complex .f64 (Fz (f * l[k] / tot l)) (Fz (f * l[k] % tot l)))
        rw [← hms, Cx, List.map_set]; exact this)
      have HAB : Hid (a + f * l[k] / tot l = tot (cs (low f (tot l) (l.take (k + 1)))) ∧ b + f * l[k] % tot l = tot (rs (low f (tot l) (l.take (k + 1))))) := hid (by rw [hst.1, hst.2, ← hab.out.1, ← hab.out.2]; exact ⟨rfl, rfl⟩)
      have HML : Hid (k < (mid f l (k + 1)).length) := hid (by rw [mid_length f l (by omega)]; exact hlt)
      have HM5 : Hid ((mid f l (k + 1))[k]'HML.out = (f * l[k] / tot l, f * l[k] % tot l)) := hid (by
        have e2 : ((mid f l k).set k (f * l[k] / tot l, f * l[k] % tot l))[k]? = some (f * l[k] / tot l, f * l[k] % tot l) := List.getElem?_set_self (by rw [mid_length f l (by omega)]; exact hlt)
        rw [hms, List.getElem?_eq_getElem HML.out] at e2
        exact Option.some.inj e2)
      have i1 : (k : Int) < l.length := by omega
      have HC0 := hid hC.out
      clear hC hab hst hms hmg hmg' hrb b1 hb1 x1 x2
      generalize f * l[k] / tot l = q at *
      generalize f * l[k] % tot l = r at *
      generalize f * l[k] = y at *
      go_upto_region 9 with (go_at_call 42; refine HF.out.yields ?_; intro p)
      have hxw := ext_more wr p
      have d0 := hxw.cell c0
      have d1 : (more wr p).frozen? ⟨g, k, none⟩ = false := (HC0.out.ext hxw).frozen k
      have d2 := (HC0.out.ext hxw).lt
      have HC3 : Hid (∀ u, Ext (more wr p) u → Cx (u.setCell ⟨g, k, none⟩ (.complex .f64 (Fz q) (Fz r))) g (mid f l (k + 1))) := hid fun u hu => HC2.out u (hxw.trans hu)
      have hx3 : Ext w (more wr p) := hx.trans hxw
      clear c0 c1 c2 HC2 HF hxw hx HC0
      generalize more wr p = w2 at *
      go_upto_region 10 with (go_at_call 43; refine (hA.out _).yields ?_; intro p2)
      refine wp_forget (fun u => Ext w u ∧ Hid (Cx u g (mid f l (k + 1)))) ⟨ext_by, hid (by first | exact HC3.out _ (ext_more _ _) | exact (HC3.out w2 (Ext.refl _)).ext (ext_more _ _))⟩ ?_
      rintro w3 ⟨hx4, hC4⟩
      have c3 := hC4.out.at HML.out
      rw [HM5.out] at c3
      go_wp2
      all_goals
        go_roundw
        case rel => exact ⟨hx4, k + 1, _, _, by go_num, rfl, by omega, HAB, hC4⟩
        case measure => simp [intOf]; omega
    · obtain rfl : k = l.length := by omega
      have hst := Inv.start HM.out
      have hC2 : Hid (Giv w g f l (leftN f (tot l) l).toNat (low f (tot l) l) wr) := hid ⟨hx, by have := hC.out; rwa [mid_all] at this, hst, rfl⟩
      have hb2 : b = tot l * (leftN f (tot l) l).toNat := by
        have := hab.out.2
        rw [List.take_length] at this
        rw [this]; exact hst.sum
      have ha2 : a = f - (leftN f (tot l) l).toNat := by
        have := hab.out.1
        rw [List.take_length] at this
        rw [this]; exact hst.cnt
      have hN : (leftN f (tot l) l).toNat ≤ 64 := by omega
      clear hC hab hl0 hl64 hst
      obtain ⟨N, hNN⟩ : ∃ N, N = (leftN f (tot l) l).toNat := ⟨_, rfl⟩
      rw [← hNN] at ha2 hb2 hN
      subst ha2 hb2
      go_wp2
      go_loopg [7] N (fun gg v7 wr => ∃ (n : Nat) (P : List Pr), n = gg ∧ v7 = .complex .f64 (Fz (f - n)) (Fz (tot l * n)) ∧ n ≤ N ∧ Hid (Giv w g f l n P wr))
      case atStart => exact ⟨N, _, rfl, rfl, Nat.le_refl _, hid (by rw [hNN]; exact hC2.out)⟩
      case round =>
        obtain ⟨n, P, hng, rfl, hnN, hG⟩ := hrel
        have hlen := hG.out.inv.len
        have hb0 : 0 ≤ tot l * n ∧ tot l * n ≤ 384000 := by
          refine ⟨Int.mul_nonneg (by omega) (by omega), ?_⟩
          calc tot l * n ≤ 6000 * n := Int.mul_le_mul_of_nonneg_right hS6 (by omega)
            _ ≤ 384000 := by omega
        have hgt := gt_Fz (a := tot l * n) (b := 0) (by omega) (by decide)
        rw [zero_Fz] at hgt
        cases n with
        | zero =>
          rw [show decide (0 < tot l * ((0 : Nat) : Int)) = false by simp] at hgt
          have HcL : Hid (countsL f l = cs P) := hid (by unfold countsL; rw [← hG.out.run]; rfl)
          have hbd : Hid (∀ p ∈ P, 0 ≤ p.1 ∧ p.1 ≤ 65) := hid fun p hp => by have := hG.out.inv.bound HM.out hp; omega
          have HC5 := hid hG.out.cx
          have hxr := hG.out.ext
          have hmk := run_makeI l.length hn
          clear hG hC2 hng hnN hgt
          have hg0 : FloatKind.f64.format.order (Fz (tot l * ((0 : Nat) : Int))) 0 = some .eq := by rw [show tot l * ((0 : Nat) : Int) = 0 by simp, zero_Fz]; decide
          obtain ⟨h, hh⟩ : ∃ h, h = wr.heap.size := ⟨_, rfl⟩
          go_upto_region 16 with (fail)
          refine wp_forget (fun u => Ext w u ∧ Hid (Cx u g P) ∧ Hid (Blk u h 3 (List.replicate l.length (Value.int .i64 0)))) ⟨ext_by, hid (HC5.out.ext ext_by), hid (by have := Blk.new wr 3 (List.replicate l.length (Value.int .i64 0)); rw [hh]; simpa using this)⟩ ?_
          rintro w6 ⟨hx6, hC6, hB6⟩
          rw [← hh]
          have hhw : w.heap.size ≤ h := by have := hxr.size; omega
          have hgh : g < h := by have := HC5.out.lt; omega
          clear hh hxr HC5 hmk
          go_wp2
          go_loopw [71] (fun v71 wz => Ext w wz ∧ ∃ (k : Nat) (L : List Value), v71 = .int .i64 k ∧ k ≤ l.length ∧ Hid (Cx wz g P) ∧ Hid (Blk wz h 3 L) ∧ Hid (L.length = l.length) ∧ Hid (L.take k = ((cs P).take k).map iV)) (fun v71 _ => (l.length - intOf v71).toNat)
          case atStart => exact ⟨hx6, 0, _, rfl, by omega, hC6, hB6, hid (by simp), hid (by simp)⟩
          case round =>
            obtain ⟨hx7, k, L, rfl, hk, hC7, hB7, hL, hT⟩ := hrel
            by_cases hlt : k < l.length
            · have hkL : k < L.length := by have := hL.out; omega
              have hkP : k < P.length := by omega
              have c0 := hC7.out.at hkP
              have c1 := hB7.out.cell hkL
              have c2 := hB7.out.frozen k
              have c3 := hB7.out.lt
              have hb := hbd.out _ (List.getElem_mem hkP)
              have hcv := fun w => run_convert_float_int (P := Try.prog) w 59 3 .f64 .i64 (Fz P[k].1) P[k].1 (by kernel_rfl) Try.underlying3 (intVal_Fz (by omega))
              have hT2 : Hid ((L.set k (.int .i64 P[k].1)).take (k + 1) = ((cs P).take (k + 1)).map iV) := hid (by
                rw [take_set_succ hkL, hT.out, List.take_succ_eq_append_getElem (show k < (cs P).length by rw [cs_length]; exact hkP), List.map_append]
                simp [cs, iV])
              have hB8 : Hid (Blk (wr.setCell ⟨h, k, none⟩ (.int .i64 P[k].1)) h 3 (L.set k (.int .i64 P[k].1))) := hid (hB7.out.set k _)
              have hC8 : Hid (Cx (wr.setCell ⟨h, k, none⟩ (.int .i64 P[k].1)) g P) := hid (hC7.out.other (by omega) k _)
              have i1 : (k : Int) < l.length := by omega
              clear hT hB7 hC7
              generalize P[k].1 = q at *
              generalize P[k].2 = r at *
              generalize L[k] = old at *
              go_wp2
              all_goals
                go_roundw
                case rel => exact ⟨ext_by, k + 1, _, by go_num, by omega, hC8, hB8, hid (by rw [List.length_set]; exact hL.out), hT2⟩
                case measure => simp [intOf]; omega
            · obtain rfl : k = l.length := by omega
              have hI : Hid (Iz wr h (countsL f l)) := hid (by
                have h1 := hT.out
                rw [← hL.out, List.take_length, hL.out, List.take_of_length_le (by rw [cs_length]; omega)] at h1
                have h2 := hB7.out
                rw [h1] at h2
                rw [HcL.out]; exact h2)
              clear hT hB7 hC7
              go_wp2
              go_returns
              exact ⟨h, by simp, hhw, hx7, hI.out⟩
        | succ n =>
          have hpos : 0 < tot l * ((n + 1 : Nat) : Int) := Int.mul_pos (by omega) (by omega)
          rw [decide_eq_true hpos] at hgt
          obtain ⟨hmP, htop⟩ := hG.out.inv.top HM.out
          have hcg : Hid (∀ u, Ext wr u → Calls Try.prog 44 #[.slice (some ⟨g, 0, none⟩) l.length l.length] u (Yields u (.int .i64 (am (rs P))))) := hid (fun u hu => by
            have := greatest_any (hG.out.cx.ext hu) (by unfold maxLen; omega) fun p hp => by have := hG.out.inv.bound HM.out hp; omega
            rwa [hlen] at this)
          have hbm := hG.out.inv.bound HM.out (List.getElem_mem hmP)
          have c0 := hG.out.cx.at hmP
          have c1 := hG.out.cx.frozen (am (rs P))
          have c2 := hG.out.cx.lt
          have hnx : Hid (∀ u, Ext wr u → Giv w g f l n (stepP (tot l) P) (u.setCell ⟨g, am (rs P), none⟩ (.complex .f64 (Fz (P[am (rs P)].1 + 1)) (Fz (P[am (rs P)].2 + -tot l))))) := hid (fun u hu => by
            refine ⟨Ext.setCell (hG.out.ext.trans hu) (by simpa using hgw) _, ?_, hG.out.inv.step HM.out, ?_⟩
            · have := (hG.out.cx.ext hu).set (am (rs P)) (.complex .f64 (Fz (P[am (rs P)].1 + 1)) (Fz (P[am (rs P)].2 + -tot l)))
              unfold stepP Cx
              rw [List.map_set, getD_of hmP]
              exact this
            · rw [← hG.out.run]; rfl)
          have hmi : ((am (rs P) : Nat) : Int) < l.length := by omega
          have hxr := hG.out.ext
          clear hG
          generalize P[am (rs P)].1 = c at *
          generalize P[am (rs P)].2 = r at *
          generalize am (rs P) = m at *
          have hsum1 := fun t w => run_complex_sum (P := Try.prog) w .add (.inl rfl) t .f64 _ _ _ _ _ _ (sum_Fz (a := c) (b := r) (c := 1) (d := -tot l) (by omega) (by omega) (by omega) (by omega))
          have hsum2 := fun t w => run_complex_sum (P := Try.prog) w .add (.inl rfl) t .f64 _ _ _ _ _ _ (sum_Fz (a := f - ((n + 1 : Nat) : Int)) (b := tot l * ((n + 1 : Nat) : Int)) (c := 1) (d := -tot l) (by omega) (by omega) (by omega) (by omega))
          rw [show f - ((n + 1 : Nat) : Int) + 1 = f - n by omega, show tot l * ((n + 1 : Nat) : Int) + -tot l = tot l * n by rw [show ((n + 1 : Nat) : Int) = n + 1 by omega, Int.mul_add]; omega] at hsum2
          rw [one_Fz] at hsum1 hsum2
          generalize f - ((n + 1 : Nat) : Int) = a at *
          generalize tot l * ((n + 1 : Nat) : Int) = b at *
          go_upto_region 13 with (go_at_call 44; refine (hcg.out _ (Ext.refl _)).yields ?_; intro p)
          refine wp_forget (fun u => Hid (Giv w g f l n (stepP (tot l) P) u)) (hid ((hnx.out wr (Ext.refl _)).more (ext_more _ _))) ?_
          rintro w5 hG5
          go_wp2
          all_goals
            go_roundg n
            case rel => exact ⟨n, _, rfl, rfl, by omega, hG5⟩
            case measure => omega
end Go.Proofs.Ytikecpgdacphjaa

namespace Go.Proofs.Ytikecpgdacphjaa
open Go.RowKit

/-- Counts whatever comes in. -/
theorem counts_all {f : Int} {l : List Int} {v : Value} {w : World} (h : Ints w v l) (c : List Int) (hc : c = if mayS f l = true then countsL f l else []) : Calls Try.prog 23 #[.int .i64 f, v] w fun e w' => ∃ u, e = .returned u ∧ Ext w w' ∧ Ints w' u c := by
  subst hc
  cases hm : mayS f l
  · refine (counts_none h hm).mono ?_
    rintro e w' ⟨rfl, hx⟩
    exact ⟨_, rfl, hx, none, 0, rfl, by simp, by unfold maxLen; omega, fun hp => by simp at hp⟩
  · have hM := May.of hm
    refine (counts_any hM hm h).mono ?_
    rintro e w' ⟨g, rfl, _, hx, hI⟩
    refine ⟨_, rfl, hx, ?_⟩
    rw [if_pos rfl]
    have := Iz.ints hI (by rw [countsL_length]; have := hM.len; unfold maxLen; omega)
    rwa [countsL_length] at this
end Go.Proofs.Ytikecpgdacphjaa
