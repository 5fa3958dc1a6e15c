/- What the small functions of package spread come to: who is less steep, who is the least steep, the sum of the counts, the places of one domain. -/
import Derived.Test.YtiejnochddjlmaaCx
import Derived.Test.YtiejnochddjlmaaSpQ
import Derived.Test.YtiejnochddjlmaaRwL
import Derived.Test.YtiejnochddjlmaaRt
import Derived.Deep.RegionHeld3
import Derived.WalkSpells
import Derived.WalkLawsBesides
import Derived.Deep.LoopGhost
import Derived.Deep.CutRange
import Derived.Deep.CutBlock
import Derived.Laws.ComplexArith
import Derived.Laws.FloatArith
import Derived.Laws.Externs
namespace Go.Proofs.Ytiejnochddjlmaa
open Go.RowKit

set_option maxHeartbeats 1000000 in
theorem ahead_any {x1 y1 x2 y2 : Int} (a1 : 0 ≤ x1) (a2 : x1 < 2 ^ 20) (b1 : 0 < y1) (b2 : y1 < 2 ^ 20) (c1 : 0 ≤ x2) (c2 : x2 < 2 ^ 20) (d1 : 0 < y2) (d2 : y2 < 2 ^ 20) (w : World) :
    Calls Try.prog 20 #[.complex .f64 (Fz x1) (Fz y1), .complex .f64 (Fz x2) (Fz y2)] w (Yields w (.bool (decide (x2 * y1 < y2 * x1)))) := by
  have hop := fun t w => run_complex_mul (P := Try.prog) w t _ _ _ _ _ _ (back_Fz a1 a2 b1 b2 c1 c2 d1 d2)
  have hn := neg_Fz (z := y1) (by omega) (by omega)
  have big : (y2 * x1 - x2 * y1).natAbs < 2 ^ 53 := by
    have e1 : y2 * x1 ≤ 2 ^ 20 * 2 ^ 20 := Int.mul_le_mul (by omega) (by omega) (by omega) (by decide)
    have e2 : x2 * y1 ≤ 2 ^ 20 * 2 ^ 20 := Int.mul_le_mul (by omega) (by omega) (by omega) (by decide)
    have e3 : 0 ≤ y2 * x1 := Int.mul_nonneg (by omega) a1
    have e4 : 0 ≤ x2 * y1 := Int.mul_nonneg c1 (by omega)
    have p40 : (2 : Int) ^ 20 * 2 ^ 20 = 1099511627776 := by decide
    have p53 : (2 : Nat) ^ 53 = 9007199254740992 := by decide
    omega
  have hgt := gt_Fz (a := y2 * x1 - x2 * y1) (b := 0) big (by decide)
  rw [zero_Fz] at hgt
  have he : Hid (decide (x2 * y1 < y2 * x1) = decide (0 < y2 * x1 - x2 * y1)) := hid (by
    rw [decide_eq_decide]; omega)
  have Hb : Hid (big = big) := hid rfl
  generalize decide (0 < y2 * x1 - x2 * y1) = r at *
  generalize Fz (y2 * x1 - x2 * y1) = I at *
  generalize Fz (x2 * x1 + y2 * y1) = R at *
  generalize Fz (-y1) = ny at *
  generalize Fz y1 = fy1 at *
  generalize Fz x1 = fx1 at *
  generalize Fz x2 = fx2 at *
  generalize Fz y2 = fy2 at *
  clear big Hb a1 a2 b1 b2 c1 c2 d1 d2
  go_enter Try.func20, Try.ntmps20
  go_wp2
  all_goals
    go_returns
    exact ⟨by simp [he.out], ext_by⟩

set_option maxRecDepth 100000 in
set_option maxHeartbeats 1000000 in
theorem first_any {g : Nat} {P : List Pr} {w : World} (h : Cx w g P) (hP : P.length ≤ maxLen) (hb : ∀ p ∈ P, 0 ≤ p.1 ∧ p.1 < 2 ^ 20 ∧ 0 < p.2 ∧ p.2 < 2 ^ 20) : Calls Try.prog 17 #[.slice (some ⟨g, 0, none⟩) P.length P.length] w (Yields w (.int .i64 (fiTo P P.length))) := by
  have HB := hid hb
  have HC := hid h
  have hg := h.lt
  unfold maxLen at hP
  clear h hb
  go_enter Try.func17, Try.ntmps17
  go_wp2
  go_loopw [3, 8] (fun v3 v8 wr => Ext w wr ∧ ∃ k m : Nat, v8 = .int .i64 k ∧ v3 = .int .i64 m ∧ k ≤ P.length ∧ Hid (m = fiTo P k)) (fun _ v8 _ => (P.length - intOf v8).toNat)
  case atStart => exact ⟨Ext.refl _, 0, 0, rfl, rfl, by omega, rfl⟩
  case round =>
    obtain ⟨hx, k, m, rfl, rfl, hk, hm⟩ := hrel
    by_cases hlt : k < P.length
    · have hml : m < P.length := by
        rw [hm.out]
        by_cases h0 : k = 0
        · subst h0; simp only [fiTo]; omega
        · have := fiTo_lt P k (by omega); omega
      have c0 := hx.cell (HC.out.at hlt)
      have c1 := hx.cell (HC.out.at hml)
      obtain ⟨a1, a2, b1, b2⟩ := HB.out _ (List.getElem_mem hlt)
      obtain ⟨e1, e2, d1, d2⟩ := HB.out _ (List.getElem_mem hml)
      have HA : Hid (∀ u, Calls Try.prog 20 #[.complex .f64 (Fz P[k].1) (Fz P[k].2), .complex .f64 (Fz P[m].1) (Fz P[m].2)] u (Yields u (.bool (decide (P[m].1 * P[k].2 < P[m].2 * P[k].1))))) := hid fun u => ahead_any a1 a2 b1 b2 e1 e2 d1 d2 u
      have hst : fiTo P (k + 1) = if P[m].1 * P[k].2 < P[m].2 * P[k].1 then k else m := by
        have := hm.out
        simp only [fiTo]; rw [← this, getD_get hml, getD_get hlt]
      have HST := hid hst
      clear hst a1 a2 b1 b2 e1 e2 d1 d2
      have i1 : (k : Int) < P.length := by omega
      have i2 : (m : Int) < P.length := by omega
      by_cases hc : P[m].1 * P[k].2 < P[m].2 * P[k].1
      · have H1 : Hid (k = fiTo P (k + 1)) := hid (by rw [HST.out, if_pos hc])
        rw [decide_eq_true hc] at HA
        clear HST hc
        generalize Fz P[k].1 = f1 at *
        generalize Fz P[k].2 = f2 at *
        generalize Fz P[m].1 = f3 at *
        generalize Fz P[m].2 = f4 at *
        go_wp2_with (go_at_call 20; refine (HA.out _).yields ?_; intro p)
        all_goals
          go_roundw
          case rel => exact ⟨ext_by, k + 1, k, by go_num, rfl, by omega, H1⟩
          case measure => simp [intOf]; omega
      · have H1 : Hid (m = fiTo P (k + 1)) := hid (by rw [HST.out, if_neg hc])
        rw [decide_eq_false hc] at HA
        clear HST hc
        generalize Fz P[k].1 = f1 at *
        generalize Fz P[k].2 = f2 at *
        generalize Fz P[m].1 = f3 at *
        generalize Fz P[m].2 = f4 at *
        go_wp2_with (go_at_call 20; refine (HA.out _).yields ?_; intro p)
        all_goals
          go_roundw
          case rel => exact ⟨ext_by, k + 1, m, by go_num, rfl, by omega, H1⟩
          case measure => simp [intOf]; omega
    · obtain rfl : k = P.length := by omega
      have HE := hid hm.out
      clear hm
      go_wp2
      go_returns
      exact ⟨by simp [HE.out], hx⟩

/-- What the program's sum tells. -/
def sumC (l : List Int) : Int := if mayC l = true then tot l else 0
set_option maxRecDepth 100000 in
set_option maxHeartbeats 1000000 in
theorem sum_any {l : List Int} {v : Value} {w : World} (h : Ints w v l) : Calls Try.prog 16 #[v] w (Yields w (.int .i64 (sumC l))) := by
  obtain ⟨pa, ca, rfl, hca, hma⟩ := h.shape
  unfold maxLen at hma
  have HA := hid h
  clear h
  by_cases hl : (6 : Int) < l.length
  · have hr : Hid (sumC l = 0) := hid (by
      unfold sumC
      rw [if_neg]
      simp [mayC]; intros; omega)
    go_enter Try.func16, Try.ntmps16
    go_wp2
    go_returns
    exact ⟨by simp [hr.out], ext_by⟩
  have hno : Hid (l.all (fun x => decide (0 ≤ x) && decide (x ≤ 64)) = false → sumC l = 0) := hid fun h => by
    unfold sumC
    rw [if_neg]
    simp [mayC, h]
  go_enter Try.func16, Try.ntmps16
  go_wp2
  go_loopw [3, 11] (fun v3 v11 wr => Ext w wr ∧ ∃ (k : Nat) (s : Int), v11 = .int .i64 k ∧ v3 = .int .i64 s ∧ k ≤ l.length ∧ 0 ≤ s ∧ s ≤ 64 * k ∧ Hid (s = tot (l.take k)) ∧ Hid ((l.take k).all (fun x => decide (0 ≤ x) && decide (x ≤ 64)) = true)) (fun _ v11 _ => (l.length - intOf v11).toNat)
  case atStart => exact ⟨Ext.refl _, 0, 0, rfl, rfl, by omega, by omega, by omega, hid (by simp [tot]), hid (by simp)⟩
  case round =>
    obtain ⟨hx, k, s, rfl, rfl, hk, s1, s2, hs, hb⟩ := hrel
    by_cases hlt : k < l.length
    · obtain ⟨ba, oa, rfl, a0⟩ := HA.out.at k hlt
      have m0 := hx.cell a0
      simp only [Nat.mul_one] at m0
      have e1 : Hid (s + l[k] = tot (l.take (k + 1))) := hid (by rw [tot_take l k hlt, ← hs.out])
      have e2 : Hid ((l.take (k + 1)).all (fun x => decide (0 ≤ x) && decide (x ≤ 64)) = (decide (0 ≤ l[k]) && decide (l[k] ≤ 64))) := hid (by
        rw [List.take_succ_eq_append_getElem hlt, List.all_append, hb.out]; simp)
      have e3 : Hid ((decide (0 ≤ l[k]) && decide (l[k] ≤ 64)) = false → l.all (fun x => decide (0 ≤ x) && decide (x ≤ 64)) = false) := hid (fun h => by
        rw [← Bool.not_eq_true, List.all_eq_true]
        intro hh
        have := hh _ (List.getElem_mem hlt)
        rw [this] at h; cases h)
      clear a0 hb hs
      generalize l[k] = x at *
      have i1 : (k : Int) < l.length := by omega
      by_cases h1 : x < 0
      · have HN : Hid (sumC l = 0) := hid (hno.out (e3.out (by simp; omega)))
        go_wp2
        go_returns
        exact ⟨by simp [HN.out], hx⟩
      by_cases h2 : 64 < x
      · have HN : Hid (sumC l = 0) := hid (hno.out (e3.out (by simp; omega)))
        go_wp2
        go_returns
        exact ⟨by simp [HN.out], hx⟩
      have E2 : Hid ((l.take (k + 1)).all (fun x => decide (0 ≤ x) && decide (x ≤ 64)) = true) := hid (by rw [e2.out]; simp; omega)
      clear e2 e3
      go_wp2
      all_goals
        go_roundw
        case rel => exact ⟨hx, k + 1, _, by go_num, rfl, by omega, by omega, by omega, e1, E2⟩
        case measure => simp [intOf]; omega
    · obtain rfl : k = l.length := by omega
      have h1 := hs.out
      have h2 := hb.out
      rw [List.take_length] at h1 h2
      have hmt : mayC l = (decide (1 ≤ l.length) && decide (1 ≤ s) && decide (s ≤ 64)) := by
        unfold mayC
        rw [h2, ← h1, decide_eq_true (show l.length ≤ 6 by omega)]
        simp
      have hl0 : l.length = 0 → s = 0 := fun h => by
        obtain rfl := List.eq_nil_of_length_eq_zero h
        rw [h1]; rfl
      by_cases hq : 64 < s
      · have HE : Hid (sumC l = 0) := hid (by
          unfold sumC
          rw [hmt, if_neg]
          simp; intros; omega)
        clear hmt hl0 h1 h2 hs hb
        go_wp2
        go_returns
        exact ⟨by simp [HE.out], hx⟩
      · have HE : Hid (sumC l = s) := hid (by
          unfold sumC
          rw [hmt, ← h1]
          by_cases h0 : 1 ≤ s
          · rw [if_pos]
            simp; omega
          · rw [if_neg (by simp; intros; omega)]; omega)
        clear hmt hl0 h1 h2 hs hb
        go_wp2
        go_returns
        exact ⟨by simp [HE.out], hx⟩

set_option maxRecDepth 100000 in
set_option maxHeartbeats 2000000 in
theorem places_any {d : Int} {l : List Int} {v : Value} {w : World} (h : Ints w v l) (hl : l.length ≤ 1000000) : Calls Try.prog 15 #[v, .int .i64 d] w fun e w' => ∃ u, e = .returned u ∧ Ext w w' ∧ Ints w' u (posTo l d l.length) := by
  obtain ⟨pa, ca, rfl, hca, hma⟩ := h.shape
  unfold maxLen at hma
  have HA := hid h
  clear h
  go_enter Try.func15, Try.ntmps15
  go_wp2
  go_loopw [5, 10] (fun v5 v10 wr => Ext w wr ∧ ∃ k : Nat, v10 = .int .i64 k ∧ k ≤ l.length ∧ Hid (wr.ownsRow w.heap.size 3 1 v5 (posTo l d k).length ((posTo l d k).map iV))) (fun _ v10 _ => (l.length - intOf v10).toNat)
  case atStart => exact ⟨Ext.refl _, 0, rfl, by omega, hid (by simpa [posTo] using World.ownsRow_nil _ _ _ _)⟩
  case round =>
    obtain ⟨hx, k, rfl, hk, hP⟩ := hrel
    by_cases hlt : k < l.length
    · obtain ⟨ba, oa, rfl, a0⟩ := HA.out.at k hlt
      have m0 := hx.cell a0
      simp only [Nat.mul_one] at m0
      have hst : Hid (posTo l d (k + 1) = if l[k] = d then posTo l d k ++ [(k : Int)] else posTo l d k) := hid (by rw [posTo, at0_get hlt])
      have hple := posTo_le l d k
      have hwr := hx.size
      clear a0
      generalize l[k] = x at *
      have i1 : (k : Int) < l.length := by omega
      by_cases hd : x = d
      · have hs3 : Hid (posTo l d (k + 1) = posTo l d k ++ [(k : Int)]) := hid (by rw [hst.out, if_pos hd])
        clear hst
        subst hd
        generalize posTo l x k = P at *
        go_wp2_with (at_builtin; refine wpList_push_own rfl (.tmp 18) (.tmp 20) 22 3 (.int .i64 0) 1 8 rfl Try.underlying22 infoI rfl (by decide) (w := wr) (base := w.heap.size) hP.out (news := [.int .i64 (k : Int)]) rfl (ints_oneCell .i64 [(k : Int)]) (by unfold maxLen; omega) (by omega) hwr (by rfl) (nb := wr.heap.size) (by rfl) rfl ?_; intro p1 c1 w2 ho1 hb1; have hx2 : Ext w w2 := ⟨Below.trans hx.below hb1⟩; have HO := hid ho1; clear ho1 hb1)
        all_goals
          go_roundw
          case rel => exact ⟨hx2, k + 1, by go_num, by omega, hid (by rw [hs3.out, ← iV_snoc, List.length_append]; exact HO.out)⟩
          case measure => simp [intOf]; omega
      · have hs3 : Hid (posTo l d (k + 1) = posTo l d k) := hid (by rw [hst.out, if_neg hd])
        have hb : (x == d) = false := by simpa using hd
        clear hst
        go_wp2
        all_goals
          go_roundw
          case rel => exact ⟨ext_by, k + 1, by go_num, by omega, hid (by rw [hs3.out]; exact hP.out)⟩
          case measure => simp [intOf]; omega
    · obtain rfl : k = l.length := by omega
      have hI0 := hid (owns_map _ _ hP.out).2
      clear hP
      go_wp2
      go_returns
      refine ⟨_, ?_, hx, hI0.out⟩
      simp
end Go.Proofs.Ytiejnochddjlmaa
