/- The document's gaps (tontineref11.Gap). -/
import Derived.Test.YtiejnochddjlmaaRp0
import Derived.Test.YtiejnochddjlmaaRwL
import Derived.Deep.CutRange
import Derived.Deep.CutBlock
namespace Go.Proofs.Ytiejnochddjlmaa
open Go.RowKit

theorem gapTo_lo {P : List Int} {n : Int} (h : Inc P n) (hn : 0 ≤ n) {k : Nat} (hk : k ≤ P.length) : 1 ≤ (gapTo P n k).1 ∧ (gapTo P n k).1 ≤ n + 1 ∧ 0 ≤ (gapTo P n k).2 ∧ (gapTo P n k).2 ≤ n := by
  have h1 := gapTo_bounds h hn k hk
  have h2 : (gapTo P n k).1 ≤ n + 1 := by
    clear h1 hk
    induction k with
    | zero => simp [gapTo]
    | succ k ih => exact Int.le_trans (Int.min_le_left _ _) ih
  exact ⟨h1.1, h2, h1.2.2.2.2, h1.2.1⟩

set_option maxRecDepth 100000 in
set_option maxHeartbeats 4000000 in
theorem rgap_any {d : Int} {l : List Int} {v : Value} {w : World} (h : Ints w v l) (hl : l.length ≤ 1000000) : Calls Try.prog 10 #[v, .int .i64 d] w (Yields w (.tuple #[.int .i64 (gapL l d).1, .int .i64 (gapL l d).2])) := by
  obtain ⟨pa, ca, rfl, hca, hma⟩ := h.shape
  unfold maxLen at hma
  have HA := hid h
  clear h
  go_enter Try.func10, Try.ntmps10
  go_wp2
  go_loopw [6, 7] (fun v6 v7 wr => Ext w wr ∧ ∃ k : Nat, v7 = .int .i64 k ∧ k ≤ l.length ∧ Hid (wr.ownsRow w.heap.size 3 1 v6 (posTo l d k).length ((posTo l d k).map iV))) (fun _ v7 _ => (l.length - intOf v7).toNat)
  case atStart => exact ⟨Ext.refl _, 0, rfl, by omega, hid (by simpa [posTo] using World.ownsRow_nil _ _ _ _)⟩
  case round =>
    obtain ⟨hx, k, rfl, hk, hP⟩ := hrel
    by_cases hlt : k < l.length
    · obtain ⟨ba, oa, rfl, a0⟩ := HA.out.at k hlt
      have m0 := hx.cell a0
      simp only [Nat.mul_one] at m0
      have hst : Hid (posTo l d (k + 1) = if l[k] = d then posTo l d k ++ [(k : Int)] else posTo l d k) := hid (by rw [posTo, at0_get hlt])
      have hple := posTo_le l d k
      have hwr := hx.size
      clear a0
      generalize l[k] = x at *
      have i1 : (k : Int) < l.length := by omega
      by_cases hd : x = d
      · have hs3 : Hid (posTo l d (k + 1) = posTo l d k ++ [(k : Int)]) := hid (by rw [hst.out, if_pos hd])
        clear hst
        subst hd
        generalize posTo l x k = P at *
        go_wp2_with (at_builtin; refine wpList_push_own rfl (.tmp 24) (.tmp 26) 22 3 (.int .i64 0) 1 8 rfl Try.underlying22 infoI rfl (by decide) (w := wr) (base := w.heap.size) hP.out (news := [.int .i64 (k : Int)]) rfl (ints_oneCell .i64 [(k : Int)]) (by unfold maxLen; omega) (by omega) hwr (by rfl) (nb := wr.heap.size) (by rfl) rfl ?_; intro p1 c1 w2 ho1 hb1; have hx2 : Ext w w2 := ⟨Below.trans hx.below hb1⟩; have HO := hid ho1; clear ho1 hb1)
        all_goals
          go_roundw
          case rel => exact ⟨hx2, k + 1, by go_num, by omega, hid (by rw [hs3.out, ← iV_snoc, List.length_append]; exact HO.out)⟩
          case measure => simp [intOf]; omega
      · have hs3 : Hid (posTo l d (k + 1) = posTo l d k) := hid (by rw [hst.out, if_neg hd])
        have hb : (x == d) = false := by simpa using hd
        clear hst
        go_wp2
        all_goals
          go_roundw
          case rel => exact ⟨ext_by, k + 1, by go_num, by omega, hid (by rw [hs3.out]; exact hP.out)⟩
          case measure => simp [intOf]; omega
    · obtain rfl : k = l.length := by omega
      have hple := posTo_le l d l.length
      have hI0 := (owns_map _ _ hP.out).2
      have hInc := posTo_Inc l d
      have hG : Hid (gapL l d = if (posTo l d l.length).length = 0 ∨ 64 < l.length then (0, 0) else gapTo (posTo l d l.length) l.length (posTo l d l.length).length) := hid rfl
      generalize posTo l d l.length = P at *
      obtain ⟨p1, c1, rfl, hc1, hm1⟩ := hI0.shape
      unfold maxLen at hm1
      have HI := hid hI0
      have HINC := hid hInc
      clear hI0 hP hInc
      by_cases hp0 : P.length = 0
      · have HR : Hid (gapL l d = (0, 0)) := hid (by rw [hG.out, if_pos (.inl hp0)])
        have hp1 : (P.length : Int) = 0 := by omega
        have hp2 : ((P.length : Int) == 0) = true := by simpa using hp1
        clear hG
        go_wp2
        all_goals
          refine bodyPost_ret (v := .tuple #[.int .i64 0, .int .i64 0]) (by simp [results, Try.results10, go_sem]) rfl ⟨by rw [HR.out], hx⟩
      have hp2 : ((P.length : Int) == 0) = false := by rw [beq_eq_false_iff_ne]; omega
      by_cases hl64 : (64 : Int) < l.length
      · have HR : Hid (gapL l d = (0, 0)) := hid (by rw [hG.out, if_pos (.inr (by omega))])
        clear hG
        go_wp2
        all_goals
          refine bodyPost_ret (v := .tuple #[.int .i64 0, .int .i64 0]) (by simp [results, Try.results10, go_sem]) rfl ⟨by rw [HR.out], hx⟩
      have HR : Hid (gapL l d = gapTo P l.length P.length) := hid (by rw [hG.out, if_neg (by omega)])
      clear hG
      have hz2 : ((P.length : Int) = 0) = False := eq_false (by omega)
      go_wp2
      go_loopw [8, 9, 10] (fun v8 v9 v10 wz => Ext wr wz ∧ ∃ (i : Nat) (a b : Int), v10 = .int .i64 i ∧ v8 = .int .i64 a ∧ v9 = .int .i64 b ∧ i ≤ P.length ∧ 1 ≤ a ∧ a ≤ l.length + 1 ∧ 0 ≤ b ∧ b ≤ l.length ∧ Hid (gapTo P l.length i = (a, b))) (fun _ _ v10 _ => (P.length - intOf v10).toNat)
      case atStart => exact ⟨Ext.refl _, 0, _, _, rfl, rfl, rfl, by omega, by omega, by omega, by omega, by omega, hid rfl⟩
      case round =>
        obtain ⟨hx2, i, a, b, rfl, rfl, rfl, hi, a1, a2, b1, b2, hg⟩ := hrel
        by_cases hlt2 : i < P.length
        · obtain ⟨j, hj⟩ : ∃ j, j = (i + 1) % P.length := ⟨_, rfl⟩
          have hjl : j < P.length := by rw [hj]; exact Nat.mod_lt _ (by omega)
          have hem : ((i : Int) + 1) % (P.length : Int) = j := by rw [hj]; push_cast; rfl
          have htm : Int.tmod ((i : Int) + 1) (P.length : Int) = j := by rw [Int.tmod_eq_emod_of_nonneg (by omega)]; exact hem
          obtain ⟨b3, o3, rfl, c3⟩ := HI.out.at i hlt2
          obtain ⟨b4, o4, e4, c4⟩ := HI.out.at j hjl
          injection e4 with e4
          injection e4 with e4a e4b
          subst e4a e4b
          have m3 := more_cell (hx2.cell c3)
          have m4 := more_cell (hx2.cell c4)
          simp only [Nat.mul_one] at m3 m4
          have l3 := HINC.out.lo i hlt2
          have h3 := HINC.out.hi i hlt2
          have l4 := HINC.out.lo j hjl
          have h4 := HINC.out.hi j hjl
          have hga : Hid (gapAt P l.length i = if P[j] - P[i] ≤ 0 then P[j] - P[i] + l.length else P[j] - P[i]) := hid (by
            unfold gapAt; rw [← hj, at0_get hjl, at0_get hlt2])
          have hnx : Hid (gapTo P l.length (i + 1) = (if gapAt P l.length i < a then gapAt P l.length i else a, if b < gapAt P l.length i then gapAt P l.length i else b)) := hid (by rw [gapTo, hg.out, min_if, max_if])
          have hgb := gapAt_bounds HINC.out hlt2
          rw [at0_get hlt2] at l3 h3
          rw [at0_get hjl] at l4 h4
          clear c3 c4 hg hj
          generalize P[j] = y at *
          generalize P[i] = z at *
          have i1 : (i : Int) < P.length := by omega
          have i2 : (j : Int) < P.length := by omega
          by_cases hle : y - z ≤ 0
          · have hgv : gapAt P l.length i = y - z + l.length := by rw [hga.out, if_pos hle]
            rw [hgv] at hnx hgb
            clear hga hgv
            go_wp2
            ((first | refine wp_region_more (by kernel_rfl) (by kernel_rfl) ?_ | refine wp_region_ext (by kernel_rfl) (by kernel_rfl) ?_); (try dsimp only [append_cons', append_nil']); (repeat (go_big_quiet_step ((fail)))); refine wpQuiet_nil ?_; rintro _ ⟨pq, rfl⟩)
            go_wp2
            all_goals
              go_roundw
              case rel => exact ⟨hx2.trans (ext_more _ _), i + 1, _, _, by go_num, rfl, rfl, by omega, by omega, by omega, by omega, by omega, hnx⟩
              case measure => simp [intOf]; omega
          · have hgv : gapAt P l.length i = y - z := by rw [hga.out, if_neg hle]
            rw [hgv] at hnx hgb
            clear hga hgv
            go_wp2
            ((first | refine wp_region_more (by kernel_rfl) (by kernel_rfl) ?_ | refine wp_region_ext (by kernel_rfl) (by kernel_rfl) ?_); (try dsimp only [append_cons', append_nil']); (repeat (go_big_quiet_step ((fail)))); refine wpQuiet_nil ?_; rintro _ ⟨pq, rfl⟩)
            go_wp2
            all_goals
              go_roundw
              case rel => exact ⟨hx2.trans (ext_more _ _), i + 1, _, _, by go_num, rfl, rfl, by omega, by omega, by omega, by omega, by omega, hnx⟩
              case measure => simp [intOf]; omega
        · obtain rfl : i = P.length := by omega
          have HE : Hid (gapL l d = (a, b)) := hid (by rw [HR.out, hg.out])
          clear hg
          go_wp2
          all_goals
            refine bodyPost_ret (v := .tuple #[.int .i64 a, .int .i64 b]) (by simp [results, Try.results10, go_sem]) rfl ⟨by rw [HE.out], hx.trans hx2⟩
end Go.Proofs.Ytiejnochddjlmaa
