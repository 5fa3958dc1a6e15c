/- The document's Count, MayCounts (tontineref11). -/
import Derived.Test.YtfjhcmpcnnjodaaRt
import Derived.Test.YtfjhcmpcnnjodaaSpG
namespace Go.Proofs.Ytfjhcmpcnnjodaa
open Go.RowKit

set_option maxRecDepth 100000 in
set_option maxHeartbeats 1000000 in
theorem count_any {d : Int} {l : List Int} {v : Value} {w : World} (h : Ints w v l) : Calls Try.prog 16 #[v, .int .i64 d] w (Yields w (.int .i64 (cntTo l d l.length))) := by
  obtain ⟨pa, ca, rfl, hca, hma⟩ := h.shape
  unfold maxLen at hma
  have HA := hid h
  clear h
  go_enter Try.func16, Try.ntmps16
  go_wp2
  go_loopw [5, 6] (fun v5 v6 wr => Ext w wr ∧ ∃ (k : Nat) (s : Int), v6 = .int .i64 k ∧ v5 = .int .i64 s ∧ k ≤ l.length ∧ 0 ≤ s ∧ s ≤ k ∧ Hid (s = cntTo l d k)) (fun _ v6 _ => (l.length - intOf v6).toNat)
  case atStart => exact ⟨Ext.refl _, 0, 0, rfl, rfl, by omega, by omega, by omega, hid rfl⟩
  case round =>
    obtain ⟨hx, k, s, rfl, rfl, hk, s1, s2, hs⟩ := hrel
    by_cases hlt : k < l.length
    · obtain ⟨ba, oa, rfl, a0⟩ := HA.out.at k hlt
      have m0 := hx.cell a0
      simp only [Nat.mul_one] at m0
      have hs2 : Hid (cntTo l d (k + 1) = s + if l[k] = d then 1 else 0) := hid (by rw [cntTo, ← hs.out, at0_get hlt])
      clear a0 hs
      generalize l[k] = x at *
      have i1 : (k : Int) < l.length := by omega
      by_cases hd : x = d
      · have hs3 : Hid (s + 1 = cntTo l d (k + 1)) := hid (by rw [hs2.out, if_pos hd])
        clear hs2
        subst hd
        go_wp2
        all_goals
          go_roundw
          case rel => exact ⟨ext_by, k + 1, _, by go_num, rfl, by omega, by omega, by omega, hs3⟩
          case measure => simp [intOf]; omega
      · have hs3 : Hid (s = cntTo l d (k + 1)) := hid (by rw [hs2.out, if_neg hd, Int.add_zero])
        have hb : (x == d) = false := by simpa using hd
        clear hs2
        go_wp2
        all_goals
          go_roundw
          case rel => exact ⟨ext_by, k + 1, s, by go_num, rfl, by omega, by omega, by omega, hs3⟩
          case measure => simp [intOf]; omega
    · obtain rfl : k = l.length := by omega
      have HE := hid hs.out
      clear hs
      go_wp2
      go_returns
      exact ⟨by simp [HE.out], hx⟩
theorem count_to {d : Int} {l : List Int} {v : Value} {w : World} {r : Int} (h : Ints w v l) (e : cntTo l d l.length = r) : Calls Try.prog 16 #[v, .int .i64 d] w (Yields w (.int .i64 r)) := e ▸ count_any h

set_option maxRecDepth 100000 in
set_option maxHeartbeats 1000000 in
theorem mayC_any {l : List Int} {v : Value} {w : World} (h : Ints w v l) : Calls Try.prog 39 #[v] w (Yields w (.bool (mayC l))) := by
  obtain ⟨pa, ca, rfl, hca, hma⟩ := h.shape
  unfold maxLen at hma
  have HA := hid h
  clear h
  by_cases hl0 : (l.length : Int) < 1
  · have hr : Hid (mayC l = false) := hid (by
      obtain rfl : l = [] := List.eq_nil_of_length_eq_zero (by omega)
      simp [mayC])
    go_enter Try.func39, Try.ntmps39
    go_wp2
    go_returns
    exact ⟨by simp [hr.out], ext_by⟩
  by_cases hl : (6 : Int) < l.length
  · have hr : Hid (mayC l = false) := hid (by simp [mayC]; intros; omega)
    go_enter Try.func39, Try.ntmps39
    go_wp2
    go_returns
    exact ⟨by simp [hr.out], ext_by⟩
  have hmt : Hid (l.all (fun x => decide (0 ≤ x) && decide (x ≤ 64)) = true → mayC l = (decide (1 ≤ tot l) && decide (tot l ≤ 64))) := hid fun h => by
    unfold mayC
    rw [h, decide_eq_true (show 1 ≤ l.length by omega), decide_eq_true (show l.length ≤ 6 by omega)]
    simp
  have hno : Hid (l.all (fun x => decide (0 ≤ x) && decide (x ≤ 64)) = false → mayC l = false) := hid fun h => by simp [mayC, h]
  go_enter Try.func39, Try.ntmps39
  go_wp2
  go_loopw [3] (fun v3 wr => Ext w wr ∧ ∃ (k : Nat), v3 = .int .i64 k ∧ k ≤ l.length ∧ Hid ((l.take k).all (fun x => decide (0 ≤ x) && decide (x ≤ 64)) = true)) (fun v3 _ => (l.length - intOf v3).toNat)
  case atStart => exact ⟨Ext.refl _, 0, rfl, by omega, hid (by simp)⟩
  case round =>
    obtain ⟨hx, k, rfl, hk, hb⟩ := hrel
    by_cases hlt : k < l.length
    · obtain ⟨ba, oa, rfl, a0⟩ := HA.out.at k hlt
      have m0 := hx.cell a0
      simp only [Nat.mul_one] at m0
      have e2 : Hid ((l.take (k + 1)).all (fun x => decide (0 ≤ x) && decide (x ≤ 64)) = (decide (0 ≤ l[k]) && decide (l[k] ≤ 64))) := hid (by
        rw [List.take_succ_eq_append_getElem hlt, List.all_append, hb.out]; simp)
      have e3 : Hid ((decide (0 ≤ l[k]) && decide (l[k] ≤ 64)) = false → l.all (fun x => decide (0 ≤ x) && decide (x ≤ 64)) = false) := hid (fun h => by
        rw [← Bool.not_eq_true, List.all_eq_true]
        intro hh
        have := hh _ (List.getElem_mem hlt)
        rw [this] at h; cases h)
      clear a0 hb
      generalize l[k] = x at *
      have i1 : (k : Int) < l.length := by omega
      by_cases h1 : x < 0
      · have hn := e3.out (by simp; omega)
        have HN : Hid (mayC l = false) := hid (hno.out hn)
        clear hn
        go_wp2
        go_returns
        exact ⟨by simp [HN.out], hx⟩
      by_cases h2 : 64 < x
      · have hn := e3.out (by simp; omega)
        have HN : Hid (mayC l = false) := hid (hno.out hn)
        clear hn
        go_wp2
        go_returns
        exact ⟨by simp [HN.out], hx⟩
      have E2 : Hid ((l.take (k + 1)).all (fun x => decide (0 ≤ x) && decide (x ≤ 64)) = true) := hid (by rw [e2.out]; simp; omega)
      clear e2 e3
      go_wp2
      all_goals
        go_roundw
        case rel => exact ⟨hx, k + 1, by go_num, by omega, E2⟩
        case measure => simp [intOf]; omega
    · obtain rfl : k = l.length := by omega
      have h2 := hb.out
      rw [List.take_length] at h2
      have HE : Hid (mayC l = (decide (1 ≤ tot l) && decide (tot l ≤ 64))) := hid (hmt.out h2)
      have HBD : Hid (∀ x ∈ l, -100000 ≤ x ∧ x ≤ 100000) := hid fun x hx => by have := List.all_eq_true.1 h2 x hx; simp at this; omega
      clear h2 hb
      have hli : l.length ≤ 1000 := by omega
      have HL := hid hli
      have HT : Hid (∀ u, Ext w u → Calls Try.prog 40 #[.slice pa l.length ca] u (Yields u (.int .i64 (tot l)))) := hid fun u hu => total_any (HA.out.ext hu) HBD.out HL.out
      by_cases hp : 1 ≤ tot l
      · by_cases hq : tot l ≤ 64
        · have HP : Hid (mayC l = true) := hid (by rw [HE.out, decide_eq_true hp, decide_eq_true hq]; rfl)
          generalize tot l = T at *
          go_wp2_with (go_at_call 40; refine (HT.out _ (by assumption)).yields ?_; intro p)
          go_returns
          exact ⟨by simp [HP.out]; try omega, ext_by⟩
        · have HP : Hid (mayC l = false) := hid (by rw [HE.out, decide_eq_true hp, decide_eq_false hq]; rfl)
          generalize tot l = T at *
          go_wp2_with (go_at_call 40; refine (HT.out _ (by assumption)).yields ?_; intro p)
          go_returns
          exact ⟨by simp [HP.out]; try omega, ext_by⟩
      · have HP : Hid (mayC l = false) := hid (by rw [HE.out, decide_eq_false hp]; rfl)
        generalize tot l = T at *
        go_wp2_with (go_at_call 40; refine (HT.out _ (by assumption)).yields ?_; intro p)
        go_returns
        exact ⟨by simp [HP.out]; try omega, ext_by⟩
theorem mayC_to {l : List Int} {v : Value} {w : World} {r : Bool} (h : Ints w v l) (e : mayC l = r) : Calls Try.prog 39 #[v] w (Yields w (.bool r)) := e ▸ mayC_any h
end Go.Proofs.Ytfjhcmpcnnjodaa
