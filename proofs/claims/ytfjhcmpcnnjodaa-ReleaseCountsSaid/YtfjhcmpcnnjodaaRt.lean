/- The document's sum of a row (tontineref11.total). -/
import Derived.Test.YtfjhcmpcnnjodaaBlk
import Derived.Test.YtfjhcmpcnnjodaaShM
import Derived.WalkKit
import Derived.WalkSpells
import Derived.WalkLawsBesides
import Derived.Deep.QuietTactic
import Derived.Deep.LoopGhost
import Derived.Handy
namespace Go.Proofs.Ytfjhcmpcnnjodaa
open Go.RowKit

set_option maxRecDepth 100000 in
set_option maxHeartbeats 1000000 in
theorem total_any {l : List Int} {v : Value} {w : World} (h : Ints w v l) (hb : ∀ x ∈ l, -100000 ≤ x ∧ x ≤ 100000) (hn : l.length ≤ 1000) : Calls Try.prog 40 #[v] w (Yields w (.int .i64 (tot l))) := by
  obtain ⟨pa, ca, rfl, hca, hma⟩ := h.shape
  unfold maxLen at hma
  have HA := hid h
  have HB := hid hb
  clear h hb
  go_enter Try.func40, Try.ntmps40
  go_wp2
  go_loopw [3, 4] (fun v3 v4 wr => Ext w wr ∧ ∃ (k : Nat) (s : Int), v4 = .int .i64 k ∧ v3 = .int .i64 s ∧ k ≤ l.length ∧ -100000 * k ≤ s ∧ s ≤ 100000 * k ∧ Hid (s = tot (l.take k))) (fun _ v4 _ => (l.length - intOf v4).toNat)
  case atStart => exact ⟨Ext.refl _, 0, 0, rfl, rfl, by omega, by omega, by omega, hid (by simp [tot])⟩
  case round =>
    obtain ⟨hx, k, s, rfl, rfl, hk, s1, s2, hs⟩ := hrel
    by_cases hlt : k < l.length
    · obtain ⟨ba, oa, rfl, a0⟩ := HA.out.at k hlt
      have m0 := hx.cell a0
      simp only [Nat.mul_one] at m0
      have hb := HB.out _ (List.getElem_mem hlt)
      have hs2 : Hid (s + l[k] = tot (l.take (k + 1))) := hid (by rw [tot_take l k hlt, ← hs.out])
      clear a0 hs
      generalize l[k] = x at *
      have i1 : (k : Int) < l.length := by omega
      go_wp2
      all_goals
        go_roundw
        case rel => exact ⟨ext_by, k + 1, _, by go_num, rfl, by omega, by omega, by omega, hs2⟩
        case measure => simp [intOf]; omega
    · obtain rfl : k = l.length := by omega
      have h1 := hs.out
      rw [List.take_length] at h1
      have HE := hid h1
      clear h1 hs
      go_wp2
      go_returns
      exact ⟨by simp [HE.out], hx⟩
theorem total_to {l : List Int} {v : Value} {w : World} {r : Int} (h : Ints w v l) (hb : ∀ x ∈ l, -100000 ≤ x ∧ x ≤ 100000) (hn : l.length ≤ 1000) (e : tot l = r) : Calls Try.prog 40 #[v] w (Yields w (.int .i64 r)) := e ▸ total_any h hb hn

end Go.Proofs.Ytfjhcmpcnnjodaa
