/- Where a number stands first in a row (slices.Index over []int), what is left of a row behind a place, how often a number stands in a row. -/
import Derived.Test.YtfjhcmpcnnjodaaLib
import Derived.Test.YtfjhcmpcnnjodaaInts
import Derived.Test.YtfjhcmpcnnjodaaSpG
import Derived.WalkKit
import Derived.WalkLawsBesides
import Derived.WalkSpells
import Derived.Handy
import Derived.IntWalk
import Derived.OwnWalk
import Derived.Laws.OwnMore
namespace Go.Proofs.Ytfjhcmpcnnjodaa
open Go.RowKit

/-- The first place, -1 of none. -/
def idxL (l : List Int) (d : Int) : Int := if l.findIdx (· == d) < l.length then (l.findIdx (· == d) : Nat) else -1
theorem idxL_at {l : List Int} {d : Int} {k : Nat} (hk : k < l.length) (h : ∀ j (hj : j < k), l[j] ≠ d) (e : l[k] = d) : idxL l d = k := by
  have : l.findIdx (· == d) = k := by
    rw [List.findIdx_eq hk]
    exact ⟨by simpa using e, fun j hj => by simpa using h j hj⟩
  unfold idxL
  rw [this, if_pos hk]
theorem idxL_none {l : List Int} {d : Int} (h : ∀ j (hj : j < l.length), l[j] ≠ d) : idxL l d = -1 := by
  unfold idxL
  rw [if_neg]
  intro hh
  have := List.findIdx_getElem (w := hh)
  exact h _ hh (by simpa using this)
theorem cntTo_count (l : List Int) (d : Int) : ∀ k, k ≤ l.length → cntTo l d k = ((l.take k).count d : Nat)
  | 0, _ => by simp [cntTo]
  | k + 1, hk => by
    rw [cntTo, cntTo_count l d k (by omega), at0_get (by omega), List.take_succ_eq_append_getElem (by omega), List.count_append, List.count_singleton]
    by_cases e : l[k] = d <;> simp [e]
theorem cntTo_all (l : List Int) (d : Int) : cntTo l d l.length = (l.count d : Nat) := by rw [cntTo_count l d _ (Nat.le_refl _), List.take_length]
/-- What stands first, and the rest. -/
theorem idx_cases (l : List Int) (d : Int) : (idxL l d = -1 ∧ l.count d = 0) ∨ ∃ k : Nat, idxL l d = k ∧ k < l.length ∧ l.count d = (l.drop (k + 1)).count d + 1 := by
  by_cases h : l.findIdx (· == d) < l.length
  · obtain ⟨k, hk, e, hn, hq⟩ : ∃ k, ∃ hk : k < l.length, l[k] = d ∧ (∀ j (hj : j < k), ¬ l[j] = d) ∧ l.findIdx (· == d) = k := by
      refine ⟨_, h, by simpa using List.findIdx_getElem (w := h), fun j hj => ?_, rfl⟩
      simpa using List.not_of_lt_findIdx hj
    refine .inr ⟨k, by unfold idxL; rw [if_pos h, hq], hk, ?_⟩
    have h0 : (l.take k).count d = 0 := List.count_eq_zero.2 fun hm => by
      obtain ⟨j, hj, hq⟩ := List.getElem_of_mem hm
      rw [List.length_take] at hj
      rw [List.getElem_take] at hq
      exact hn j (by omega) hq
    conv => lhs; rw [← List.take_append_drop k l, List.count_append, h0, List.drop_eq_getElem_cons hk, e, List.count_cons_self]
    omega
  · refine .inl ⟨by unfold idxL; rw [if_neg h], List.count_eq_zero.2 fun hm => h ?_⟩
    exact List.findIdx_lt_length_of_exists ⟨d, hm, by simp⟩

/-- row[k:]. -/
theorem ints_drop {v : Value} {l : List Int} {w : World} (h : Ints w v l) {k : Nat} (hk : k ≤ l.length) : ∃ u, (∀ w, (Instr.slice 26 v (some (.int .i64 k)) none none).run Try.prog w = .ok u w) ∧ ∀ w', Ext w w' → Ints w' u (l.drop k) := by
  obtain ⟨p, cap, rfl, h1, h2, h3⟩ := h
  have hs : ∀ w : World, (sizeOf (Try.prog.elem 26)).run Try.prog w = .ok 1 w := fun w => by kernel_rfl
  refine ⟨sliced p k l.length cap 1, fun w => ?_, fun w' hx => ?_⟩
  · rw [run_slice_l w 26 p l.length cap Try.underlying26 .i64 k (by omega) (by omega), hs]
    rfl
  · unfold sliced
    refine ⟨_, _, by rw [List.length_drop], by rw [List.length_drop]; omega, by omega, fun h0 => ?_⟩
    rw [List.length_drop] at h0
    obtain ⟨b, off, rfl, hc⟩ := h3 (by omega)
    rw [if_neg (by omega)]
    refine ⟨b, off + k, by simp [add_add], fun i x hi => ?_⟩
    rw [List.getElem?_drop] at hi
    have := hx.cell (hc _ _ hi)
    rwa [show off + k + i * 1 = off + (k + i) * 1 by omega]

set_option maxRecDepth 100000 in
set_option maxHeartbeats 1000000 in
theorem index_any {d : Int} {l : List Int} {v : Value} {w : World} (h : Ints w v l) : Calls Try.prog 32 #[v, .int .i64 d] w (Yields w (.int .i64 (idxL l d))) := by
  obtain ⟨p, cap, rfl, hca, hma⟩ := h.shape
  unfold maxLen at hma
  have HA := hid h
  clear h
  go_enter Try.func32, Try.ntmps32
  go_wp2
  go_loopw [5, 8] (fun v5 v8 wr => Ext w wr ∧ ∃ k : Nat, v8 = .int .i64 k ∧ k ≤ l.length ∧ Hid (∀ j (hj : j < l.length), j < k → l[j] ≠ d)) (fun _ v8 _ => (l.length - intOf v8).toNat)
  case atStart => exact ⟨Ext.refl _, 0, rfl, by omega, hid fun j _ hj => absurd hj (Nat.not_lt_zero _)⟩
  case round =>
    obtain ⟨hx, k, rfl, hk, hn⟩ := hrel
    by_cases hlt : k < l.length
    · obtain ⟨ba, oa, rfl, a0⟩ := HA.out.at k hlt
      have m0 := hx.cell a0
      simp only [Nat.mul_one] at m0
      have i1 : (k : Int) < l.length := by omega
      clear a0
      by_cases hd : l[k] = d
      · have hE : Hid (idxL l d = k) := hid (idxL_at hlt (fun j hj => hn.out j (by omega) hj) hd)
        rw [hd] at m0
        clear hn hd
        go_wp2
        go_returns
        exact ⟨by simp [hE.out], ext_by⟩
      · have hN : Hid (∀ j (hj : j < l.length), j < k + 1 → l[j] ≠ d) := hid fun j hj hj2 => by
          by_cases e : j = k
          · subst e; exact hd
          · exact hn.out j hj (by omega)
        have hb : (d == l[k]) = false := by simpa using fun e => hd e.symm
        clear hn hd
        generalize l[k] = x at *
        go_wp2
        all_goals
          go_roundw
          case rel => exact ⟨ext_by, k + 1, by go_num, by omega, hN⟩
          case measure => simp [intOf]; omega
    · obtain rfl : k = l.length := by omega
      have hE : Hid (idxL l d = -1) := hid (idxL_none fun j hj => hn.out j hj hj)
      clear hn
      go_wp2
      go_returns
      exact ⟨by simp [hE.out], hx⟩
theorem index_to {d r : Int} {l : List Int} {v : Value} {w : World} (h : Ints w v l) (e : idxL l d = r) : Calls Try.prog 32 #[v, .int .i64 d] w (Yields w (.int .i64 r)) := e ▸ index_any h
end Go.Proofs.Ytfjhcmpcnnjodaa
