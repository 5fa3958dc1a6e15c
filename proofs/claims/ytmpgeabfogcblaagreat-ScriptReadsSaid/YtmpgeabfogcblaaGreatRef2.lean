/- The document's own numbers as bytes (tontineref1): what is written; eight bytes taken. -/
import Derived.Test.YtmpgeabfogcblaaGreatRef1
import Derived.Test.YtmpgeabfogcblaaGreatWire
import Derived.Laws.MakeOwn
namespace Go.Proofs.YtmpgeabfogcblaaGreat
open Go.RowKit

theorem leB_get : ∀ (K n j : Nat), j < K → (leB K n)[j]? = some (UInt8.ofNat (n / 256 ^ j % 256))
  | K + 1, n, 0, _ => by simp [leB]
  | K + 1, n, j + 1, h => by
    have := leB_get K (n / 256) j (by omega)
    rw [leB, List.getElem?_cons_succ, this, Nat.div_div_eq_div_mul, Nat.pow_succ, Nat.mul_comm 256]

theorem one_byte (w : World) (c : UInt8) (x : Int) (h : x = c.toNat) : (convert 115 9 (.slice (some ⟨w.heap.size, 0, none⟩) 1 1)).run Tryz.prog (w.alloc (.cells #[.int .u8 x] 5)) = .ok (.string (str [c])) (w.alloc (.cells #[.int .u8 x] 5)) := by
  subst h
  exact run_string_of_bytes (P := Tryz.prog) _ 115 9 5 ⟨w.heap.size, 0, none⟩ 1 [c] Tryz.underlying115 Tryz.underlying5 Tryz.underlying9 (fun j hj => by
    match j, hj with
    | 0, _ => simp [Addr.add])

def NumM (n : Int) (w : World) (a' : Act) (wx : World) : Prop := ∃ (u1 u3 u4 u5 u6 u7 u8 u9 u10 u11 u12 u13 u14 u15 u16 u17 u18 u19 u20 u21 u22 u23 u24 u25 : Value), a' = { tmps := #[.int .i64 n, u1, .string ⟨#[]⟩, u3, u4, u5, u6, u7, u8, u9, u10, u11, u12, u13, u14, u15, u16, u17, u18, u19, u20, u21, u22, u23, u24, u25], defers := [] } ∧ w = wx
set_option maxRecDepth 100000 in
set_option maxHeartbeats 1000000 in
theorem fnum_any (n : Int) (w : World) : Calls Tryz.prog 52 #[.int .i64 n] w (Yields w (.string (str (numB n)))) := by
  have hh := heldN_le n
  go_enter Tryz.func52, Tryz.ntmps52
  refine wp_mid (NumM n w) ?_ ?_
  · go_wp2
    exact ⟨_, _, _, _, _, _, _, _, _, _, _, _, _, _, _, _, _, _, _, _, _, _, _, _, rfl, rfl⟩
  refine fun a' wx => ex_elim fun u1 => ex_elim fun u3 => ex_elim fun u4 => ex_elim fun u5 => ex_elim fun u6 => ex_elim fun u7 => ex_elim fun u8 => ex_elim fun u9 => ex_elim fun u10 => ex_elim fun u11 => ex_elim fun u12 => ex_elim fun u13 => ex_elim fun u14 => ex_elim fun u15 => ex_elim fun u16 => ex_elim fun u17 => ex_elim fun u18 => ex_elim fun u19 => ex_elim fun u20 => ex_elim fun u21 => ex_elim fun u22 => ex_elim fun u23 => ex_elim fun u24 => ex_elim fun u25 => ?_
  rintro ⟨rfl, rfl⟩
  refine wp_mid (NumM (heldN n) w) ?_ ?_
  · rcases (show n < -1 ∨ (-1 ≤ n ∧ n ≤ 1048576) ∨ 1048576 < n from by omega) with h1 | h1 | h1
    · have hv := heldN_low h1
      go_wp2
      all_goals (first | (intros; omega) | exact ⟨_, _, _, _, _, _, _, _, _, _, _, _, _, _, _, _, _, _, _, _, _, _, _, _, rfl, rfl⟩ | (obtain rfl : n = -1 := (by omega); exact ⟨_, _, _, _, _, _, _, _, _, _, _, _, _, _, _, _, _, _, _, _, _, _, _, _, rfl, rfl⟩))
    · have hv := heldN_in h1.1 h1.2
      go_wp2
      all_goals (first | (intros; omega) | exact ⟨_, _, _, _, _, _, _, _, _, _, _, _, _, _, _, _, _, _, _, _, _, _, _, _, rfl, rfl⟩ | (obtain rfl : n = -1 := (by omega); exact ⟨_, _, _, _, _, _, _, _, _, _, _, _, _, _, _, _, _, _, _, _, _, _, _, _, rfl, rfl⟩))
    · have hv := heldN_high h1
      go_wp2
      all_goals (first | (intros; omega) | exact ⟨_, _, _, _, _, _, _, _, _, _, _, _, _, _, _, _, _, _, _, _, _, _, _, _, rfl, rfl⟩ | (obtain rfl : n = -1 := (by omega); exact ⟨_, _, _, _, _, _, _, _, _, _, _, _, _, _, _, _, _, _, _, _, _, _, _, _, rfl, rfl⟩))
  refine fun a' wx => ex_elim fun u1 => ex_elim fun u3 => ex_elim fun u4 => ex_elim fun u5 => ex_elim fun u6 => ex_elim fun u7 => ex_elim fun u8 => ex_elim fun u9 => ex_elim fun u10 => ex_elim fun u11 => ex_elim fun u12 => ex_elim fun u13 => ex_elim fun u14 => ex_elim fun u15 => ex_elim fun u16 => ex_elim fun u17 => ex_elim fun u18 => ex_elim fun u19 => ex_elim fun u20 => ex_elim fun u21 => ex_elim fun u22 => ex_elim fun u23 => ex_elim fun u24 => ex_elim fun u25 => ?_
  rintro ⟨rfl, rfl⟩
  go_wp2_with fail
  go_loopw [0, 3] (fun v0 v3 wr => ∃ (r : Nat) (pre : List UInt8), v0 = .int .i64 r ∧ v3 = .string (str pre) ∧ r ≤ 1048577 ∧ Hid (pre ++ encN r = numB n) ∧ pre.length ≤ 3 ∧ Ext w wr) (fun v0 _ _ => (intOf v0).toNat)
  case atStart => exact ⟨heldN n, [], rfl, rfl, hh, rfl, by simp, Ext.refl _⟩
  case round =>
    obtain ⟨r, pre, rfl, rfl, hr, HP, hpl, hx⟩ := hrel
    by_cases hge : 128 ≤ r
    · have HE := hid (encN_ge hge)
      have hcv := one_byte wr (UInt8.ofNat (128 + r % 128)) ((r : Int) % 128 + 128) (by rw [UInt8.toNat_ofNat']; omega)
      have HL : Hid (pre.length + 1 ≤ 3) := by
        have := congrArg List.length HP.out
        rw [HE.out] at this
        simp only [List.length_append, List.length_cons] at this
        have h3 := numB_length n
        unfold Hid; omega
      generalize hc : UInt8.ofNat (128 + r % 128) = c at *
      have HC := hid hc
      clear hc
      go_wp2_with fail
      exact ⟨⟨r / 128, pre ++ [c], by simp, rfl, by omega, by have h1 := HP.out; rw [HE.out] at h1; unfold Hid; rw [← h1]; simp, by simpa using HL.out, hx.alloc _⟩, by simp [intOf]; omega⟩
    · have HE := hid (encN_lt (show r < 128 by omega))
      have hcv := one_byte wr (UInt8.ofNat r) (r : Int) (by rw [UInt8.toNat_ofNat']; omega)
      generalize hc : UInt8.ofNat r = c at *
      have HC := hid hc
      clear hc
      go_wp2_with fail
      go_returns
      refine ⟨?_, hx.alloc _⟩
      rw [← HP.out, HE.out]
      rfl

set_option maxRecDepth 100000 in
set_option maxHeartbeats 1000000 in
theorem fbits_any (n : Int) (hn : 0 ≤ n) (w : World) : Calls Tryz.prog 53 #[.int .u64 n] w (Yields w (.string (str (bitsB n)))) := by
  obtain ⟨i0, hi, hz0, hz1, hz2⟩ := info_parts Tryz.info5
  have hmk := run_make (P := Tryz.prog) w 115 5 i0 (.int .u8 0) Tryz.underlying115 hi hz0 .i64 .i64 8 8 (by omega) (by omega) (by rw [hz2]; omega) (by omega)
  rw [hz1] at hmk
  have hmade : (madeCells (Value.int .u8 0).cells (Int.toNat 8 * 1)) = Array.replicate 8 (.int .u8 0) := by kernel_rfl
  rw [hmade] at hmk
  obtain ⟨w1, hw1⟩ : ∃ w1, w1 = w.alloc (.cells (Array.replicate 8 (.int .u8 0)) 5) := ⟨_, rfl⟩
  rw [← hw1] at hmk
  have hx1 : Ext w w1 := by rw [hw1]; exact Ext.alloc (Ext.refl _) _
  have hb1 : w1.heap[w.heap.size]? = some (.cells (Array.replicate 8 (.int .u8 0)) 5 (0, 0)) := by rw [hw1]; exact heap_alloc_new w _
  clear hmade hw1
  go_enter Tryz.func53, Tryz.ntmps53
  go_wp2_with fail
  go_loopw [4] (fun v4 wr => ∃ (k : Nat) (cs : Array Value), v4 = .int .i64 k ∧ k ≤ 8 ∧ wr.heap[w.heap.size]? = some (.cells cs 5 (0, 0)) ∧ cs.size = 8 ∧ (∀ j, j < k → cs[j]? = some (bcell (UInt8.ofNat (n.toNat / 256 ^ j % 256)))) ∧ Ext w wr) (fun v4 _ => (8 - intOf v4).toNat)
  case atStart => exact ⟨0, _, rfl, by omega, hb1, by simp, fun j hj => by omega, hx1⟩
  case round =>
    obtain ⟨k, cs, rfl, hk, hblk, hcs, hin, hx⟩ := hrel
    have HI := hid hin
    clear hin
    by_cases hlt : k < 8
    · have hc := blk_cell hblk k
      rw [Array.getElem?_eq_getElem (by omega)] at hc
      have hf := blk_free hblk k
      have HB : Hid (((UInt8.ofNat (n.toNat / 256 ^ k % 256)).toNat : Int) = n / 2 ^ (8 * k) % 256) := by
        have := byte_shr hn k
        rwa [IntKind.wrap_u8] at this
      go_wp2_with fail
      refine ⟨⟨k + 1, cs.setIfInBounds k (bcell (UInt8.ofNat (n.toNat / 256 ^ k % 256))), by simp, by omega, ?_, by simpa using hcs, fun j hj => ?_, hx.setCell (Nat.le_refl _) _⟩, by simp [intOf]; omega⟩
      · have := blk_set hblk k (bcell (UInt8.ofNat (n.toNat / 256 ^ k % 256)))
        unfold bcell at *
        rw [HB.out] at *
        exact this
      · by_cases he : j = k
        · subst he; simp [hcs, hlt]
        · rw [Array.getElem?_setIfInBounds_ne (by omega)]
          exact HI.out j (by omega)
    · obtain rfl : k = 8 := by omega
      have hcv := run_string_of_bytes (P := Tryz.prog) wr 115 9 5 ⟨w.heap.size, 0, none⟩ 8 (bitsB n) Tryz.underlying115 Tryz.underlying5 Tryz.underlying9 (fun j hj => by
        have h8 : (bitsB n).length = 8 := bitsB_length n
        rw [add_add, Nat.zero_add, blk_cell hblk, HI.out j (by omega)]
        have := leB_get 8 n.toNat j (by omega)
        have hg : (bitsB n)[j]? = some (bitsB n)[j] := List.getElem?_eq_getElem hj
        rw [show (bitsB n)[j]? = _ from this] at hg
        rw [← Option.some.inj hg]
        rfl)
      rw [bitsB_length] at hcv
      go_wp2
      go_returns
      exact ⟨rfl, hx⟩
end Go.Proofs.YtmpgeabfogcblaaGreat
