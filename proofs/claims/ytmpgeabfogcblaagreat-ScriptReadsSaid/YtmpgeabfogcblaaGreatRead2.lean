/- wire's Reader: eight bytes; whatever the state. -/
import Derived.Test.YtmpgeabfogcblaaGreatRead
import Derived.Lib.EndianBits
namespace Go.Proofs.YtmpgeabfogcblaaGreat
open Go.RowKit

theorem unLe_snoc (s : List UInt8) (k : Nat) (h : k < s.length) : (unLe (s.take (k + 1)) : Int) = (unLe (s.take k) : Int) + byteAt s k * 256 ^ k := by
  rw [List.take_succ_eq_append_getElem h, unLe_append, List.length_take, Nat.min_eq_left (by omega)]
  have : byteAt s k = (s[k].toNat : Int) := by simp [byteAt, h]
  rw [this]
  simp [unLe, Int.mul_comm]
theorem unLe_take_lt (s : List UInt8) (k : Nat) (h : k ≤ s.length) : unLe (s.take k) < 256 ^ k := by
  have := unLe_lt (s.take k)
  rwa [List.length_take, Nat.min_eq_left h] at this
theorem pow256 (k : Nat) : (2 : Int) ^ (8 * k) = 256 ^ k := by rw [Int.pow_mul]; rfl
theorem or_at (s : List UInt8) (k : Nat) (h : k < s.length) (h8 : k < 8) :
    bits BinOp.or IntKind.u64 (unLe (s.take k) : Int) (IntKind.u64.wrap (byteAt s k * 2 ^ (8 * k))) = (unLe (s.take (k + 1)) : Int) := by
  have hb := byteAt_bound s k
  have hx := unLe_take_lt s k (by omega)
  have hy := unLe_take_lt s (k + 1) (by omega)
  have hs := unLe_snoc s k h
  have hle : (256 : Nat) ^ (k + 1) ≤ 256 ^ 8 := Nat.pow_le_pow_right (by omega) (by omega)
  have hle' : (256 : Nat) ^ k ≤ 256 ^ 8 := Nat.pow_le_pow_right (by omega) (by omega)
  have hp : (0 : Int) ≤ byteAt s k * 256 ^ k := Int.mul_nonneg hb.1 (Int.pow_nonneg (by omega))
  have hx' : (unLe (s.take k) : Int) < 256 ^ k := by rw [show (256 : Int) ^ k = ((256 ^ k : Nat) : Int) from by simp]; exact Int.ofNat_lt.2 hx
  have h264 : ((256 : Nat) ^ 8 : Nat) = 18446744073709551616 := by decide
  have hk8 : unLe (s.take (k + 1)) < 18446744073709551616 := Nat.lt_of_lt_of_le hy (h264 ▸ hle)
  have hk7 : unLe (s.take k) < 18446744073709551616 := Nat.lt_of_lt_of_le hx (h264 ▸ hle')
  have e64 : (2 : Int) ^ 64 = 18446744073709551616 := by decide
  have hm : byteAt s k * 256 ^ k % 256 ^ k = 0 := Int.mul_emod_left _ _
  rw [pow256]
  have hj := bits_join_low .u64 64 (by decide) wraps_u64 (8 * k) (unLe (s.take k) : Int) (byteAt s k * 256 ^ k)
  rw [pow256, e64] at hj
  clear hle hle' hy hx h264 e64
  generalize byteAt s k * 256 ^ k = X at *
  generalize (256 : Int) ^ k = P at *
  have hw : IntKind.u64.wrap X = X := u64_wrap_id _ hp (by omega)
  rw [hw, hj (by omega) hx' (by omega) hp hm (by omega)]
  omega

set_option maxRecDepth 100000 in
set_option maxHeartbeats 4000000 in
theorem rbits_ok (b : Nat) (r : Rd) (w : World) (h : Rr b r w) (he : r.e = 0) (hlen : r.s.length ≤ 140737488355328) (h8 : 8 ≤ r.s.length) :
    Calls Tryz.prog 96 #[.pointer (some ⟨b, 0, none⟩)] w fun e w' => e = .returned (.int .u64 r.bits) ∧ Rr b r.afterBits w' ∧ Only b w w' := by
  have HR := hid h
  obtain ⟨c0, c1, f0, f1⟩ := h.cells
  rw [he, errV_0] at c1
  clear h
  have HE := hid he
  clear he
  go_enter Tryz.func96, Tryz.ntmps96
  go_wp2
  go_loop [3, 20] (fun n v => ∃ k : Nat, v = .int .i64 k ∧ k ≤ 8 ∧ n = .int .u64 (unLe (r.s.take k))) (fun _ v => (8 - intOf v).toNat)
  case atStart => exact ⟨0, rfl, by omega, by simp [unLe]⟩
  case round =>
    obtain ⟨k, rfl, hk, rfl⟩ := hrel
    by_cases hlt : k < 8
    · have hb := byteAt_bound r.s k
      have hkl : k < r.s.length := by omega
      have H := hid (or_at r.s k hkl hlt)
      go_wp2
      exact ⟨⟨k + 1, by simp, by omega, by rw [H.out]⟩, by simp [intOf]; omega⟩
    · obtain rfl : k = 8 := by omega
      go_wp2
      go_returns
      have hb : r.bits = (unLe (r.s.take 8) : Int) := by simp [Rd.bits, HE.out, h8]
      have ha : r.afterBits = ⟨r.s.drop 8, 0⟩ := by simp [Rd.afterBits, HE.out, h8]
      rw [hb, ha]
      have HL := HR.out.setLeft (r.s.drop 8)
      rw [HE.out] at HL
      exact ⟨rfl, HL, (Only.refl _ _).setCell _⟩

set_option maxRecDepth 100000 in
set_option maxHeartbeats 1000000 in
theorem rbits_short (b : Nat) (r : Rd) (w : World) (h : Rr b r w) (he : r.e = 0) (h8 : ¬ 8 ≤ r.s.length) :
    Calls Tryz.prog 96 #[.pointer (some ⟨b, 0, none⟩)] w fun e w' => e = .returned (.int .u64 r.bits) ∧ Rr b r.afterBits w' ∧ Only b w w' := by
  have HR := hid h
  obtain ⟨c0, c1, f0, f1⟩ := h.cells
  rw [he, errV_0] at c1
  clear h
  have HE := hid he
  clear he
  have hl : (r.s.length : Int) < 8 := by omega
  go_enter Tryz.func96, Tryz.ntmps96
  go_wp2
  go_returns
  have hb : r.bits = 0 := by simp [Rd.bits, h8]
  have ha : r.afterBits = ⟨r.s, 11⟩ := by simp [Rd.afterBits, HE.out, h8]
  rw [hb, ha]
  exact ⟨rfl, HR.out.setErr (e := 11) (by decide), (Only.refl _ _).setCell _⟩

set_option maxRecDepth 100000 in
set_option maxHeartbeats 1000000 in
theorem rbits_err (b : Nat) (r : Rd) (w : World) (h : Rr b r w) (he : r.e ≠ 0) :
    Calls Tryz.prog 96 #[.pointer (some ⟨b, 0, none⟩)] w fun e w' => e = .returned (.int .u64 r.bits) ∧ Rr b r.afterBits w' ∧ Only b w w' := by
  have hb : r.bits = 0 := by simp [Rd.bits, he]
  have ha : r.afterBits = r := by simp [Rd.afterBits, he]
  rw [hb, ha]
  obtain ⟨c0, c1, f0, f1⟩ := h.cells
  rw [errV_pos he] at c1
  go_enter Tryz.func96, Tryz.ntmps96
  go_wp2
  go_returns
  exact ⟨rfl, h, Only.refl _ _⟩

theorem rbits_any (b : Nat) (r : Rd) (w : World) (h : Rr b r w) (hlen : r.s.length ≤ 140737488355328) :
    Calls Tryz.prog 96 #[.pointer (some ⟨b, 0, none⟩)] w fun e w' => e = .returned (.int .u64 r.bits) ∧ Rr b r.afterBits w' ∧ Only b w w' := by
  by_cases he : r.e = 0
  · by_cases h8 : 8 ≤ r.s.length
    · exact rbits_ok b r w h he hlen h8
    · exact rbits_short b r w h he h8
  · exact rbits_err b r w h he
theorem rnum_any (b : Nat) (r : Rd) (most : Int) (w : World) (h : Rr b r w) (hlen : r.s.length ≤ 140737488355328) :
    Calls Tryz.prog 79 #[.pointer (some ⟨b, 0, none⟩), .int .i64 most] w fun e w' => e = .returned (.int .i64 (r.num most)) ∧ Rr b (r.afterNum most) w' ∧ Only b w w' := by
  by_cases he : r.e = 0
  · exact rnum_ok b r most w h he hlen
  · exact rnum_err b r most w h he
theorem Rd.afterNum_len (r : Rd) (most : Int) : (r.afterNum most).s.length ≤ r.s.length := by
  unfold Rd.afterNum
  split <;> (try split) <;> simp
theorem Rd.afterBits_len (r : Rd) : r.afterBits.s.length ≤ r.s.length := by
  unfold Rd.afterBits
  split <;> (try split) <;> simp
end Go.Proofs.YtmpgeabfogcblaaGreat
