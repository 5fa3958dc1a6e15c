/- The document's own Reader: eight bytes; whatever the state. -/
import Derived.Test.YtmpgeabfogcblaaGreatRef1
namespace Go.Proofs.YtmpgeabfogcblaaGreat
open Go.RowKit

theorem unLe_drop (s : List UInt8) (j : Nat) (h : j < 8) (hs : 8 ≤ s.length) : (unLe ((s.take 8).drop j) : Int) = byteAt s j + 256 * (unLe ((s.take 8).drop (j + 1)) : Int) := by
  have hl : j < (s.take 8).length := by rw [List.length_take]; omega
  rw [List.drop_eq_getElem_cons hl]
  have : byteAt s j = (((s.take 8)[j]).toNat : Int) := by
    rw [List.getElem_take]
    simp [byteAt, show j < s.length by omega]
  rw [this]
  simp [unLe]
theorem unLe_drop_lt (s : List UInt8) (j : Nat) (hs : 8 ≤ s.length) : unLe ((s.take 8).drop j) < 256 ^ (8 - j) := by
  have := unLe_lt ((s.take 8).drop j)
  rwa [List.length_drop, List.length_take, Nat.min_eq_left hs] at this
theorem or_low (s : List UInt8) (j : Nat) (h : j < 8) (hs : 8 ≤ s.length) (x : Int) (hx : x = (unLe ((s.take 8).drop (j + 1)) : Int)) :
    0 ≤ x ∧ x ≤ 72057594037927935 ∧ bits BinOp.or IntKind.u64 (x * 256) (byteAt s j) = (unLe ((s.take 8).drop j) : Int) := by
  have hb := byteAt_bound s j
  have h1 := unLe_drop s j h hs
  have h2 := unLe_drop_lt s (j + 1) hs
  have h3 : (256 : Nat) ^ (8 - (j + 1)) ≤ 256 ^ 7 := Nat.pow_le_pow_right (by omega) (by omega)
  have h4 : (256 : Nat) ^ 7 = 72057594037927936 := by decide
  have h5 : unLe ((s.take 8).drop (j + 1)) < 72057594037927936 := Nat.lt_of_lt_of_le h2 (h4 ▸ h3)
  clear h2 h3 h4
  have e64 : (2 : Int) ^ 64 = 18446744073709551616 := by decide
  have e8 : (2 : Int) ^ 8 = 256 := by decide
  have hj := bits_join .u64 64 (by decide) wraps_u64 8 (x * 256) (byteAt s j)
  rw [e64, e8] at hj
  clear e64 e8
  refine ⟨by omega, by omega, ?_⟩
  rw [hj (by omega) (by omega) (by omega) hb.1 (by omega) (by omega)]
  omega

set_option maxRecDepth 100000 in
set_option maxHeartbeats 1000000 in
theorem qbits_ok (b : Nat) (r : Rd) (w : World) (h : Rq b r w) (he : r.e = 0) (hlen : r.s.length ≤ 140737488355328) (h8 : 8 ≤ r.s.length) :
    Calls Tryz.prog 46 #[.pointer (some ⟨b, 0, none⟩)] w fun e w' => e = .returned (.int .u64 r.bits) ∧ Rq b r.afterBits w' ∧ Only b w w' := by
  have HR := hid h
  obtain ⟨c0, c1, f0, f1⟩ := h.cells
  rw [he] at c1
  clear h
  have HE := hid he
  clear he
  have h8' : (8 : Int) ≤ (r.s.length : Int) := by omega
  have hd8 : decide ((r.s.length : Int) < 8) = false := by simpa using h8'
  go_enter Tryz.func46, Tryz.ntmps46
  go_wp2_with fail
  go_loop [3, 4] (fun n v => ∃ i : Int, v = .int .i64 i ∧ -1 ≤ i ∧ i ≤ 7 ∧ ∃ x : Int, n = .int .u64 x ∧ Hid (x = (unLe ((r.s.take 8).drop (i + 1).toNat) : Int))) (fun _ v => (intOf v + 1).toNat)
  case atStart => exact ⟨7, rfl, by omega, by omega, 0, rfl, by unfold Hid; rw [List.drop_eq_nil_of_le (by rw [List.length_take]; exact Nat.min_le_left _ _)]; rfl⟩
  case round =>
    obtain ⟨i, rfl, hi, hi7, x, rfl, hx⟩ := hrel
    by_cases h0 : 0 ≤ i
    · obtain ⟨j, rfl⟩ := Int.eq_ofNat_of_zero_le h0
      obtain ⟨x1, x2, x3⟩ := or_low r.s j (by omega) h8 x hx.out
      have hb := byteAt_bound r.s j
      have HX := hid x3
      clear x3
      go_wp2_with fail
      exact ⟨⟨(j : Int) - 1, rfl, by omega, by omega, _, rfl, by rw [show ((j : Int) - 1 + 1).toNat = j from by omega]; exact HX⟩, by simp [intOf]⟩
    · obtain rfl : i = -1 := by omega
      go_wp2
      go_returns
      have hb : r.bits = (unLe (r.s.take 8) : Int) := by simp [Rd.bits, HE.out, h8]
      have ha : r.afterBits = ⟨r.s.drop 8, 0⟩ := by simp [Rd.afterBits, HE.out, h8]
      rw [hb, ha]
      have HL := HR.out.setLeft (r.s.drop 8)
      rw [HE.out] at HL
      have hx' := hx.out
      simp at hx'
      subst hx'
      exact ⟨rfl, HL, (Only.refl _ _).setCell _⟩

set_option maxRecDepth 100000 in
set_option maxHeartbeats 1000000 in
theorem qbits_short (b : Nat) (r : Rd) (w : World) (h : Rq b r w) (he : r.e = 0) (h8 : ¬ 8 ≤ r.s.length) :
    Calls Tryz.prog 46 #[.pointer (some ⟨b, 0, none⟩)] w fun e w' => e = .returned (.int .u64 r.bits) ∧ Rq b r.afterBits w' ∧ Only b w w' := by
  have HR := hid h
  obtain ⟨c0, c1, f0, f1⟩ := h.cells
  rw [he] at c1
  clear h
  have HE := hid he
  clear he
  have hl : (r.s.length : Int) < 8 := by omega
  have hs := HR.out.setErr 11
  have hsc := hs.cells
  go_enter Tryz.func46, Tryz.ntmps46
  go_wp2_with fail
  refine (fails_any b r 11 w HR.out HE.out).mono ?_
  rintro e' w' ⟨rfl, rfl⟩
  go_wp2
  go_returns
  have hb : r.bits = 0 := by simp [Rd.bits, h8]
  have ha : r.afterBits = ⟨r.s, 11⟩ := by simp [Rd.afterBits, HE.out, h8]
  rw [hb, ha]
  exact ⟨rfl, hs, (Only.refl _ _).setCell _⟩

set_option maxRecDepth 100000 in
set_option maxHeartbeats 1000000 in
theorem qbits_err (b : Nat) (r : Rd) (w : World) (h : Rq b r w) (he : r.e ≠ 0) :
    Calls Tryz.prog 46 #[.pointer (some ⟨b, 0, none⟩)] w fun e w' => e = .returned (.int .u64 r.bits) ∧ Rq b r.afterBits w' ∧ Only b w w' := by
  have hb : r.bits = 0 := by simp [Rd.bits, he]
  have ha : r.afterBits = r := by simp [Rd.afterBits, he]
  rw [hb, ha]
  obtain ⟨c0, c1, f0, f1⟩ := h.cells
  have hne : ((r.e : Int) == 0) = false := by simpa using he
  go_enter Tryz.func46, Tryz.ntmps46
  go_wp2
  go_returns
  exact ⟨rfl, h, Only.refl _ _⟩

theorem qbits_any (b : Nat) (r : Rd) (w : World) (h : Rq b r w) (hlen : r.s.length ≤ 140737488355328) :
    Calls Tryz.prog 46 #[.pointer (some ⟨b, 0, none⟩)] w fun e w' => e = .returned (.int .u64 r.bits) ∧ Rq b r.afterBits w' ∧ Only b w w' := by
  by_cases he : r.e = 0
  · by_cases h8 : 8 ≤ r.s.length
    · exact qbits_ok b r w h he hlen h8
    · exact qbits_short b r w h he h8
  · exact qbits_err b r w h he
theorem qnum_any (b : Nat) (r : Rd) (most : Int) (w : World) (h : Rq b r w) (hlen : r.s.length ≤ 140737488355328) :
    Calls Tryz.prog 18 #[.pointer (some ⟨b, 0, none⟩), .int .i64 most] w fun e w' => e = .returned (.int .i64 (r.num most)) ∧ Rq b (r.afterNum most) w' ∧ Only b w w' := by
  by_cases he : r.e = 0
  · exact qnum_ok b r most w h he hlen
  · exact qnum_err b r most w h he
end Go.Proofs.YtmpgeabfogcblaaGreat
