/- Whole numbers as floating point, further: one parted by another and rounded down; times a point 1-si; numbers too great to be told exactly. No program is named here. -/
import Derived.Test.YtiejnochddjlmaaFl
import Derived.Test.YtiejnochddjlmaaFl2
import Derived.Laws.FloatArith
import Derived.Laws.ComplexArith
namespace Go.Proofs.Ytiejnochddjlmaa
open Go.RowKit

theorem log2_of {n k : Nat} (h1 : 2 ^ k ≤ n) (h2 : n < 2 ^ (k + 1)) : n.log2 = k := by
  have h0 : n ≠ 0 := by have := Nat.two_pow_pos k; omega
  exact (Nat.log2_eq_iff h0).2 ⟨h1, h2⟩

/-- What a cut to the nearest keeps. -/
theorem cut_near (neg : Bool) (n d : Nat) (h : d ≤ n.log2 + 2) : n / 2 ^ d ≤ Ieee.Toward.even.cut neg n d ∧ Ieee.Toward.even.cut neg n d ≤ n / 2 ^ d + 1 := by
  have hg : (1 <<< min d (n.log2 + 2)) = 2 ^ d := by rw [Nat.min_eq_left h, Nat.one_shiftLeft]
  simp only [Ieee.Toward.cut, hg]
  constructor
  · exact Nat.le_add_right _ _
  · exact Nat.add_le_add_left (Bool.toNat_le _) _

set_option maxRecDepth 100000 in
/-- What a number is as it is written and read again: 53 digits of it. -/
theorem near_read (neg : Bool) {m : Nat} {p : Int} (hm : m ≠ 0) (h0 : -1000 ≤ p + m.log2) (h1 : p + m.log2 ≤ 1000) :
    ∃ K : Nat, 2 ^ 52 ≤ K ∧ K ≤ 2 ^ 53 ∧ (∀ d : Nat, m.log2 = 52 + d → m / 2 ^ d ≤ K ∧ K ≤ m / 2 ^ d + 1) ∧ (m.log2 ≤ 52 → K = m * 2 ^ (52 - m.log2)) ∧
      Ieee.double.nearest neg m p < 2 ^ 64 ∧
      Ieee.double.read (Ieee.double.nearest neg m p) = .number neg (if K < 2 ^ 53 then K else 2 ^ 52) (if K < 2 ^ 53 then p + m.log2 - 52 else p + m.log2 - 51) := by
  have hl1 := Nat.log2_self_le hm
  have hl2 := @Nat.lt_log2_self m
  have hlp : Ieee.double.leastPlace = -1074 := rfl
  have hfb : ((Ieee.double.fractionBits : Nat) : Int) = 52 := rfl
  have hb : Ieee.double.binade = 2 ^ 52 := rfl
  have hi : Ieee.double.infRung = 2047 * 2 ^ 52 := rfl
  have hlast : max (p + (m.log2 : Nat) - (Ieee.double.fractionBits : Nat)) Ieee.double.leastPlace = p + m.log2 - 52 := by rw [hlp, hfb]; omega
  obtain ⟨K, hK⟩ : ∃ K, K = Ieee.Toward.even.cut neg (m <<< (p - (p + m.log2 - 52)).toNat) ((p + m.log2 - 52) - p).toNat := ⟨_, rfl⟩
  have hbig : ∀ d : Nat, m.log2 = 52 + d → m / 2 ^ d ≤ K ∧ K ≤ m / 2 ^ d + 1 := fun d hd => by
    rw [hK, show (p - (p + (m.log2 : Int) - 52)).toNat = 0 by omega, show ((p + (m.log2 : Int) - 52) - p).toNat = d by omega, Nat.shiftLeft_zero]
    exact cut_near neg m d (by omega)
  have hsmall : m.log2 ≤ 52 → K = m * 2 ^ (52 - m.log2) := fun hle => by
    rw [hK, show (p - (p + (m.log2 : Int) - 52)).toNat = 52 - m.log2 by omega, show ((p + (m.log2 : Int) - 52) - p).toNat = 0 by omega, cut_none, Nat.shiftLeft_eq]
  have hr : 2 ^ 52 ≤ K ∧ K ≤ 2 ^ 53 := by
    by_cases hle : m.log2 ≤ 52
    · rw [hsmall hle]
      have e1 : 2 ^ m.log2 * 2 ^ (52 - m.log2) = 2 ^ 52 := by rw [← Nat.pow_add]; congr 1; omega
      have e2 : 2 ^ (m.log2 + 1) * 2 ^ (52 - m.log2) = 2 ^ 53 := by rw [← Nat.pow_add]; congr 1; omega
      exact ⟨by rw [← e1]; exact Nat.mul_le_mul_right _ hl1, by rw [← e2]; exact Nat.mul_le_mul_right _ (Nat.le_of_lt hl2)⟩
    · obtain ⟨d, hd⟩ : ∃ d, m.log2 = 52 + d := ⟨m.log2 - 52, by omega⟩
      obtain ⟨k1, k2⟩ := hbig d hd
      have e1 : 2 ^ 52 ≤ m / 2 ^ d := (Nat.le_div_iff_mul_le (Nat.two_pow_pos d)).2 (by rw [← Nat.pow_add, ← hd]; exact hl1)
      have e2 : m / 2 ^ d < 2 ^ 53 := (Nat.div_lt_iff_lt_mul (Nat.two_pow_pos d)).2 (by rw [← Nat.pow_add, show 53 + d = m.log2 + 1 by omega]; exact hl2)
      exact ⟨Nat.le_trans e1 k1, by omega⟩
  refine ⟨K, hr.1, hr.2, hbig, hsmall, ?_⟩
  have hn : Ieee.double.nearest neg m p = Ieee.double.word neg ((p + m.log2 - 52 - -1074).toNat * 2 ^ 52 + K) := by
    unfold Ieee.Format.nearest
    simp only [hm, if_false, hlast]
    rw [← hK]
    simp only [hlp, hb, hi]
    rw [Nat.min_eq_left]
    obtain ⟨r1, r2⟩ := hr
    clear hbig hsmall hK hl1 hl2
    generalize m.log2 = L at *
    simp only [show (2 : Nat) ^ 52 = 4503599627370496 from rfl, show (2 : Nat) ^ 53 = 9007199254740992 from rfl] at *
    omega
  obtain ⟨q, hq⟩ : ∃ q : Nat, q = (p + m.log2 - 52 - -1074).toNat := ⟨_, rfl⟩
  rw [← hq] at hn
  have hq1 : (22 : Nat) ≤ q := by omega
  have hq2 : q ≤ 2022 := by omega
  have hq3 : p + m.log2 - 52 = (q : Int) - 1074 := by omega
  have hR : q * 2 ^ 52 + K < 2 ^ 63 := by
    obtain ⟨r1, r2⟩ := hr
    simp only [show (2 : Nat) ^ 52 = 4503599627370496 from rfl, show (2 : Nat) ^ 53 = 9007199254740992 from rfl, show (2 : Nat) ^ 63 = 9223372036854775808 from rfl] at *
    omega
  obtain ⟨w1, w2⟩ := word_parts neg hR
  rw [hn]
  constructor
  · unfold Ieee.Format.word
    rw [show Ieee.double.signWeight = 2 ^ 63 from rfl]
    simp only [show (2 : Nat) ^ 63 = 9223372036854775808 from rfl, show (2 : Nat) ^ 64 = 18446744073709551616 from rfl] at *
    split <;> omega
  · unfold Ieee.Format.read
    simp only [w1, w2, hb, hi, hlp]
    obtain ⟨r1, r2⟩ := hr
    clear w1 w2 hn hbig hsmall hK hl1 hl2 hlast
    simp only [show (2 : Nat) ^ 52 = 4503599627370496 from rfl, show (2 : Nat) ^ 53 = 9007199254740992 from rfl, show (2 : Nat) ^ 63 = 9223372036854775808 from rfl] at *
    rw [if_neg (by omega), if_pos (by omega)]
    by_cases hk : K < 9007199254740992
    · simp only [if_pos hk]
      have e1 : (q * 4503599627370496 + K) / 4503599627370496 = q + 1 := by omega
      have e2 : 4503599627370496 + (q * 4503599627370496 + K) % 4503599627370496 = K := by omega
      rw [e1, e2]
      congr 1
      omega
    · obtain rfl : K = 9007199254740992 := by omega
      simp only [if_neg hk]
      have e1 : (q * 4503599627370496 + 9007199254740992) / 4503599627370496 = q + 2 := by omega
      have e2 : 4503599627370496 + (q * 4503599627370496 + 9007199254740992) % 4503599627370496 = 4503599627370496 := by omega
      have e3 : (-1074 : Int) + ((q + 2 - 1 : Nat) : Int) = p + m.log2 - 51 := by omega
      rw [e1, e2, e3]

/-- The same of a whole number: just itself. -/
theorem read_nz (neg : Bool) {m : Nat} (hm : m ≠ 0) (h53 : m < 2 ^ 53) : Ieee.double.read (Ieee.double.word neg (rung m)) = .number neg (m * 2 ^ (52 - m.log2)) (-((52 - m.log2 : Nat) : Int)) := by
  have hl := log2_le52 hm h53
  obtain ⟨K, -, -, -, h4, -, h6⟩ := near_read neg (p := 0) hm (by omega) (by omega)
  have hk := kept_bounds hm h53
  have := nearest_of neg m 0 h53
  simp only [Nat.pow_zero, Nat.mul_one] at this
  have e0 : (-((0 : Nat) : Int)) = 0 := rfl
  rw [e0] at this
  rw [← this, h6, if_pos (by rw [h4 hl]; exact hk.2), if_pos (by rw [h4 hl]; exact hk.2), h4 hl]
  congr 1
  omega

/-- One parted by another, cut to 53 digits and rounded down. -/
theorem part_down {a b D K : Nat} (hb : 0 < b) (hD : b < 2 ^ D) (h1 : a * 2 ^ D / b ≤ K) (h2 : K ≤ a * 2 ^ D / b + 1) : K / 2 ^ D = a / b := by
  have hp := Nat.two_pow_pos D
  have e1 : a * 2 ^ D / b / 2 ^ D = a / b := by rw [Nat.div_div_eq_div_mul, Nat.mul_div_mul_right _ _ hp]
  have l1 : a / b ≤ K / 2 ^ D := by rw [← e1]; exact Nat.div_le_div_right h1
  have h3 : a < b * (a / b + 1) := by rw [Nat.mul_add, Nat.mul_one]; have := Nat.div_add_mod a b; have := Nat.mod_lt a hb; omega
  have h4 : a * 2 ^ D + 2 ^ D ≤ b * (a / b + 1) * 2 ^ D := by rw [← Nat.succ_mul]; exact Nat.mul_le_mul_right _ h3
  have h5 : a * 2 ^ D / b + 1 < (a / b + 1) * 2 ^ D := by
    have h6 : a * 2 ^ D / b < (a / b + 1) * 2 ^ D - 1 := by
      rw [Nat.div_lt_iff_lt_mul hb, Nat.sub_mul, Nat.one_mul, show (a / b + 1) * 2 ^ D * b = b * (a / b + 1) * 2 ^ D by rw [Nat.mul_comm, Nat.mul_assoc]]
      generalize b * (a / b + 1) * 2 ^ D = y at *
      omega
    exact Nat.add_lt_of_lt_sub h6
  have l2 : K / 2 ^ D < a / b + 1 := (Nat.div_lt_iff_lt_mul hp).2 (by omega)
  omega

theorem cut_down (n d : Nat) : Ieee.Toward.down.cut false n d = n / 2 ^ d := by
  by_cases h : d ≤ n.log2 + 2
  · have hg : (1 <<< min d (n.log2 + 2)) = 2 ^ d := by rw [Nat.min_eq_left h, Nat.one_shiftLeft]
    simp only [Ieee.Toward.cut, hg]
    simp
  · have hg : (1 <<< min d (n.log2 + 2)) = 2 ^ (n.log2 + 2) := by rw [Nat.min_eq_right (by omega), Nat.one_shiftLeft]
    simp only [Ieee.Toward.cut, hg]
    have hlt := @Nat.lt_log2_self n
    have p1 : (2 : Nat) ^ (n.log2 + 1) ≤ 2 ^ (n.log2 + 2) := Nat.pow_le_pow_right (by omega) (by omega)
    have p2 : (2 : Nat) ^ (n.log2 + 1) ≤ 2 ^ d := Nat.pow_le_pow_right (by omega) (by omega)
    rw [Nat.div_eq_of_lt (by omega), Nat.div_eq_of_lt (by omega)]
    simp

/-- A number rounded down. -/
def floorF (x : Nat) : Nat := FloatKind.f64.encode ((FloatKind.f64.decode x).integral .down)

set_option maxRecDepth 100000 in
theorem div_floor {a b : Nat} (ha : a < 2 ^ 20) (hb0 : 0 < b) (hb : b < 2 ^ 20) : ∃ x s m p, Ieee.double.div (Fz a) (Fz b) = some x ∧ FloatKind.f64.decode x = .number s m p ∧ floorF x = Fz ((a / b : Nat) : Int) := by
  have p20 : (2 : Nat) ^ 20 < 2 ^ 53 := by decide
  have hFb : Fz (b : Int) = Ieee.double.word false (rung b) := by unfold Fz; rw [Int.natAbs_natCast, show decide ((b : Int) < 0) = false by simp]
  have hFq : ∀ q : Nat, q < 2 ^ 53 → Ieee.double.nearest false q 0 = Fz (q : Int) := fun q hq => by
    have := nearest_of false q 0 hq
    simp only [Nat.pow_zero, Nat.mul_one] at this
    have e0 : (-((0 : Nat) : Int)) = 0 := rfl
    rw [e0] at this
    rw [this]
    unfold Fz; rw [Int.natAbs_natCast, show decide ((q : Int) < 0) = false by simp]
  have rb := read_nz false (m := b) (by omega) (by omega)
  rw [← hFb] at rb
  have kb := kept_bounds (m := b) (by omega) (by omega)
  have lb : b.log2 < 20 := (Nat.log2_lt (by omega)).2 hb
  by_cases h0 : a = 0
  · subst h0
    have r0 : Ieee.double.read (Fz ((0 : Nat) : Int)) = .number false 0 (-1074) := by decide
    refine ⟨0, false, 0, -1074, ?_, by decide, ?_⟩
    · unfold Ieee.Format.div
      rw [r0, rb]
      simp only [Ieee.Datum.quotient]
      rw [if_neg (by omega)]
      simp [Ieee.Format.write, Ieee.Format.nearest, Ieee.Format.word]
    · rw [Nat.zero_div]; decide
  have hFa : Fz (a : Int) = Ieee.double.word false (rung a) := by unfold Fz; rw [Int.natAbs_natCast, show decide ((a : Int) < 0) = false by simp]
  have ra := read_nz false (m := a) h0 (by omega)
  rw [← hFa] at ra
  have ka := kept_bounds (m := a) h0 (by omega)
  have la : a.log2 < 20 := (Nat.log2_lt h0).2 ha
  obtain ⟨i, hi⟩ : ∃ i, i = 52 - a.log2 := ⟨_, rfl⟩
  obtain ⟨j, hj⟩ : ∃ j, j = 52 - b.log2 := ⟨_, rfl⟩
  rw [← hi] at ra ka
  rw [← hj] at rb kb
  have i1 : 33 ≤ i := by omega
  have i2 : i ≤ 52 := by omega
  have j1 : 33 ≤ j := by omega
  have j2 : j ≤ 52 := by omega
  have lA : (a * 2 ^ i).log2 = 52 := log2_of ka.1 ka.2
  have lB : (b * 2 ^ j).log2 = 52 := log2_of kb.1 kb.2
  obtain ⟨X, hX⟩ : ∃ X, X = (a * 2 ^ i) <<< 54 / (b * 2 ^ j) := ⟨_, rfl⟩
  obtain ⟨M, hM⟩ : ∃ M, M = 2 * X + (((a * 2 ^ i) <<< 54) % (b * 2 ^ j) != 0).toNat := ⟨_, rfl⟩
  have hX2 : X = a * 2 ^ (i + 54) / (b * 2 ^ j) := by rw [hX, Nat.shiftLeft_eq, Nat.mul_assoc, ← Nat.pow_add]
  have hBp : 0 < b * 2 ^ j := by have := kb.1; have : (0 : Nat) < 2 ^ 52 := Nat.two_pow_pos 52; omega
  have hXlo : 2 ^ 53 ≤ X := by
    rw [hX, Nat.shiftLeft_eq, Nat.le_div_iff_mul_le hBp]
    calc 2 ^ 53 * (b * 2 ^ j) ≤ 2 ^ 53 * 2 ^ 53 := Nat.mul_le_mul_left _ (Nat.le_of_lt kb.2)
      _ = 2 ^ 52 * 2 ^ 54 := by decide
      _ ≤ a * 2 ^ i * 2 ^ 54 := Nat.mul_le_mul_right _ ka.1
  have hXhi : X < 2 ^ 55 := by
    rw [hX, Nat.shiftLeft_eq, Nat.div_lt_iff_lt_mul hBp]
    calc a * 2 ^ i * 2 ^ 54 < 2 ^ 53 * 2 ^ 54 := Nat.mul_lt_mul_of_pos_right ka.2 (Nat.two_pow_pos 54)
      _ = 2 ^ 55 * 2 ^ 52 := by decide
      _ ≤ 2 ^ 55 * (b * 2 ^ j) := Nat.mul_le_mul_left _ kb.1
  have hst : (((a * 2 ^ i) <<< 54) % (b * 2 ^ j) != 0).toNat ≤ 1 := Bool.toNat_le _
  have hMX : M / 2 = X := by omega
  have hMlo : 2 ^ 54 ≤ M := by have e : (2 : Nat) ^ 54 = 2 * 2 ^ 53 := by decide
                               omega
  have hMhi : M < 2 ^ 56 := by have e : (2 : Nat) ^ 56 = 2 * 2 ^ 55 := by decide
                               omega
  have hM0 : M ≠ 0 := by have : (0 : Nat) < 2 ^ 54 := Nat.two_pow_pos 54; omega
  obtain ⟨d, hd, hd1, hd2⟩ : ∃ d, M.log2 = 52 + d ∧ 2 ≤ d ∧ d ≤ 3 := by
    have l1 : 54 ≤ M.log2 := (Nat.le_log2 hM0).2 hMlo
    have l2 : M.log2 < 56 := (Nat.log2_lt hM0).2 hMhi
    exact ⟨M.log2 - 52, by omega, by omega, by omega⟩
  obtain ⟨D, hD⟩ : ∃ D, D + (j + d) = i + 55 := ⟨i + 55 - (j + d), by omega⟩
  have hMd : M / 2 ^ d = a * 2 ^ D / b := by
    obtain ⟨d', rfl⟩ : ∃ d', d = d' + 1 := ⟨d - 1, by omega⟩
    rw [Nat.pow_succ, Nat.mul_comm, ← Nat.div_div_eq_div_mul, hMX, hX2, Nat.div_div_eq_div_mul, Nat.mul_assoc, ← Nat.pow_add, show i + 54 = D + (j + d') by omega, Nat.pow_add, ← Nat.mul_assoc]
    exact Nat.mul_div_mul_right _ _ (Nat.two_pow_pos _)
  obtain ⟨K, k1, k2, k3, -, k5, k6⟩ := near_read false (m := M) (p := (j : Int) - i - 55) hM0 (by omega) (by omega)
  obtain ⟨k3, k4⟩ := k3 d hd
  rw [hMd] at k3 k4
  have hbD : b < 2 ^ D := Nat.lt_of_lt_of_le hb (Nat.pow_le_pow_right (by omega) (by omega))
  have hfin := part_down hb0 hbD k3 k4
  have hx : Ieee.double.div (Fz a) (Fz b) = some (Ieee.double.nearest false M ((j : Int) - i - 55)) := by
    unfold Ieee.Format.div
    rw [ra, rb]
    simp only [Ieee.Datum.quotient]
    rw [if_neg (by omega), lA, lB, show Ieee.double.fractionBits + 2 + 52 - 52 = 54 from rfl, ← hX, ← hM]
    simp only [Option.map_some, Ieee.Format.write]
    congr 2
    omega
  refine ⟨_, _, _, _, hx, k6, ?_⟩
  have hq : a / b < 2 ^ 53 := Nat.lt_of_le_of_lt (Nat.div_le_self a b) (by omega)
  unfold floorF
  rw [show FloatKind.f64.decode (Ieee.double.nearest false M ((j : Int) - i - 55)) = Ieee.double.read (Ieee.double.nearest false M ((j : Int) - i - 55)) from rfl, k6]
  simp only [Ieee.Datum.integral]
  rw [cut_down, hd]
  have hs : (if K < 2 ^ 53 then K else 2 ^ 52) <<< (if K < 2 ^ 53 then (j : Int) - i - 55 + (52 + d : Nat) - 52 else (j : Int) - i - 55 + (52 + d : Nat) - 51).toNat / 2 ^ (-(if K < 2 ^ 53 then (j : Int) - i - 55 + (52 + d : Nat) - 52 else (j : Int) - i - 55 + (52 + d : Nat) - 51)).toNat = a / b := by
    by_cases hk : K < 2 ^ 53
    · rw [if_pos hk, if_pos hk, show ((j : Int) - i - 55 + (52 + d : Nat) - 52).toNat = 0 by omega, Nat.shiftLeft_zero, show (-((j : Int) - i - 55 + (52 + d : Nat) - 52)).toNat = D by omega]
      exact hfin
    · obtain rfl : K = 2 ^ 53 := by omega
      rw [if_neg hk, if_neg hk, show ((j : Int) - i - 55 + (52 + d : Nat) - 51).toNat = 0 by omega, Nat.shiftLeft_zero, show (-((j : Int) - i - 55 + (52 + d : Nat) - 51)).toNat = D - 1 by omega]
      rw [← hfin]
      obtain ⟨D', rfl⟩ : ∃ D', D = D' + 1 := ⟨D - 1, by omega⟩
      rw [Nat.add_sub_cancel, Nat.pow_succ 2 D', show (2 : Nat) ^ 53 = 2 ^ 52 * 2 from rfl, Nat.mul_div_mul_right _ _ (by omega)]
  rw [hs]
  exact hFq _ hq
end Go.Proofs.Ytiejnochddjlmaa
