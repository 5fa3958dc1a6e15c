/- Numbers as bytes, as plain data: what is written, what is read. No program is named here. -/
import Derived.WalkKit
import Derived.Lib.EndianBits
import Derived.Lib.VarintBits
namespace Go.Proofs.YtmpgeabfogcblaaGreat
open Go.RowKit

/-- r in base 128, the lowest first, each byte but the last one plus 128. -/
def encN (r : Nat) : List UInt8 := if h : r < 128 then [UInt8.ofNat r] else UInt8.ofNat (128 + r % 128) :: encN (r / 128)
termination_by r
decreasing_by omega

theorem encN_lt {r : Nat} (h : r < 128) : encN r = [UInt8.ofNat r] := by rw [encN, dif_pos h]
theorem encN_ge {r : Nat} (h : 128 ≤ r) : encN r = UInt8.ofNat (128 + r % 128) :: encN (r / 128) := by rw [encN, dif_neg (by omega)]

/-- n held from -1 to the greatest argument, and one more. -/
def heldN (n : Int) : Nat := (max (-1) (min n 1048576) + 1).toNat
theorem heldN_le (n : Int) : heldN n ≤ 1048577 := by unfold heldN; omega
theorem heldN_in {n : Int} (h : -1 ≤ n) (h' : n ≤ 1048576) : (heldN n : Int) = n + 1 := by unfold heldN; omega
theorem heldN_low {n : Int} (h : n < -1) : heldN n = 0 := by unfold heldN; omega
theorem heldN_high {n : Int} (h : 1048576 < n) : heldN n = 1048577 := by unfold heldN; omega

def numB (n : Int) : List UInt8 := encN (heldN n)
theorem encN_length {r : Nat} (h : r ≤ 1048577) : (encN r).length = 1 + (if 128 ≤ r then 1 else 0) + (if 16384 ≤ r then 1 else 0) := by
  by_cases h1 : r < 128
  · rw [encN_lt h1, if_neg (by omega), if_neg (by omega)]; rfl
  · rw [encN_ge (by omega)]
    by_cases h2 : r / 128 < 128
    · rw [encN_lt h2, if_pos (by omega), if_neg (by omega)]; rfl
    · rw [encN_ge (by omega), encN_lt (by omega), if_pos (by omega), if_pos (by omega)]; rfl
theorem numB_length (n : Int) : (numB n).length ≤ 3 := by
  unfold numB
  rw [encN_length (heldN_le n)]
  split <;> split <;> omega
theorem numB_pos (n : Int) : 1 ≤ (numB n).length := by
  unfold numB
  rw [encN_length (heldN_le n)]
  omega

/-- Eight bytes, the lowest first. -/
def leB : Nat → Nat → List UInt8
  | 0, _ => []
  | k + 1, n => UInt8.ofNat (n % 256) :: leB k (n / 256)
def unLe : List UInt8 → Nat
  | [] => 0
  | c :: t => c.toNat + 256 * unLe t
def bitsB (n : Int) : List UInt8 := leB 8 n.toNat
theorem leB_length : ∀ (k n : Nat), (leB k n).length = k
  | 0, _ => rfl
  | k + 1, n => by simp [leB, leB_length k]
theorem bitsB_length (n : Int) : (bitsB n).length = 8 := leB_length 8 _
theorem unLe_leB : ∀ (k n : Nat), n < 256 ^ k → unLe (leB k n) = n
  | 0, n, h => by simp at h; simp [leB, unLe, h]
  | k + 1, n, h => by
    have h2 : n / 256 < 256 ^ k := by
      rw [Nat.pow_succ] at h
      exact Nat.div_lt_of_lt_mul (by omega)
    simp only [leB, unLe, unLe_leB k _ h2, UInt8.toNat_ofNat']
    omega
theorem unLe_lt : ∀ (l : List UInt8), unLe l < 256 ^ l.length
  | [] => by simp [unLe]
  | c :: t => by
    have := unLe_lt t
    have hc := c.toNat_lt
    simp only [unLe, List.length_cons, Nat.pow_succ]
    omega
theorem leB_take : ∀ (k j n : Nat), j ≤ k → (leB k n).take j = leB j n
  | _, 0, _, _ => by simp [leB]
  | k + 1, j + 1, n, h => by simp [leB, leB_take k j (n / 256) (by omega)]
theorem leB_snoc : ∀ (k n : Nat), leB (k + 1) n = leB k n ++ [UInt8.ofNat (n / 256 ^ k % 256)]
  | 0, n => by simp [leB]
  | k + 1, n => by
    rw [leB, leB_snoc k (n / 256), leB, List.cons_append, Nat.div_div_eq_div_mul, Nat.pow_succ, Nat.mul_comm 256]
theorem unLe_append : ∀ (l m : List UInt8), unLe (l ++ m) = unLe l + 256 ^ l.length * unLe m
  | [], m => by simp [unLe]
  | c :: t, m => by
    simp only [List.cons_append, unLe, unLe_append t m, List.length_cons, Nat.pow_succ]
    rw [Nat.mul_add, ← Nat.mul_assoc, Nat.mul_comm 256 (256 ^ t.length)]
    omega

theorem byte_shr {n : Int} (h : 0 ≤ n) (k : Nat) : ((UInt8.ofNat (n.toNat / 256 ^ k % 256)).toNat : Int) = IntKind.u8.wrap (n / 2 ^ (8 * k)) := by
  obtain ⟨m, rfl⟩ := Int.eq_ofNat_of_zero_le h
  have e : ((m : Int) / 2 ^ (8 * k)) = ((m / 256 ^ k : Nat) : Int) := by
    rw [show (256 : Nat) = 2 ^ 8 from rfl, ← Nat.pow_mul]
    simp
  rw [e, UInt8.toNat_ofNat']
  simp only [IntKind.wrap, IntKind.bits, IntKind.signed, Int.toNat_natCast]
  simp

/-! ### What a Reader takes -/

/-- Byte by byte, i bytes taken and n gathered: what is wrong, the number, how many bytes it takes. -/
def scan (most : Int) : Nat → Nat → List UInt8 → Nat × Int × Nat
  | _, _, [] => (11, 0, 0)
  | i, n, c :: t =>
    if (0 < i ∧ c.toNat = 0) ∨ (i = 3 ∧ 128 ≤ c.toNat) then (10, 0, 0)
    else if c.toNat < 128 then (if most < ((n + c.toNat % 128 * 128 ^ i : Nat) : Int) - 1 then (12, 0, 0) else (0, ((n + c.toNat % 128 * 128 ^ i : Nat) : Int) - 1, i + 1))
    else scan most (i + 1) (n + c.toNat % 128 * 128 ^ i) t

/-- What is left, what is wrong. -/
structure Rd where
  s : List UInt8
  e : Nat

def Rd.numE (r : Rd) (most : Int) : Nat := (scan most 0 0 r.s).1
def Rd.num (r : Rd) (most : Int) : Int := if r.e = 0 then (scan most 0 0 r.s).2.1 else 0
def Rd.afterNum (r : Rd) (most : Int) : Rd := if r.e = 0 then (if (scan most 0 0 r.s).1 = 0 then ⟨r.s.drop (scan most 0 0 r.s).2.2, 0⟩ else ⟨r.s, (scan most 0 0 r.s).1⟩) else r
def Rd.bits (r : Rd) : Int := if r.e = 0 ∧ 8 ≤ r.s.length then (unLe (r.s.take 8) : Int) else 0
def Rd.afterBits (r : Rd) : Rd := if r.e = 0 then (if 8 ≤ r.s.length then ⟨r.s.drop 8, 0⟩ else ⟨r.s, 11⟩) else r

theorem scan_known (most : Int) : ∀ (i n : Nat) (l : List UInt8), let r := scan most i n l
    (r.1 = 0 → r.2.2 ≤ i + l.length ∧ i < r.2.2) ∧ (r.1 ≠ 0 → r.2.1 = 0) ∧ (r.1 = 0 ∨ r.1 = 10 ∨ r.1 = 11 ∨ r.1 = 12)
  | i, n, [] => by simp [scan]
  | i, n, c :: t => by
    have ih := scan_known most (i + 1) (n + c.toNat % 128 * 128 ^ i) t
    simp only [scan]
    split
    · simp
    · split
      · split
        · simp
        · simp
      · simp only [List.length_cons]
        refine ⟨fun h => ?_, ih.2.1, ih.2.2⟩
        have := ih.1 h
        omega

theorem scan_enc {most : Int} : ∀ (r i n : Nat) (t : List UInt8), r ≤ 2097151 → i ≤ 3 → (0 < i → 0 < r) → r < 128 ^ (3 - i) → scan most i n (encN r ++ t) =
    (if most < ((n + r * 128 ^ i : Nat) : Int) - 1 then (12, 0, 0) else (0, ((n + r * 128 ^ i : Nat) : Int) - 1, i + (encN r).length)) := by
  intro r
  induction r using Nat.strongRecOn with
  | ind r ih =>
    intro i n t hr hi h0 hb
    by_cases h : r < 128
    · rw [encN_lt h]
      have hc : (UInt8.ofNat r).toNat = r := by rw [UInt8.toNat_ofNat']; omega
      simp only [List.cons_append, List.nil_append, scan, hc]
      rw [if_neg (by rintro (⟨h1, h2⟩ | ⟨h1, h2⟩) <;> omega), if_pos h, Nat.mod_eq_of_lt h]
      simp
    · rw [encN_ge (by omega)]
      have hc : (UInt8.ofNat (128 + r % 128)).toNat = 128 + r % 128 := by rw [UInt8.toNat_ofNat']; omega
      have hi2 : i ≤ 1 := by
        apply Decidable.byContradiction
        intro hn
        have : 128 ^ (3 - i) ≤ 128 ^ 1 := Nat.pow_le_pow_right (by omega) (by omega)
        omega
      have hb' : r / 128 < 128 ^ (3 - (i + 1)) := by
        have : 128 ^ (3 - i) = 128 ^ (3 - (i + 1)) * 128 := by rw [← Nat.pow_succ]; congr 1; omega
        rw [this] at hb
        exact Nat.div_lt_of_lt_mul (by omega)
      simp only [List.cons_append, scan, hc]
      rw [if_neg (by rintro (⟨h1, h2⟩ | ⟨h1, h2⟩) <;> omega), if_neg (by omega), ih (r / 128) (by omega) (i + 1) _ t (by omega) (by omega) (by omega) hb']
      have he : n + (128 + r % 128) % 128 * 128 ^ i + r / 128 * 128 ^ (i + 1) = n + r * 128 ^ i := by
        rw [Nat.pow_succ, show (128 + r % 128) % 128 = r % 128 from by omega, Nat.add_assoc, ← Nat.mul_assoc, Nat.mul_right_comm, ← Nat.add_mul]
        congr 2
        omega
      rw [he, List.length_cons]
      congr 3
      omega

theorem scan_num {n most : Int} (h : -1 ≤ n) (h' : n ≤ 1048576) (t : List UInt8) : scan most 0 0 (numB n ++ t) = (if most < n then (12, 0, 0) else (0, n, (numB n).length)) := by
  have hh := heldN_in h h'
  have := heldN_le n
  unfold numB
  rw [scan_enc (heldN n) 0 0 t (by omega) (by omega) (by omega) (by simp; omega)]
  simp only [Nat.pow_zero, Nat.mul_one, Nat.zero_add, hh, Int.add_sub_cancel]
end Go.Proofs.YtmpgeabfogcblaaGreat
