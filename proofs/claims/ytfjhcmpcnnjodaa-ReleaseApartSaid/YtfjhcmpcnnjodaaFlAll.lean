/- Whole numbers as floating point, further: made an integer again; less than nothing; a quarter turn; the greater of nought and a negative. No program is named here. -/
import Derived.WalkKit
import Derived.Laws.FloatArith
import Derived.Laws.ComplexArith
import Derived.Laws.Unary
import Derived.Laws.Entries
import Derived.WideLaws
namespace Go.Proofs.Ytfjhcmpcnnjodaa
open Go.RowKit

/-- The rung of a whole number below 1 << 53. -/
def rung (m : Nat) : Nat := if m = 0 then 0 else (m.log2 + 1022) * 2 ^ 52 + m * 2 ^ (52 - m.log2)

theorem log2_shift {m : Nat} (h : m ≠ 0) (k : Nat) : (m * 2 ^ k).log2 = m.log2 + k := by
  have h1 := Nat.log2_self_le h
  have h2 := @Nat.lt_log2_self m
  refine (Nat.log2_eq_iff (Nat.mul_ne_zero h (by simp))).2 ⟨?_, ?_⟩
  · rw [Nat.pow_add]; exact Nat.mul_le_mul_right _ h1
  · rw [show m.log2 + k + 1 = (m.log2 + 1) + k by omega, Nat.pow_add]; exact Nat.mul_lt_mul_of_pos_right h2 (Nat.two_pow_pos _)

theorem log2_le52 {m : Nat} (h : m ≠ 0) (h53 : m < 2 ^ 53) : m.log2 ≤ 52 := by
  have := (Nat.log2_lt h).2 h53; omega

/-- What stands behind the exponent: 53 digits. -/
theorem kept_bounds {m : Nat} (h : m ≠ 0) (h53 : m < 2 ^ 53) : 2 ^ 52 ≤ m * 2 ^ (52 - m.log2) ∧ m * 2 ^ (52 - m.log2) < 2 ^ 53 := by
  have hl := log2_le52 h h53
  have h1 := Nat.log2_self_le h
  have h2 := @Nat.lt_log2_self m
  constructor
  · have := Nat.mul_le_mul_right (2 ^ (52 - m.log2)) h1
    rwa [← Nat.pow_add, show m.log2 + (52 - m.log2) = 52 by omega] at this
  · have := Nat.mul_lt_mul_of_pos_right h2 (Nat.two_pow_pos (52 - m.log2))
    rwa [← Nat.pow_add, show m.log2 + 1 + (52 - m.log2) = 53 by omega] at this

theorem cut_none (neg : Bool) (n : Nat) : Ieee.Toward.even.cut neg n 0 = n := by
  simp [Ieee.Toward.cut, Nat.mod_one]

/-- What is dropped is nothing but noughts. -/
theorem cut_noughts (neg : Bool) (n d : Nat) (h : d ≤ (n * 2 ^ d).log2 + 2) : Ieee.Toward.even.cut neg (n * 2 ^ d) d = n := by
  have hp : 0 < 2 ^ d := Nat.two_pow_pos d
  have hg : (1 <<< min d ((n * 2 ^ d).log2 + 2)) = 2 ^ d := by rw [Nat.min_eq_left h, Nat.one_shiftLeft]
  simp only [Ieee.Toward.cut, hg, Nat.mul_div_cancel _ hp, Nat.mul_mod_left]
  simp

set_option maxRecDepth 100000 in
theorem nearest_of (neg : Bool) (m k : Nat) (h53 : m < 2 ^ 53) : Ieee.double.nearest neg (m * 2 ^ k) (-(k : Int)) = Ieee.double.word neg (rung m) := by
  by_cases h0 : m = 0
  · subst h0; simp [Ieee.Format.nearest, rung]
  have hl := log2_le52 h0 h53
  have hk := kept_bounds h0 h53
  have hlog := log2_shift h0 k
  have hne : m * 2 ^ k ≠ 0 := Nat.mul_ne_zero h0 (by simp)
  have hlp : Ieee.double.leastPlace = -1074 := rfl
  have hfb : ((Ieee.double.fractionBits : Nat) : Int) = 52 := rfl
  have hlast : max (-(k : Int) + ((m * 2 ^ k).log2 : Nat) - (Ieee.double.fractionBits : Nat)) Ieee.double.leastPlace = (m.log2 : Int) - 52 := by
    rw [hlog, hlp, hfb]; push_cast; omega
  have hcut : Ieee.Toward.even.cut neg ((m * 2 ^ k) <<< (-(k : Int) - ((m.log2 : Int) - 52)).toNat) (((m.log2 : Int) - 52) - (-(k : Int))).toNat = m * 2 ^ (52 - m.log2) := by
    by_cases hd : k ≤ 52 - m.log2
    · rw [show (((m.log2 : Int) - 52) - (-(k : Int))).toNat = 0 by omega, cut_none, Nat.shiftLeft_eq, Nat.mul_assoc, ← Nat.pow_add]
      congr 2; omega
    · rw [show (-(k : Int) - ((m.log2 : Int) - 52)).toNat = 0 by omega, Nat.shiftLeft_zero]
      have hdd : (((m.log2 : Int) - 52) - (-(k : Int))).toNat = k - (52 - m.log2) := by omega
      rw [hdd]
      have e : m * 2 ^ k = m * 2 ^ (52 - m.log2) * 2 ^ (k - (52 - m.log2)) := by
        rw [Nat.mul_assoc, ← Nat.pow_add]; congr 2; omega
      have hb : k - (52 - m.log2) ≤ (m * 2 ^ (52 - m.log2) * 2 ^ (k - (52 - m.log2))).log2 + 2 := by rw [← e, hlog]; omega
      rw [e]; exact cut_noughts neg _ _ hb
  have hr : min (((m.log2 : Int) - 52 - Ieee.double.leastPlace).toNat * Ieee.double.binade + m * 2 ^ (52 - m.log2)) Ieee.double.infRung = rung m := by
    rw [hlp, show Ieee.double.binade = 2 ^ 52 from rfl, show Ieee.double.infRung = 2047 * 2 ^ 52 from rfl, show ((m.log2 : Int) - 52 - -1074).toNat = m.log2 + 1022 by omega]
    unfold rung
    rw [if_neg h0]
    generalize m * 2 ^ (52 - m.log2) = K at hk ⊢
    generalize m.log2 = L at hl ⊢
    clear hcut hlast hlog hne hlp hfb
    simp only [show (2 : Nat) ^ 52 = 4503599627370496 from rfl, show (2 : Nat) ^ 53 = 9007199254740992 from rfl] at *
    omega
  unfold Ieee.Format.nearest
  simp only [hne, if_false, hlast, hcut, hr]

theorem rung_zero : rung 0 = 0 := rfl
set_option maxRecDepth 100000 in
theorem rung_bounds {m : Nat} (h : m ≠ 0) (h53 : m < 2 ^ 53) : (m.log2 + 1023) * 2 ^ 52 ≤ rung m ∧ rung m < (m.log2 + 1024) * 2 ^ 52 := by
  have hk := kept_bounds h h53
  unfold rung; rw [if_neg h]
  generalize m * 2 ^ (52 - m.log2) = K at hk ⊢
  simp only [show (2 : Nat) ^ 52 = 4503599627370496 from rfl, show (2 : Nat) ^ 53 = 9007199254740992 from rfl] at *
  omega

set_option maxRecDepth 100000 in
theorem rung_lt {m : Nat} (h53 : m < 2 ^ 53) : rung m < 2 ^ 63 := by
  by_cases h : m = 0
  · subst h; rw [rung_zero]; decide
  · have := (rung_bounds h h53).2
    have hl := log2_le52 h h53
    omega

theorem word_parts (neg : Bool) {r : Nat} (h : r < 2 ^ 63) : (Ieee.double.word neg r / Ieee.double.signWeight % 2 == 1) = neg ∧ Ieee.double.word neg r % Ieee.double.signWeight = r := by
  have hs : Ieee.double.signWeight = 2 ^ 63 := rfl
  unfold Ieee.Format.word
  rw [hs]
  cases neg
  · simp only [Bool.false_eq_true, if_false]
    refine ⟨?_, Nat.mod_eq_of_lt h⟩
    rw [Nat.div_eq_of_lt h]; rfl
  · simp only [if_true]
    refine ⟨?_, by omega⟩
    rw [show (2 ^ 63 + r) / 2 ^ 63 = 1 by omega]; rfl

set_option maxRecDepth 100000 in
/-- What the word of a whole number stands for. -/
theorem read_of (neg : Bool) (m : Nat) (h53 : m < 2 ^ 53) : ∃ i : Nat, Ieee.double.read (Ieee.double.word neg (rung m)) = .number neg (m * 2 ^ i) (-(i : Int)) := by
  obtain ⟨h1, h2⟩ := word_parts neg (rung_lt h53)
  have hb : Ieee.double.binade = 2 ^ 52 := rfl
  have hi : Ieee.double.infRung = 2047 * 2 ^ 52 := rfl
  have hlp : Ieee.double.leastPlace = -1074 := rfl
  by_cases h : m = 0
  · subst h
    rw [rung_zero] at h1 h2 ⊢
    obtain ⟨k, hk⟩ : ∃ k : Nat, -(k : Int) = -1074 := ⟨1074, rfl⟩
    refine ⟨k, ?_⟩
    unfold Ieee.Format.read
    simp only [h1, h2, hb, hlp]
    rw [if_pos (by decide), Nat.zero_mul, hk]
  · have hr := rung_bounds h h53
    have hl := log2_le52 h h53
    have hk := kept_bounds h h53
    refine ⟨52 - m.log2, ?_⟩
    unfold Ieee.Format.read
    simp only [h1, h2, hb, hi, hlp]
    have hrung : rung m = (m.log2 + 1022) * 2 ^ 52 + m * 2 ^ (52 - m.log2) := by unfold rung; rw [if_neg h]
    clear h1 h2
    generalize rung m = R at *
    generalize m * 2 ^ (52 - m.log2) = K at *
    generalize m.log2 = L at *
    simp only [show (2 : Nat) ^ 52 = 4503599627370496 from rfl, show (2 : Nat) ^ 53 = 9007199254740992 from rfl] at *
    rw [if_neg (by omega), if_pos (by omega)]
    have e1 : R / 4503599627370496 = L + 1023 := by omega
    have e2 : 4503599627370496 + R % 4503599627370496 = K := by omega
    rw [e1, e2]
    congr 1
    omega

/-- A whole number's word. -/
def Fz (z : Int) : Nat := Ieee.double.word (decide (z < 0)) (rung z.natAbs)

theorem floatOfInt_eq {z : Int} (h : z.natAbs < 2 ^ 53) : floatOfInt .f64 z = Fz z := by
  have := nearest_of (decide (z < 0)) z.natAbs 0 h
  simp only [Nat.pow_zero, Nat.mul_one] at this
  unfold Fz
  rw [← this]
  rfl

theorem read_Fz {z : Int} (h : z.natAbs < 2 ^ 53) : ∃ i : Nat, Ieee.double.read (Fz z) = .number (decide (z < 0)) (z.natAbs * 2 ^ i) (-(i : Int)) := read_of _ _ h

theorem signed_abs (z : Int) (i K : Nat) (h : i ≤ K) : Ieee.signed (decide (z < 0)) (z.natAbs * 2 ^ i) ((-(i : Int)) - (-(K : Int))).toNat = z * (2 ^ K : Nat) := by
  have e : ((-(i : Int)) - (-(K : Int))).toNat = K - i := by omega
  have e2 : (z.natAbs * 2 ^ i) <<< (K - i) = z.natAbs * 2 ^ K := by rw [Nat.shiftLeft_eq, Nat.mul_assoc, ← Nat.pow_add]; congr 2; omega
  unfold Ieee.signed
  rw [e, e2]
  by_cases hz : z < 0
  · simp only [hz, decide_true, if_true]
    push_cast
    rw [← Int.neg_mul]
    congr 1
    omega
  · simp only [hz, decide_false, Bool.false_eq_true, if_false]
    push_cast
    congr 1
    omega

theorem signed_neg (z : Int) (i K : Nat) (h : i ≤ K) : Ieee.signed (!decide (z < 0)) (z.natAbs * 2 ^ i) ((-(i : Int)) - (-(K : Int))).toNat = -(z * (2 ^ K : Nat)) := by
  have := signed_abs z i K h
  unfold Ieee.signed at this ⊢
  by_cases hz : z < 0
  · simp only [hz, decide_true, if_true, Bool.not_true, Bool.false_eq_true, if_false] at this ⊢
    omega
  · simp only [hz, decide_false, Bool.false_eq_true, if_false, Bool.not_false, if_true] at this ⊢
    omega

theorem write_total {t : Int} {K : Nat} (b : Bool) (hb : t = 0 → b = false) (h : t.natAbs < 2 ^ 53) :
    Ieee.double.write (.number (if t * (2 ^ K : Nat) = 0 then b else decide (t * (2 ^ K : Nat) < 0)) (t * (2 ^ K : Nat)).natAbs (-(K : Int))) = Fz t := by
  have hK : (0 : Int) < (2 ^ K : Nat) := by exact_mod_cast Nat.two_pow_pos K
  have h1 : (if t * (2 ^ K : Nat) = 0 then b else decide (t * (2 ^ K : Nat) < 0)) = decide (t < 0) := by
    by_cases ht : t = 0
    · subst ht; simp [hb rfl]
    · rw [if_neg (Int.mul_ne_zero ht (Int.ne_of_gt hK))]
      rw [decide_eq_decide]
      constructor
      · intro hh; exact Int.lt_of_not_ge fun hn => absurd hh (Int.not_lt.2 (Int.mul_nonneg hn (Int.le_of_lt hK)))
      · intro hh; exact Int.mul_neg_of_neg_of_pos hh hK
  have h2 : (t * (2 ^ K : Nat)).natAbs = t.natAbs * 2 ^ K := by rw [Int.natAbs_mul]; rfl
  rw [h1, h2]
  exact nearest_of _ _ _ h

theorem neg_min (i j : Nat) : min (-(i : Int)) (-(j : Int)) = -((max i j : Nat) : Int) := by omega

theorem add_Fz {a b : Int} (ha : a.natAbs < 2 ^ 53) (hb : b.natAbs < 2 ^ 53) (hc : (a + b).natAbs < 2 ^ 53) : Ieee.double.add (Fz a) (Fz b) = some (Fz (a + b)) := by
  obtain ⟨i, hi⟩ := read_Fz ha
  obtain ⟨j, hj⟩ := read_Fz hb
  unfold Ieee.Format.add
  rw [hi, hj]
  simp only [Ieee.Datum.sum, neg_min, Option.map_some]
  rw [signed_abs a i _ (Nat.le_max_left i j), signed_abs b j _ (Nat.le_max_right i j), ← Int.add_mul]
  rw [write_total _ (fun h => by
    by_cases h0 : a < 0
    · have : ¬ b < 0 := by omega
      simp [this]
    · simp [h0]) hc]

theorem sub_Fz {a b : Int} (ha : a.natAbs < 2 ^ 53) (hb : b.natAbs < 2 ^ 53) (hc : (a - b).natAbs < 2 ^ 53) : Ieee.double.sub (Fz a) (Fz b) = some (Fz (a - b)) := by
  obtain ⟨i, hi⟩ := read_Fz ha
  obtain ⟨j, hj⟩ := read_Fz hb
  unfold Ieee.Format.sub
  rw [hi, hj]
  simp only [Ieee.Datum.opposite, Ieee.Datum.sum, neg_min, Option.map_some]
  rw [signed_abs a i _ (Nat.le_max_left i j), signed_neg b j _ (Nat.le_max_right i j), ← Int.sub_eq_add_neg, ← Int.sub_mul]
  rw [write_total _ (fun h => by
    by_cases h0 : a < 0
    · have : b < 0 := by omega
      simp [this]
    · simp [h0]) hc]

theorem mul_Fz {a b : Int} (h0 : 0 ≤ a) (h0' : 0 ≤ b) (ha : a.natAbs < 2 ^ 53) (hb : b.natAbs < 2 ^ 53) (hc : (a * b).natAbs < 2 ^ 53) : Ieee.double.mul (Fz a) (Fz b) = some (Fz (a * b)) := by
  obtain ⟨i, hi⟩ := read_Fz ha
  obtain ⟨j, hj⟩ := read_Fz hb
  have hp : 0 ≤ a * b := Int.mul_nonneg h0 h0'
  unfold Ieee.Format.mul
  rw [hi, hj]
  simp only [Ieee.Datum.product, Option.map_some, Ieee.Format.write]
  have e1 : (a.natAbs * 2 ^ i) * (b.natAbs * 2 ^ j) = (a * b).natAbs * 2 ^ (i + j) := by
    rw [Int.natAbs_mul, Nat.pow_add, Nat.mul_mul_mul_comm]
  have e2 : -(i : Int) + -(j : Int) = -((i + j : Nat) : Int) := by omega
  rw [e1, e2, nearest_of _ _ _ hc]
  have e3 : decide (a < 0) = false := by simp; omega
  have e4 : decide (b < 0) = false := by simp; omega
  have e5 : decide (a * b < 0) = false := by simp; omega
  unfold Fz
  rw [e3, e4, e5]
  rfl

theorem order_Fz {a b : Int} (ha : a.natAbs < 2 ^ 53) (hb : b.natAbs < 2 ^ 53) : Ieee.double.order (Fz a) (Fz b) = some (compare a b) := by
  obtain ⟨i, hi⟩ := read_Fz ha
  obtain ⟨j, hj⟩ := read_Fz hb
  unfold Ieee.Format.order
  rw [hi, hj]
  simp only [Ieee.Datum.order, neg_min]
  rw [signed_abs a i _ (Nat.le_max_left i j), signed_abs b j _ (Nat.le_max_right i j)]
  have hK : (0 : Int) < (2 ^ (max i j) : Nat) := by exact_mod_cast Nat.two_pow_pos _
  have e1 : a * (2 ^ (max i j) : Nat) < b * (2 ^ (max i j) : Nat) ↔ a < b := ⟨fun h => Int.lt_of_mul_lt_mul_right h (Int.le_of_lt hK), fun h => Int.mul_lt_mul_of_pos_right h hK⟩
  have e2 : a * (2 ^ (max i j) : Nat) = b * (2 ^ (max i j) : Nat) ↔ a = b := ⟨fun h => Int.eq_of_mul_eq_mul_right (Int.ne_of_gt hK) h, fun h => by rw [h]⟩
  congr 1
  simp only [compare, compareOfLessAndEq, e1, e2]

/-- '<=' of two whole numbers. -/
theorem leq_Fz {a b : Int} (ha : a.natAbs < 2 ^ 53) (hb : b.natAbs < 2 ^ 53) : (FloatKind.f64.format.order (Fz a) (Fz b) == some .lt || FloatKind.f64.format.order (Fz a) (Fz b) == some .eq) = decide (a ≤ b) := by
  rw [show FloatKind.f64.format = Ieee.double from rfl, order_Fz ha hb]
  simp only [compare, compareOfLessAndEq]
  by_cases h : a < b
  · simp [h]; omega
  · by_cases h' : a = b
    · subst h'; simp
    · simp [h, h']; omega

theorem Fz_lt {z : Int} (h : z.natAbs < 2 ^ 53) : Fz z < 2 ^ 64 := by
  have := rung_lt h
  unfold Fz Ieee.Format.word
  rw [show Ieee.double.signWeight = 2 ^ 63 from rfl]
  split <;> omega

theorem Fz_nonneg {z : Int} (h0 : 0 ≤ z) : Fz z = rung z.natAbs := by
  unfold Fz Ieee.Format.word
  rw [if_neg (by simp; omega)]

/-- The sign bit taken out. -/
theorem Fz_abs {z : Int} (h : z.natAbs < 2 ^ 53) : Fz z % 2 ^ 63 = Fz (z.natAbs : Int) := by
  have := rung_lt h
  rw [Fz_nonneg (z := (z.natAbs : Int)) (by omega), Int.natAbs_natCast]
  unfold Fz Ieee.Format.word
  rw [show Ieee.double.signWeight = 2 ^ 63 from rfl]
  split <;> omega

theorem one_Fz : Fz 1 = 4607182418800017408 := by decide

/-! Complex numbers of whole parts. -/

/-- Times 1+1i. -/
theorem turn_Fz {x y : Int} (hx : 0 ≤ x) (hy : 0 ≤ y) (hx' : x < 2 ^ 52) (hy' : y < 2 ^ 52) : cMulBits 4607182418800017408 4607182418800017408 (Fz x) (Fz y) = some (Fz (x - y), Fz (y + x)) := by
  rw [← one_Fz]
  have m1 : floatBits .mul .f64 (Fz 1) (Fz x) = some (Fz x) := by
    have := mul_Fz (a := 1) (b := x) (by omega) hx (by decide) (by omega) (by rw [Int.one_mul]; omega)
    rw [Int.one_mul] at this; exact this
  have m2 : floatBits .mul .f64 (Fz 1) (Fz y) = some (Fz y) := by
    have := mul_Fz (a := 1) (b := y) (by omega) hy (by decide) (by omega) (by rw [Int.one_mul]; omega)
    rw [Int.one_mul] at this; exact this
  have a1 : floatBits .sub .f64 (Fz x) (Fz y) = some (Fz (x - y)) := sub_Fz (by omega) (by omega) (by omega)
  have a2 : floatBits .add .f64 (Fz y) (Fz x) = some (Fz (y + x)) := add_Fz (by omega) (by omega) (by omega)
  unfold cMulBits
  simp only [m1, m2, a1, a2, Option.bind_some]
end Go.Proofs.Ytfjhcmpcnnjodaa

namespace Go.Proofs.Ytfjhcmpcnnjodaa
open Go.RowKit

@[go_sem] theorem unary_neg_float (k : FloatKind) (b : Nat) : Op.unary .neg (.float k b) = pure (.float k (Op.negFloat k b)) := rfl

@[go_sem] theorem run_store_complex {P : Program} (w : World) (a : Addr) (m : Mode) (k : FloatKind) (x y : Nat) : (store a (.complex k x y) m).run P w = stored P w a (.complex k x y) m := run_store P w a _ m rfl

theorem cut_zero_noughts (neg : Bool) (n d : Nat) (h : d ≤ (n * 2 ^ d).log2 + 2) : Ieee.Toward.zero.cut neg (n * 2 ^ d) d = n := by
  have hp : 0 < 2 ^ d := Nat.two_pow_pos d
  have hg : (1 <<< min d ((n * 2 ^ d).log2 + 2)) = 2 ^ d := by rw [Nat.min_eq_left h, Nat.one_shiftLeft]
  simp only [Ieee.Toward.cut, hg, Nat.mul_div_cancel _ hp]
  simp
theorem cut_zero_nil (neg : Bool) (d : Nat) : Ieee.Toward.zero.cut neg 0 d = 0 := by
  simp [Ieee.Toward.cut]

theorem toInt_Fz {z : Int} (h : z.natAbs < 2 ^ 53) : ((FloatKind.f64.decode (Fz z)).toInt .zero) = some z := by
  obtain ⟨i, hi⟩ := read_Fz h
  have hr : FloatKind.f64.decode (Fz z) = .number (decide (z < 0)) (z.natAbs * 2 ^ i) (-(i : Int)) := hi
  rw [hr]
  have hc : Ieee.Toward.zero.cut (decide (z < 0)) (z.natAbs * 2 ^ i) i = z.natAbs := by
    by_cases h0 : z.natAbs = 0
    · rw [h0, Nat.zero_mul]; exact cut_zero_nil _ _
    · exact cut_zero_noughts _ _ _ (by rw [log2_shift h0]; omega)
  simp only [Ieee.Datum.toInt, Ieee.Datum.integral]
  rw [show (-(i : Int)).toNat = 0 by omega, show (- -(i : Int)).toNat = i by omega, Nat.shiftLeft_zero, hc]
  simp only [Ieee.signed, Nat.shiftLeft_zero]
  congr 1
  by_cases hz : z < 0
  · simp only [hz, decide_true, if_true]; omega
  · simp only [hz, decide_false, Bool.false_eq_true, if_false]; omega
set_option maxRecDepth 100000 in
theorem intVal_Fz {z : Int} (h : z.natAbs < 2 ^ 53) : floatToIntVal .f64 (Fz z) .i64 = some z := by
  unfold floatToIntVal
  rw [toInt_Fz h]
  simp only
  rw [if_pos]
  rw [show IntKind.i64.min = -9223372036854775808 from rfl, show IntKind.i64.max = 9223372036854775807 from rfl]
  omega

theorem zero_Fz : Fz 0 = 0 := by decide
set_option maxRecDepth 100000 in
/-- A quarter turn. -/
theorem quarter_Fz {a b : Int} (ha : 0 ≤ a) (hb : 0 ≤ b) (ha' : a < 2 ^ 52) (hb' : b < 2 ^ 52) : cMulBits 0 4607182418800017408 (Fz a) (Fz b) = some (Fz (-b), Fz a) := by
  rw [← one_Fz, ← zero_Fz]
  have m0 : ∀ x : Int, 0 ≤ x → x < 2 ^ 52 → floatBits .mul .f64 (Fz 0) (Fz x) = some (Fz 0) := fun x h1 h2 => by
    have := mul_Fz (a := 0) (b := x) (by omega) h1 (by decide) (by omega) (by rw [Int.zero_mul]; decide)
    rw [Int.zero_mul] at this; exact this
  have m1 : ∀ x : Int, 0 ≤ x → x < 2 ^ 52 → floatBits .mul .f64 (Fz 1) (Fz x) = some (Fz x) := fun x h1 h2 => by
    have := mul_Fz (a := 1) (b := x) (by omega) h1 (by decide) (by omega) (by rw [Int.one_mul]; omega)
    rw [Int.one_mul] at this; exact this
  have a1 : floatBits .sub .f64 (Fz 0) (Fz b) = some (Fz (0 - b)) := sub_Fz (by decide) (by omega) (by omega)
  have a2 : floatBits .add .f64 (Fz 0) (Fz a) = some (Fz (0 + a)) := add_Fz (by decide) (by omega) (by omega)
  rw [Int.zero_sub] at a1
  rw [Int.zero_add] at a2
  unfold cMulBits
  simp only [m0 a ha ha', m0 b hb hb', m1 a ha ha', m1 b hb hb', a1, a2, Option.bind_some]
theorem sum_Fz {a b c d : Int} (ha : a.natAbs < 2 ^ 51) (hb : b.natAbs < 2 ^ 51) (hc : c.natAbs < 2 ^ 51) (hd : d.natAbs < 2 ^ 51) : cSumBits .add .f64 (Fz a) (Fz b) (Fz c) (Fz d) = some (Fz (a + c), Fz (b + d)) := by
  have a1 : floatBits .add .f64 (Fz a) (Fz c) = some (Fz (a + c)) := add_Fz (by omega) (by omega) (by omega)
  have a2 : floatBits .add .f64 (Fz b) (Fz d) = some (Fz (b + d)) := add_Fz (by omega) (by omega) (by omega)
  unfold cSumBits
  simp only [a1, a2, Option.bind_some]

theorem xor_top {r : Nat} (h : r < 2 ^ 63) : r ^^^ 2 ^ 63 = 2 ^ 63 + r := by
  apply Nat.eq_of_testBit_eq
  intro j
  rw [Nat.testBit_xor, Nat.testBit_two_pow]
  rcases Nat.lt_trichotomy j 63 with hj | rfl | hj
  · rw [Nat.testBit_two_pow_add_gt hj]
    have : ¬ 63 = j := by omega
    simp [this]
  · rw [Nat.testBit_two_pow_add_eq, Nat.testBit_lt_two_pow h]; simp
  · have hp : 2 ^ 64 ≤ 2 ^ j := Nat.pow_le_pow_right (by omega) (by omega)
    have h1 : r < 2 ^ j := by
      have : (2 : Nat) ^ 63 < 2 ^ 64 := by decide
      omega
    have h2 : 2 ^ 63 + r < 2 ^ j := by
      have : (2 : Nat) ^ 63 + 2 ^ 63 = 2 ^ 64 := by decide
      omega
    rw [Nat.testBit_lt_two_pow h1, Nat.testBit_lt_two_pow h2]
    have : ¬ 63 = j := by omega
    simp [this]
theorem neg_Fz {z : Int} (h : z.natAbs < 2 ^ 53) (h0 : z ≠ 0) : Op.negFloat .f64 (Fz z) = Fz (-z) := by
  have hr := rung_lt h
  have hx := xor_top hr
  show Fz z ^^^ 2 ^ 63 = Fz (-z)
  unfold Fz Ieee.Format.word
  rw [show Ieee.double.signWeight = 2 ^ 63 from rfl, Int.natAbs_neg]
  by_cases hz : z < 0
  · have hz' : ¬ -z < 0 := by omega
    simp only [hz, hz', decide_true, decide_false, Bool.false_eq_true, if_true, if_false]
    rw [← hx, Nat.xor_assoc, Nat.xor_self, Nat.xor_zero]
  · have hz' : -z < 0 := by omega
    simp only [hz, hz', decide_true, decide_false, Bool.false_eq_true, if_true, if_false]
    exact hx
theorem neg_zero_bits : Op.negFloat .f64 (Fz 0) = 9223372036854775808 := by decide
set_option maxRecDepth 100000 in
/-- The greater of nought and what is less than nothing by d. -/
theorem run_max_neg {P : Program} {d : Int} (h : d.natAbs < 2 ^ 53) (ts : Array TypeId) (t : TypeId) (w : World) : (Builtin.max_ ts t #[.float .f64 0, .float .f64 (Op.negFloat .f64 (Fz d))]).run P w = .ok (.float .f64 (Fz (max 0 (-d)))) w := by
  by_cases h0 : d = 0
  · subst h0
    rw [neg_zero_bits]
    have ho : FloatKind.f64.format.order 0 9223372036854775808 = some .eq := by decide
    have hn : (FloatKind.f64.decode 0).neg = false := by decide
    simp [Builtin.max_, Builtin.max2, ho, hn, zero_Fz]
  · rw [neg_Fz h h0]
    have ho : FloatKind.f64.format.order (Fz 0) (Fz (-d)) = some (compare 0 (-d)) := order_Fz (by decide) (by omega)
    rw [zero_Fz] at ho
    by_cases hd : d < 0
    · have hc : compare 0 (-d) = .lt := by simp only [compare, compareOfLessAndEq]; rw [if_pos (by omega)]
      rw [hc] at ho
      have hm : max 0 (-d) = -d := by omega
      rw [hm]
      simp [Builtin.max_, Builtin.max2, ho]
    · have hc : compare 0 (-d) = .gt := by simp only [compare, compareOfLessAndEq]; rw [if_neg (by omega), if_neg (by omega)]
      rw [hc] at ho
      have hm : max 0 (-d) = 0 := by omega
      rw [hm, zero_Fz]
      simp [Builtin.max_, Builtin.max2, ho]
end Go.Proofs.Ytfjhcmpcnnjodaa
