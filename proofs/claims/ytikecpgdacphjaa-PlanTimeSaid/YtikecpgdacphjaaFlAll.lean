/- Whole numbers as floating point, further: whatever signs; a number times the point 1-Si; numbers too great to be told exactly. No program is named here. -/
import Derived.WalkKit
import Derived.Laws.FloatArith
import Derived.Laws.ComplexArith
import Derived.Laws.Unary
import Derived.Laws.Entries
import Derived.WideLaws
namespace Go.Proofs.Ytikecpgdacphjaa
open Go.RowKit

/-- The rung of a whole number below 1 << 53. -/
def rung (m : Nat) : Nat := if m = 0 then 0 else (m.log2 + 1022) * 2 ^ 52 + m * 2 ^ (52 - m.log2)

theorem log2_shift {m : Nat} (h : m ≠ 0) (k : Nat) : (m * 2 ^ k).log2 = m.log2 + k := by
  have h1 := Nat.log2_self_le h
  have h2 := @Nat.lt_log2_self m
  refine (Nat.log2_eq_iff (Nat.mul_ne_zero h (by simp))).2 ⟨?_, ?_⟩
  · rw [Nat.pow_add]; exact Nat.mul_le_mul_right _ h1
  · rw [show m.log2 + k + 1 = (m.log2 + 1) + k by omega, Nat.pow_add]; exact Nat.mul_lt_mul_of_pos_right h2 (Nat.two_pow_pos _)

theorem log2_le52 {m : Nat} (h : m ≠ 0) (h53 : m < 2 ^ 53) : m.log2 ≤ 52 := by
  have := (Nat.log2_lt h).2 h53; omega

/-- What stands behind the exponent: 53 digits. -/
theorem kept_bounds {m : Nat} (h : m ≠ 0) (h53 : m < 2 ^ 53) : 2 ^ 52 ≤ m * 2 ^ (52 - m.log2) ∧ m * 2 ^ (52 - m.log2) < 2 ^ 53 := by
  have hl := log2_le52 h h53
  have h1 := Nat.log2_self_le h
  have h2 := @Nat.lt_log2_self m
  constructor
  · have := Nat.mul_le_mul_right (2 ^ (52 - m.log2)) h1
    rwa [← Nat.pow_add, show m.log2 + (52 - m.log2) = 52 by omega] at this
  · have := Nat.mul_lt_mul_of_pos_right h2 (Nat.two_pow_pos (52 - m.log2))
    rwa [← Nat.pow_add, show m.log2 + 1 + (52 - m.log2) = 53 by omega] at this

theorem cut_none (neg : Bool) (n : Nat) : Ieee.Toward.even.cut neg n 0 = n := by
  simp [Ieee.Toward.cut, Nat.mod_one]

/-- What is dropped is nothing but noughts. -/
theorem cut_noughts (neg : Bool) (n d : Nat) (h : d ≤ (n * 2 ^ d).log2 + 2) : Ieee.Toward.even.cut neg (n * 2 ^ d) d = n := by
  have hp : 0 < 2 ^ d := Nat.two_pow_pos d
  have hg : (1 <<< min d ((n * 2 ^ d).log2 + 2)) = 2 ^ d := by rw [Nat.min_eq_left h, Nat.one_shiftLeft]
  simp only [Ieee.Toward.cut, hg, Nat.mul_div_cancel _ hp, Nat.mul_mod_left]
  simp

set_option maxRecDepth 100000 in
theorem nearest_of (neg : Bool) (m k : Nat) (h53 : m < 2 ^ 53) : Ieee.double.nearest neg (m * 2 ^ k) (-(k : Int)) = Ieee.double.word neg (rung m) := by
  by_cases h0 : m = 0
  · subst h0; simp [Ieee.Format.nearest, rung]
  have hl := log2_le52 h0 h53
  have hk := kept_bounds h0 h53
  have hlog := log2_shift h0 k
  have hne : m * 2 ^ k ≠ 0 := Nat.mul_ne_zero h0 (by simp)
  have hlp : Ieee.double.leastPlace = -1074 := rfl
  have hfb : ((Ieee.double.fractionBits : Nat) : Int) = 52 := rfl
  have hlast : max (-(k : Int) + ((m * 2 ^ k).log2 : Nat) - (Ieee.double.fractionBits : Nat)) Ieee.double.leastPlace = (m.log2 : Int) - 52 := by
    rw [hlog, hlp, hfb]; push_cast; omega
  have hcut : Ieee.Toward.even.cut neg ((m * 2 ^ k) <<< (-(k : Int) - ((m.log2 : Int) - 52)).toNat) (((m.log2 : Int) - 52) - (-(k : Int))).toNat = m * 2 ^ (52 - m.log2) := by
    by_cases hd : k ≤ 52 - m.log2
    · rw [show (((m.log2 : Int) - 52) - (-(k : Int))).toNat = 0 by omega, cut_none, Nat.shiftLeft_eq, Nat.mul_assoc, ← Nat.pow_add]
      congr 2; omega
    · rw [show (-(k : Int) - ((m.log2 : Int) - 52)).toNat = 0 by omega, Nat.shiftLeft_zero]
      have hdd : (((m.log2 : Int) - 52) - (-(k : Int))).toNat = k - (52 - m.log2) := by omega
      rw [hdd]
      have e : m * 2 ^ k = m * 2 ^ (52 - m.log2) * 2 ^ (k - (52 - m.log2)) := by
        rw [Nat.mul_assoc, ← Nat.pow_add]; congr 2; omega
      have hb : k - (52 - m.log2) ≤ (m * 2 ^ (52 - m.log2) * 2 ^ (k - (52 - m.log2))).log2 + 2 := by rw [← e, hlog]; omega
      rw [e]; exact cut_noughts neg _ _ hb
  have hr : min (((m.log2 : Int) - 52 - Ieee.double.leastPlace).toNat * Ieee.double.binade + m * 2 ^ (52 - m.log2)) Ieee.double.infRung = rung m := by
    rw [hlp, show Ieee.double.binade = 2 ^ 52 from rfl, show Ieee.double.infRung = 2047 * 2 ^ 52 from rfl, show ((m.log2 : Int) - 52 - -1074).toNat = m.log2 + 1022 by omega]
    unfold rung
    rw [if_neg h0]
    generalize m * 2 ^ (52 - m.log2) = K at hk ⊢
    generalize m.log2 = L at hl ⊢
    clear hcut hlast hlog hne hlp hfb
    simp only [show (2 : Nat) ^ 52 = 4503599627370496 from rfl, show (2 : Nat) ^ 53 = 9007199254740992 from rfl] at *
    omega
  unfold Ieee.Format.nearest
  simp only [hne, if_false, hlast, hcut, hr]

theorem rung_zero : rung 0 = 0 := rfl
set_option maxRecDepth 100000 in
theorem rung_bounds {m : Nat} (h : m ≠ 0) (h53 : m < 2 ^ 53) : (m.log2 + 1023) * 2 ^ 52 ≤ rung m ∧ rung m < (m.log2 + 1024) * 2 ^ 52 := by
  have hk := kept_bounds h h53
  unfold rung; rw [if_neg h]
  generalize m * 2 ^ (52 - m.log2) = K at hk ⊢
  simp only [show (2 : Nat) ^ 52 = 4503599627370496 from rfl, show (2 : Nat) ^ 53 = 9007199254740992 from rfl] at *
  omega

set_option maxRecDepth 100000 in
theorem rung_lt {m : Nat} (h53 : m < 2 ^ 53) : rung m < 2 ^ 63 := by
  by_cases h : m = 0
  · subst h; rw [rung_zero]; decide
  · have := (rung_bounds h h53).2
    have hl := log2_le52 h h53
    omega

theorem word_parts (neg : Bool) {r : Nat} (h : r < 2 ^ 63) : (Ieee.double.word neg r / Ieee.double.signWeight % 2 == 1) = neg ∧ Ieee.double.word neg r % Ieee.double.signWeight = r := by
  have hs : Ieee.double.signWeight = 2 ^ 63 := rfl
  unfold Ieee.Format.word
  rw [hs]
  cases neg
  · simp only [Bool.false_eq_true, if_false]
    refine ⟨?_, Nat.mod_eq_of_lt h⟩
    rw [Nat.div_eq_of_lt h]; rfl
  · simp only [if_true]
    refine ⟨?_, by omega⟩
    rw [show (2 ^ 63 + r) / 2 ^ 63 = 1 by omega]; rfl

set_option maxRecDepth 100000 in
/-- What the word of a whole number stands for. -/
theorem read_of (neg : Bool) (m : Nat) (h53 : m < 2 ^ 53) : ∃ i : Nat, Ieee.double.read (Ieee.double.word neg (rung m)) = .number neg (m * 2 ^ i) (-(i : Int)) := by
  obtain ⟨h1, h2⟩ := word_parts neg (rung_lt h53)
  have hb : Ieee.double.binade = 2 ^ 52 := rfl
  have hi : Ieee.double.infRung = 2047 * 2 ^ 52 := rfl
  have hlp : Ieee.double.leastPlace = -1074 := rfl
  by_cases h : m = 0
  · subst h
    rw [rung_zero] at h1 h2 ⊢
    obtain ⟨k, hk⟩ : ∃ k : Nat, -(k : Int) = -1074 := ⟨1074, rfl⟩
    refine ⟨k, ?_⟩
    unfold Ieee.Format.read
    simp only [h1, h2, hb, hlp]
    rw [if_pos (by decide), Nat.zero_mul, hk]
  · have hr := rung_bounds h h53
    have hl := log2_le52 h h53
    have hk := kept_bounds h h53
    refine ⟨52 - m.log2, ?_⟩
    unfold Ieee.Format.read
    simp only [h1, h2, hb, hi, hlp]
    have hrung : rung m = (m.log2 + 1022) * 2 ^ 52 + m * 2 ^ (52 - m.log2) := by unfold rung; rw [if_neg h]
    clear h1 h2
    generalize rung m = R at *
    generalize m * 2 ^ (52 - m.log2) = K at *
    generalize m.log2 = L at *
    simp only [show (2 : Nat) ^ 52 = 4503599627370496 from rfl, show (2 : Nat) ^ 53 = 9007199254740992 from rfl] at *
    rw [if_neg (by omega), if_pos (by omega)]
    have e1 : R / 4503599627370496 = L + 1023 := by omega
    have e2 : 4503599627370496 + R % 4503599627370496 = K := by omega
    rw [e1, e2]
    congr 1
    omega

/-- A whole number's word. -/
def Fz (z : Int) : Nat := Ieee.double.word (decide (z < 0)) (rung z.natAbs)

theorem floatOfInt_eq {z : Int} (h : z.natAbs < 2 ^ 53) : floatOfInt .f64 z = Fz z := by
  have := nearest_of (decide (z < 0)) z.natAbs 0 h
  simp only [Nat.pow_zero, Nat.mul_one] at this
  unfold Fz
  rw [← this]
  rfl

theorem read_Fz {z : Int} (h : z.natAbs < 2 ^ 53) : ∃ i : Nat, Ieee.double.read (Fz z) = .number (decide (z < 0)) (z.natAbs * 2 ^ i) (-(i : Int)) := read_of _ _ h

theorem signed_abs (z : Int) (i K : Nat) (h : i ≤ K) : Ieee.signed (decide (z < 0)) (z.natAbs * 2 ^ i) ((-(i : Int)) - (-(K : Int))).toNat = z * (2 ^ K : Nat) := by
  have e : ((-(i : Int)) - (-(K : Int))).toNat = K - i := by omega
  have e2 : (z.natAbs * 2 ^ i) <<< (K - i) = z.natAbs * 2 ^ K := by rw [Nat.shiftLeft_eq, Nat.mul_assoc, ← Nat.pow_add]; congr 2; omega
  unfold Ieee.signed
  rw [e, e2]
  by_cases hz : z < 0
  · simp only [hz, decide_true, if_true]
    push_cast
    rw [← Int.neg_mul]
    congr 1
    omega
  · simp only [hz, decide_false, Bool.false_eq_true, if_false]
    push_cast
    congr 1
    omega

theorem signed_neg (z : Int) (i K : Nat) (h : i ≤ K) : Ieee.signed (!decide (z < 0)) (z.natAbs * 2 ^ i) ((-(i : Int)) - (-(K : Int))).toNat = -(z * (2 ^ K : Nat)) := by
  have := signed_abs z i K h
  unfold Ieee.signed at this ⊢
  by_cases hz : z < 0
  · simp only [hz, decide_true, if_true, Bool.not_true, Bool.false_eq_true, if_false] at this ⊢
    omega
  · simp only [hz, decide_false, Bool.false_eq_true, if_false, Bool.not_false, if_true] at this ⊢
    omega

theorem write_total {t : Int} {K : Nat} (b : Bool) (hb : t = 0 → b = false) (h : t.natAbs < 2 ^ 53) :
    Ieee.double.write (.number (if t * (2 ^ K : Nat) = 0 then b else decide (t * (2 ^ K : Nat) < 0)) (t * (2 ^ K : Nat)).natAbs (-(K : Int))) = Fz t := by
  have hK : (0 : Int) < (2 ^ K : Nat) := by exact_mod_cast Nat.two_pow_pos K
  have h1 : (if t * (2 ^ K : Nat) = 0 then b else decide (t * (2 ^ K : Nat) < 0)) = decide (t < 0) := by
    by_cases ht : t = 0
    · subst ht; simp [hb rfl]
    · rw [if_neg (Int.mul_ne_zero ht (Int.ne_of_gt hK))]
      rw [decide_eq_decide]
      constructor
      · intro hh; exact Int.lt_of_not_ge fun hn => absurd hh (Int.not_lt.2 (Int.mul_nonneg hn (Int.le_of_lt hK)))
      · intro hh; exact Int.mul_neg_of_neg_of_pos hh hK
  have h2 : (t * (2 ^ K : Nat)).natAbs = t.natAbs * 2 ^ K := by rw [Int.natAbs_mul]; rfl
  rw [h1, h2]
  exact nearest_of _ _ _ h

theorem neg_min (i j : Nat) : min (-(i : Int)) (-(j : Int)) = -((max i j : Nat) : Int) := by omega

theorem add_Fz {a b : Int} (ha : a.natAbs < 2 ^ 53) (hb : b.natAbs < 2 ^ 53) (hc : (a + b).natAbs < 2 ^ 53) : Ieee.double.add (Fz a) (Fz b) = some (Fz (a + b)) := by
  obtain ⟨i, hi⟩ := read_Fz ha
  obtain ⟨j, hj⟩ := read_Fz hb
  unfold Ieee.Format.add
  rw [hi, hj]
  simp only [Ieee.Datum.sum, neg_min, Option.map_some]
  rw [signed_abs a i _ (Nat.le_max_left i j), signed_abs b j _ (Nat.le_max_right i j), ← Int.add_mul]
  rw [write_total _ (fun h => by
    by_cases h0 : a < 0
    · have : ¬ b < 0 := by omega
      simp [this]
    · simp [h0]) hc]

theorem sub_Fz {a b : Int} (ha : a.natAbs < 2 ^ 53) (hb : b.natAbs < 2 ^ 53) (hc : (a - b).natAbs < 2 ^ 53) : Ieee.double.sub (Fz a) (Fz b) = some (Fz (a - b)) := by
  obtain ⟨i, hi⟩ := read_Fz ha
  obtain ⟨j, hj⟩ := read_Fz hb
  unfold Ieee.Format.sub
  rw [hi, hj]
  simp only [Ieee.Datum.opposite, Ieee.Datum.sum, neg_min, Option.map_some]
  rw [signed_abs a i _ (Nat.le_max_left i j), signed_neg b j _ (Nat.le_max_right i j), ← Int.sub_eq_add_neg, ← Int.sub_mul]
  rw [write_total _ (fun h => by
    by_cases h0 : a < 0
    · have : b < 0 := by omega
      simp [this]
    · simp [h0]) hc]

theorem mul_Fz {a b : Int} (h0 : 0 ≤ a) (h0' : 0 ≤ b) (ha : a.natAbs < 2 ^ 53) (hb : b.natAbs < 2 ^ 53) (hc : (a * b).natAbs < 2 ^ 53) : Ieee.double.mul (Fz a) (Fz b) = some (Fz (a * b)) := by
  obtain ⟨i, hi⟩ := read_Fz ha
  obtain ⟨j, hj⟩ := read_Fz hb
  have hp : 0 ≤ a * b := Int.mul_nonneg h0 h0'
  unfold Ieee.Format.mul
  rw [hi, hj]
  simp only [Ieee.Datum.product, Option.map_some, Ieee.Format.write]
  have e1 : (a.natAbs * 2 ^ i) * (b.natAbs * 2 ^ j) = (a * b).natAbs * 2 ^ (i + j) := by
    rw [Int.natAbs_mul, Nat.pow_add, Nat.mul_mul_mul_comm]
  have e2 : -(i : Int) + -(j : Int) = -((i + j : Nat) : Int) := by omega
  rw [e1, e2, nearest_of _ _ _ hc]
  have e3 : decide (a < 0) = false := by simp; omega
  have e4 : decide (b < 0) = false := by simp; omega
  have e5 : decide (a * b < 0) = false := by simp; omega
  unfold Fz
  rw [e3, e4, e5]
  rfl

theorem order_Fz {a b : Int} (ha : a.natAbs < 2 ^ 53) (hb : b.natAbs < 2 ^ 53) : Ieee.double.order (Fz a) (Fz b) = some (compare a b) := by
  obtain ⟨i, hi⟩ := read_Fz ha
  obtain ⟨j, hj⟩ := read_Fz hb
  unfold Ieee.Format.order
  rw [hi, hj]
  simp only [Ieee.Datum.order, neg_min]
  rw [signed_abs a i _ (Nat.le_max_left i j), signed_abs b j _ (Nat.le_max_right i j)]
  have hK : (0 : Int) < (2 ^ (max i j) : Nat) := by exact_mod_cast Nat.two_pow_pos _
  have e1 : a * (2 ^ (max i j) : Nat) < b * (2 ^ (max i j) : Nat) ↔ a < b := ⟨fun h => Int.lt_of_mul_lt_mul_right h (Int.le_of_lt hK), fun h => Int.mul_lt_mul_of_pos_right h hK⟩
  have e2 : a * (2 ^ (max i j) : Nat) = b * (2 ^ (max i j) : Nat) ↔ a = b := ⟨fun h => Int.eq_of_mul_eq_mul_right (Int.ne_of_gt hK) h, fun h => by rw [h]⟩
  congr 1
  simp only [compare, compareOfLessAndEq, e1, e2]

/-- '<=' of two whole numbers. -/
theorem leq_Fz {a b : Int} (ha : a.natAbs < 2 ^ 53) (hb : b.natAbs < 2 ^ 53) : (FloatKind.f64.format.order (Fz a) (Fz b) == some .lt || FloatKind.f64.format.order (Fz a) (Fz b) == some .eq) = decide (a ≤ b) := by
  rw [show FloatKind.f64.format = Ieee.double from rfl, order_Fz ha hb]
  simp only [compare, compareOfLessAndEq]
  by_cases h : a < b
  · simp [h]; omega
  · by_cases h' : a = b
    · subst h'; simp
    · simp [h, h']; omega

theorem Fz_lt {z : Int} (h : z.natAbs < 2 ^ 53) : Fz z < 2 ^ 64 := by
  have := rung_lt h
  unfold Fz Ieee.Format.word
  rw [show Ieee.double.signWeight = 2 ^ 63 from rfl]
  split <;> omega

theorem Fz_nonneg {z : Int} (h0 : 0 ≤ z) : Fz z = rung z.natAbs := by
  unfold Fz Ieee.Format.word
  rw [if_neg (by simp; omega)]

/-- The sign bit taken out. -/
theorem Fz_abs {z : Int} (h : z.natAbs < 2 ^ 53) : Fz z % 2 ^ 63 = Fz (z.natAbs : Int) := by
  have := rung_lt h
  rw [Fz_nonneg (z := (z.natAbs : Int)) (by omega), Int.natAbs_natCast]
  unfold Fz Ieee.Format.word
  rw [show Ieee.double.signWeight = 2 ^ 63 from rfl]
  split <;> omega

theorem one_Fz : Fz 1 = 4607182418800017408 := by decide

/-! Complex numbers of whole parts. -/

/-- Times 1+1i. -/
theorem turn_Fz {x y : Int} (hx : 0 ≤ x) (hy : 0 ≤ y) (hx' : x < 2 ^ 52) (hy' : y < 2 ^ 52) : cMulBits 4607182418800017408 4607182418800017408 (Fz x) (Fz y) = some (Fz (x - y), Fz (y + x)) := by
  rw [← one_Fz]
  have m1 : floatBits .mul .f64 (Fz 1) (Fz x) = some (Fz x) := by
    have := mul_Fz (a := 1) (b := x) (by omega) hx (by decide) (by omega) (by rw [Int.one_mul]; omega)
    rw [Int.one_mul] at this; exact this
  have m2 : floatBits .mul .f64 (Fz 1) (Fz y) = some (Fz y) := by
    have := mul_Fz (a := 1) (b := y) (by omega) hy (by decide) (by omega) (by rw [Int.one_mul]; omega)
    rw [Int.one_mul] at this; exact this
  have a1 : floatBits .sub .f64 (Fz x) (Fz y) = some (Fz (x - y)) := sub_Fz (by omega) (by omega) (by omega)
  have a2 : floatBits .add .f64 (Fz y) (Fz x) = some (Fz (y + x)) := add_Fz (by omega) (by omega) (by omega)
  unfold cMulBits
  simp only [m1, m2, a1, a2, Option.bind_some]
end Go.Proofs.Ytikecpgdacphjaa

namespace Go.Proofs.Ytikecpgdacphjaa
open Go.RowKit

@[go_sem] theorem unary_neg_float (k : FloatKind) (b : Nat) : Op.unary .neg (.float k b) = pure (.float k (Op.negFloat k b)) := rfl

@[go_sem] theorem run_store_complex {P : Program} (w : World) (a : Addr) (m : Mode) (k : FloatKind) (x y : Nat) : (store a (.complex k x y) m).run P w = stored P w a (.complex k x y) m := run_store P w a _ m rfl

theorem cut_zero_noughts (neg : Bool) (n d : Nat) (h : d ≤ (n * 2 ^ d).log2 + 2) : Ieee.Toward.zero.cut neg (n * 2 ^ d) d = n := by
  have hp : 0 < 2 ^ d := Nat.two_pow_pos d
  have hg : (1 <<< min d ((n * 2 ^ d).log2 + 2)) = 2 ^ d := by rw [Nat.min_eq_left h, Nat.one_shiftLeft]
  simp only [Ieee.Toward.cut, hg, Nat.mul_div_cancel _ hp]
  simp
theorem cut_zero_nil (neg : Bool) (d : Nat) : Ieee.Toward.zero.cut neg 0 d = 0 := by
  simp [Ieee.Toward.cut]

theorem toInt_Fz {z : Int} (h : z.natAbs < 2 ^ 53) : ((FloatKind.f64.decode (Fz z)).toInt .zero) = some z := by
  obtain ⟨i, hi⟩ := read_Fz h
  have hr : FloatKind.f64.decode (Fz z) = .number (decide (z < 0)) (z.natAbs * 2 ^ i) (-(i : Int)) := hi
  rw [hr]
  have hc : Ieee.Toward.zero.cut (decide (z < 0)) (z.natAbs * 2 ^ i) i = z.natAbs := by
    by_cases h0 : z.natAbs = 0
    · rw [h0, Nat.zero_mul]; exact cut_zero_nil _ _
    · exact cut_zero_noughts _ _ _ (by rw [log2_shift h0]; omega)
  simp only [Ieee.Datum.toInt, Ieee.Datum.integral]
  rw [show (-(i : Int)).toNat = 0 by omega, show (- -(i : Int)).toNat = i by omega, Nat.shiftLeft_zero, hc]
  simp only [Ieee.signed, Nat.shiftLeft_zero]
  congr 1
  by_cases hz : z < 0
  · simp only [hz, decide_true, if_true]; omega
  · simp only [hz, decide_false, Bool.false_eq_true, if_false]; omega
set_option maxRecDepth 100000 in
theorem intVal_Fz {z : Int} (h : z.natAbs < 2 ^ 53) : floatToIntVal .f64 (Fz z) .i64 = some z := by
  unfold floatToIntVal
  rw [toInt_Fz h]
  simp only
  rw [if_pos]
  rw [show IntKind.i64.min = -9223372036854775808 from rfl, show IntKind.i64.max = 9223372036854775807 from rfl]
  omega

theorem zero_Fz : Fz 0 = 0 := by decide
set_option maxRecDepth 100000 in
/-- A quarter turn. -/
theorem quarter_Fz {a b : Int} (ha : 0 ≤ a) (hb : 0 ≤ b) (ha' : a < 2 ^ 52) (hb' : b < 2 ^ 52) : cMulBits 0 4607182418800017408 (Fz a) (Fz b) = some (Fz (-b), Fz a) := by
  rw [← one_Fz, ← zero_Fz]
  have m0 : ∀ x : Int, 0 ≤ x → x < 2 ^ 52 → floatBits .mul .f64 (Fz 0) (Fz x) = some (Fz 0) := fun x h1 h2 => by
    have := mul_Fz (a := 0) (b := x) (by omega) h1 (by decide) (by omega) (by rw [Int.zero_mul]; decide)
    rw [Int.zero_mul] at this; exact this
  have m1 : ∀ x : Int, 0 ≤ x → x < 2 ^ 52 → floatBits .mul .f64 (Fz 1) (Fz x) = some (Fz x) := fun x h1 h2 => by
    have := mul_Fz (a := 1) (b := x) (by omega) h1 (by decide) (by omega) (by rw [Int.one_mul]; omega)
    rw [Int.one_mul] at this; exact this
  have a1 : floatBits .sub .f64 (Fz 0) (Fz b) = some (Fz (0 - b)) := sub_Fz (by decide) (by omega) (by omega)
  have a2 : floatBits .add .f64 (Fz 0) (Fz a) = some (Fz (0 + a)) := add_Fz (by decide) (by omega) (by omega)
  rw [Int.zero_sub] at a1
  rw [Int.zero_add] at a2
  unfold cMulBits
  simp only [m0 a ha ha', m0 b hb hb', m1 a ha ha', m1 b hb hb', a1, a2, Option.bind_some]
theorem sum_Fz {a b c d : Int} (ha : a.natAbs < 2 ^ 51) (hb : b.natAbs < 2 ^ 51) (hc : c.natAbs < 2 ^ 51) (hd : d.natAbs < 2 ^ 51) : cSumBits .add .f64 (Fz a) (Fz b) (Fz c) (Fz d) = some (Fz (a + c), Fz (b + d)) := by
  have a1 : floatBits .add .f64 (Fz a) (Fz c) = some (Fz (a + c)) := add_Fz (by omega) (by omega) (by omega)
  have a2 : floatBits .add .f64 (Fz b) (Fz d) = some (Fz (b + d)) := add_Fz (by omega) (by omega) (by omega)
  unfold cSumBits
  simp only [a1, a2, Option.bind_some]

theorem xor_top {r : Nat} (h : r < 2 ^ 63) : r ^^^ 2 ^ 63 = 2 ^ 63 + r := by
  apply Nat.eq_of_testBit_eq
  intro j
  rw [Nat.testBit_xor, Nat.testBit_two_pow]
  rcases Nat.lt_trichotomy j 63 with hj | rfl | hj
  · rw [Nat.testBit_two_pow_add_gt hj]
    have : ¬ 63 = j := by omega
    simp [this]
  · rw [Nat.testBit_two_pow_add_eq, Nat.testBit_lt_two_pow h]; simp
  · have hp : 2 ^ 64 ≤ 2 ^ j := Nat.pow_le_pow_right (by omega) (by omega)
    have h1 : r < 2 ^ j := by
      have : (2 : Nat) ^ 63 < 2 ^ 64 := by decide
      omega
    have h2 : 2 ^ 63 + r < 2 ^ j := by
      have : (2 : Nat) ^ 63 + 2 ^ 63 = 2 ^ 64 := by decide
      omega
    rw [Nat.testBit_lt_two_pow h1, Nat.testBit_lt_two_pow h2]
    have : ¬ 63 = j := by omega
    simp [this]
theorem neg_Fz {z : Int} (h : z.natAbs < 2 ^ 53) (h0 : z ≠ 0) : Op.negFloat .f64 (Fz z) = Fz (-z) := by
  have hr := rung_lt h
  have hx := xor_top hr
  show Fz z ^^^ 2 ^ 63 = Fz (-z)
  unfold Fz Ieee.Format.word
  rw [show Ieee.double.signWeight = 2 ^ 63 from rfl, Int.natAbs_neg]
  by_cases hz : z < 0
  · have hz' : ¬ -z < 0 := by omega
    simp only [hz, hz', decide_true, decide_false, Bool.false_eq_true, if_true, if_false]
    rw [← hx, Nat.xor_assoc, Nat.xor_self, Nat.xor_zero]
  · have hz' : -z < 0 := by omega
    simp only [hz, hz', decide_true, decide_false, Bool.false_eq_true, if_true, if_false]
    exact hx
theorem neg_zero_bits : Op.negFloat .f64 (Fz 0) = 9223372036854775808 := by decide
set_option maxRecDepth 100000 in
/-- The greater of nought and what is less than nothing by d. -/
theorem run_max_neg {P : Program} {d : Int} (h : d.natAbs < 2 ^ 53) (ts : Array TypeId) (t : TypeId) (w : World) : (Builtin.max_ ts t #[.float .f64 0, .float .f64 (Op.negFloat .f64 (Fz d))]).run P w = .ok (.float .f64 (Fz (max 0 (-d)))) w := by
  by_cases h0 : d = 0
  · subst h0
    rw [neg_zero_bits]
    have ho : FloatKind.f64.format.order 0 9223372036854775808 = some .eq := by decide
    have hn : (FloatKind.f64.decode 0).neg = false := by decide
    simp [Builtin.max_, Builtin.max2, ho, hn, zero_Fz]
  · rw [neg_Fz h h0]
    have ho : FloatKind.f64.format.order (Fz 0) (Fz (-d)) = some (compare 0 (-d)) := order_Fz (by decide) (by omega)
    rw [zero_Fz] at ho
    by_cases hd : d < 0
    · have hc : compare 0 (-d) = .lt := by simp only [compare, compareOfLessAndEq]; rw [if_pos (by omega)]
      rw [hc] at ho
      have hm : max 0 (-d) = -d := by omega
      rw [hm]
      simp [Builtin.max_, Builtin.max2, ho]
    · have hc : compare 0 (-d) = .gt := by simp only [compare, compareOfLessAndEq]; rw [if_neg (by omega), if_neg (by omega)]
      rw [hc] at ho
      have hm : max 0 (-d) = 0 := by omega
      rw [hm, zero_Fz]
      simp [Builtin.max_, Builtin.max2, ho]
end Go.Proofs.Ytikecpgdacphjaa

namespace Go.Proofs.Ytikecpgdacphjaa
open Go.RowKit

theorem log2_of {n k : Nat} (h1 : 2 ^ k ≤ n) (h2 : n < 2 ^ (k + 1)) : n.log2 = k := by
  have h0 : n ≠ 0 := by have := Nat.two_pow_pos k; omega
  exact (Nat.log2_eq_iff h0).2 ⟨h1, h2⟩

/-- What a cut to the nearest keeps. -/
theorem cut_near (neg : Bool) (n d : Nat) (h : d ≤ n.log2 + 2) : n / 2 ^ d ≤ Ieee.Toward.even.cut neg n d ∧ Ieee.Toward.even.cut neg n d ≤ n / 2 ^ d + 1 := by
  have hg : (1 <<< min d (n.log2 + 2)) = 2 ^ d := by rw [Nat.min_eq_left h, Nat.one_shiftLeft]
  simp only [Ieee.Toward.cut, hg]
  constructor
  · exact Nat.le_add_right _ _
  · exact Nat.add_le_add_left (Bool.toNat_le _) _

set_option maxRecDepth 100000 in
/-- What a number is as it is written and read again: 53 digits of it. -/
theorem near_read (neg : Bool) {m : Nat} {p : Int} (hm : m ≠ 0) (h0 : -1000 ≤ p + m.log2) (h1 : p + m.log2 ≤ 1000) :
    ∃ K : Nat, 2 ^ 52 ≤ K ∧ K ≤ 2 ^ 53 ∧ (∀ d : Nat, m.log2 = 52 + d → m / 2 ^ d ≤ K ∧ K ≤ m / 2 ^ d + 1) ∧ (m.log2 ≤ 52 → K = m * 2 ^ (52 - m.log2)) ∧
      Ieee.double.nearest neg m p < 2 ^ 64 ∧
      Ieee.double.read (Ieee.double.nearest neg m p) = .number neg (if K < 2 ^ 53 then K else 2 ^ 52) (if K < 2 ^ 53 then p + m.log2 - 52 else p + m.log2 - 51) := by
  have hl1 := Nat.log2_self_le hm
  have hl2 := @Nat.lt_log2_self m
  have hlp : Ieee.double.leastPlace = -1074 := rfl
  have hfb : ((Ieee.double.fractionBits : Nat) : Int) = 52 := rfl
  have hb : Ieee.double.binade = 2 ^ 52 := rfl
  have hi : Ieee.double.infRung = 2047 * 2 ^ 52 := rfl
  have hlast : max (p + (m.log2 : Nat) - (Ieee.double.fractionBits : Nat)) Ieee.double.leastPlace = p + m.log2 - 52 := by rw [hlp, hfb]; omega
  obtain ⟨K, hK⟩ : ∃ K, K = Ieee.Toward.even.cut neg (m <<< (p - (p + m.log2 - 52)).toNat) ((p + m.log2 - 52) - p).toNat := ⟨_, rfl⟩
  have hbig : ∀ d : Nat, m.log2 = 52 + d → m / 2 ^ d ≤ K ∧ K ≤ m / 2 ^ d + 1 := fun d hd => by
    rw [hK, show (p - (p + (m.log2 : Int) - 52)).toNat = 0 by omega, show ((p + (m.log2 : Int) - 52) - p).toNat = d by omega, Nat.shiftLeft_zero]
    exact cut_near neg m d (by omega)
  have hsmall : m.log2 ≤ 52 → K = m * 2 ^ (52 - m.log2) := fun hle => by
    rw [hK, show (p - (p + (m.log2 : Int) - 52)).toNat = 52 - m.log2 by omega, show ((p + (m.log2 : Int) - 52) - p).toNat = 0 by omega, cut_none, Nat.shiftLeft_eq]
  have hr : 2 ^ 52 ≤ K ∧ K ≤ 2 ^ 53 := by
    by_cases hle : m.log2 ≤ 52
    · rw [hsmall hle]
      have e1 : 2 ^ m.log2 * 2 ^ (52 - m.log2) = 2 ^ 52 := by rw [← Nat.pow_add]; congr 1; omega
      have e2 : 2 ^ (m.log2 + 1) * 2 ^ (52 - m.log2) = 2 ^ 53 := by rw [← Nat.pow_add]; congr 1; omega
      exact ⟨by rw [← e1]; exact Nat.mul_le_mul_right _ hl1, by rw [← e2]; exact Nat.mul_le_mul_right _ (Nat.le_of_lt hl2)⟩
    · obtain ⟨d, hd⟩ : ∃ d, m.log2 = 52 + d := ⟨m.log2 - 52, by omega⟩
      obtain ⟨k1, k2⟩ := hbig d hd
      have e1 : 2 ^ 52 ≤ m / 2 ^ d := (Nat.le_div_iff_mul_le (Nat.two_pow_pos d)).2 (by rw [← Nat.pow_add, ← hd]; exact hl1)
      have e2 : m / 2 ^ d < 2 ^ 53 := (Nat.div_lt_iff_lt_mul (Nat.two_pow_pos d)).2 (by rw [← Nat.pow_add, show 53 + d = m.log2 + 1 by omega]; exact hl2)
      exact ⟨Nat.le_trans e1 k1, by omega⟩
  refine ⟨K, hr.1, hr.2, hbig, hsmall, ?_⟩
  have hn : Ieee.double.nearest neg m p = Ieee.double.word neg ((p + m.log2 - 52 - -1074).toNat * 2 ^ 52 + K) := by
    unfold Ieee.Format.nearest
    simp only [hm, if_false, hlast]
    rw [← hK]
    simp only [hlp, hb, hi]
    rw [Nat.min_eq_left]
    obtain ⟨r1, r2⟩ := hr
    clear hbig hsmall hK hl1 hl2
    generalize m.log2 = L at *
    simp only [show (2 : Nat) ^ 52 = 4503599627370496 from rfl, show (2 : Nat) ^ 53 = 9007199254740992 from rfl] at *
    omega
  obtain ⟨q, hq⟩ : ∃ q : Nat, q = (p + m.log2 - 52 - -1074).toNat := ⟨_, rfl⟩
  rw [← hq] at hn
  have hq1 : (22 : Nat) ≤ q := by omega
  have hq2 : q ≤ 2022 := by omega
  have hq3 : p + m.log2 - 52 = (q : Int) - 1074 := by omega
  have hR : q * 2 ^ 52 + K < 2 ^ 63 := by
    obtain ⟨r1, r2⟩ := hr
    simp only [show (2 : Nat) ^ 52 = 4503599627370496 from rfl, show (2 : Nat) ^ 53 = 9007199254740992 from rfl, show (2 : Nat) ^ 63 = 9223372036854775808 from rfl] at *
    omega
  obtain ⟨w1, w2⟩ := word_parts neg hR
  rw [hn]
  constructor
  · unfold Ieee.Format.word
    rw [show Ieee.double.signWeight = 2 ^ 63 from rfl]
    simp only [show (2 : Nat) ^ 63 = 9223372036854775808 from rfl, show (2 : Nat) ^ 64 = 18446744073709551616 from rfl] at *
    split <;> omega
  · unfold Ieee.Format.read
    simp only [w1, w2, hb, hi, hlp]
    obtain ⟨r1, r2⟩ := hr
    clear w1 w2 hn hbig hsmall hK hl1 hl2 hlast
    simp only [show (2 : Nat) ^ 52 = 4503599627370496 from rfl, show (2 : Nat) ^ 53 = 9007199254740992 from rfl, show (2 : Nat) ^ 63 = 9223372036854775808 from rfl] at *
    rw [if_neg (by omega), if_pos (by omega)]
    by_cases hk : K < 9007199254740992
    · simp only [if_pos hk]
      have e1 : (q * 4503599627370496 + K) / 4503599627370496 = q + 1 := by omega
      have e2 : 4503599627370496 + (q * 4503599627370496 + K) % 4503599627370496 = K := by omega
      rw [e1, e2]
      congr 1
      omega
    · obtain rfl : K = 9007199254740992 := by omega
      simp only [if_neg hk]
      have e1 : (q * 4503599627370496 + 9007199254740992) / 4503599627370496 = q + 2 := by omega
      have e2 : 4503599627370496 + (q * 4503599627370496 + 9007199254740992) % 4503599627370496 = 4503599627370496 := by omega
      have e3 : (-1074 : Int) + ((q + 2 - 1 : Nat) : Int) = p + m.log2 - 51 := by omega
      rw [e1, e2, e3]

/-- The same of a whole number: just itself. -/
theorem read_nz (neg : Bool) {m : Nat} (hm : m ≠ 0) (h53 : m < 2 ^ 53) : Ieee.double.read (Ieee.double.word neg (rung m)) = .number neg (m * 2 ^ (52 - m.log2)) (-((52 - m.log2 : Nat) : Int)) := by
  have hl := log2_le52 hm h53
  obtain ⟨K, -, -, -, h4, -, h6⟩ := near_read neg (p := 0) hm (by omega) (by omega)
  have hk := kept_bounds hm h53
  have := nearest_of neg m 0 h53
  simp only [Nat.pow_zero, Nat.mul_one] at this
  have e0 : (-((0 : Nat) : Int)) = 0 := rfl
  rw [e0] at this
  rw [← this, h6, if_pos (by rw [h4 hl]; exact hk.2), if_pos (by rw [h4 hl]; exact hk.2), h4 hl]
  congr 1
  omega

/-- One parted by another, cut to 53 digits and rounded down. -/
theorem part_down {a b D K : Nat} (hb : 0 < b) (hD : b < 2 ^ D) (h1 : a * 2 ^ D / b ≤ K) (h2 : K ≤ a * 2 ^ D / b + 1) : K / 2 ^ D = a / b := by
  have hp := Nat.two_pow_pos D
  have e1 : a * 2 ^ D / b / 2 ^ D = a / b := by rw [Nat.div_div_eq_div_mul, Nat.mul_div_mul_right _ _ hp]
  have l1 : a / b ≤ K / 2 ^ D := by rw [← e1]; exact Nat.div_le_div_right h1
  have h3 : a < b * (a / b + 1) := by rw [Nat.mul_add, Nat.mul_one]; have := Nat.div_add_mod a b; have := Nat.mod_lt a hb; omega
  have h4 : a * 2 ^ D + 2 ^ D ≤ b * (a / b + 1) * 2 ^ D := by rw [← Nat.succ_mul]; exact Nat.mul_le_mul_right _ h3
  have h5 : a * 2 ^ D / b + 1 < (a / b + 1) * 2 ^ D := by
    have h6 : a * 2 ^ D / b < (a / b + 1) * 2 ^ D - 1 := by
      rw [Nat.div_lt_iff_lt_mul hb, Nat.sub_mul, Nat.one_mul, show (a / b + 1) * 2 ^ D * b = b * (a / b + 1) * 2 ^ D by rw [Nat.mul_comm, Nat.mul_assoc]]
      generalize b * (a / b + 1) * 2 ^ D = y at *
      omega
    exact Nat.add_lt_of_lt_sub h6
  have l2 : K / 2 ^ D < a / b + 1 := (Nat.div_lt_iff_lt_mul hp).2 (by omega)
  omega

theorem cut_down (n d : Nat) : Ieee.Toward.down.cut false n d = n / 2 ^ d := by
  by_cases h : d ≤ n.log2 + 2
  · have hg : (1 <<< min d (n.log2 + 2)) = 2 ^ d := by rw [Nat.min_eq_left h, Nat.one_shiftLeft]
    simp only [Ieee.Toward.cut, hg]
    simp
  · have hg : (1 <<< min d (n.log2 + 2)) = 2 ^ (n.log2 + 2) := by rw [Nat.min_eq_right (by omega), Nat.one_shiftLeft]
    simp only [Ieee.Toward.cut, hg]
    have hlt := @Nat.lt_log2_self n
    have p1 : (2 : Nat) ^ (n.log2 + 1) ≤ 2 ^ (n.log2 + 2) := Nat.pow_le_pow_right (by omega) (by omega)
    have p2 : (2 : Nat) ^ (n.log2 + 1) ≤ 2 ^ d := Nat.pow_le_pow_right (by omega) (by omega)
    rw [Nat.div_eq_of_lt (by omega), Nat.div_eq_of_lt (by omega)]
    simp

/-- A number rounded down. -/
def floorF (x : Nat) : Nat := FloatKind.f64.encode ((FloatKind.f64.decode x).integral .down)

set_option maxRecDepth 100000 in
theorem div_floor {a b : Nat} (ha : a < 2 ^ 20) (hb0 : 0 < b) (hb : b < 2 ^ 20) : ∃ x s m p, Ieee.double.div (Fz a) (Fz b) = some x ∧ FloatKind.f64.decode x = .number s m p ∧ floorF x = Fz ((a / b : Nat) : Int) := by
  have p20 : (2 : Nat) ^ 20 < 2 ^ 53 := by decide
  have hFb : Fz (b : Int) = Ieee.double.word false (rung b) := by unfold Fz; rw [Int.natAbs_natCast, show decide ((b : Int) < 0) = false by simp]
  have hFq : ∀ q : Nat, q < 2 ^ 53 → Ieee.double.nearest false q 0 = Fz (q : Int) := fun q hq => by
    have := nearest_of false q 0 hq
    simp only [Nat.pow_zero, Nat.mul_one] at this
    have e0 : (-((0 : Nat) : Int)) = 0 := rfl
    rw [e0] at this
    rw [this]
    unfold Fz; rw [Int.natAbs_natCast, show decide ((q : Int) < 0) = false by simp]
  have rb := read_nz false (m := b) (by omega) (by omega)
  rw [← hFb] at rb
  have kb := kept_bounds (m := b) (by omega) (by omega)
  have lb : b.log2 < 20 := (Nat.log2_lt (by omega)).2 hb
  by_cases h0 : a = 0
  · subst h0
    have r0 : Ieee.double.read (Fz ((0 : Nat) : Int)) = .number false 0 (-1074) := by decide
    refine ⟨0, false, 0, -1074, ?_, by decide, ?_⟩
    · unfold Ieee.Format.div
      rw [r0, rb]
      simp only [Ieee.Datum.quotient]
      rw [if_neg (by omega)]
      simp [Ieee.Format.write, Ieee.Format.nearest, Ieee.Format.word]
    · rw [Nat.zero_div]; decide
  have hFa : Fz (a : Int) = Ieee.double.word false (rung a) := by unfold Fz; rw [Int.natAbs_natCast, show decide ((a : Int) < 0) = false by simp]
  have ra := read_nz false (m := a) h0 (by omega)
  rw [← hFa] at ra
  have ka := kept_bounds (m := a) h0 (by omega)
  have la : a.log2 < 20 := (Nat.log2_lt h0).2 ha
  obtain ⟨i, hi⟩ : ∃ i, i = 52 - a.log2 := ⟨_, rfl⟩
  obtain ⟨j, hj⟩ : ∃ j, j = 52 - b.log2 := ⟨_, rfl⟩
  rw [← hi] at ra ka
  rw [← hj] at rb kb
  have i1 : 33 ≤ i := by omega
  have i2 : i ≤ 52 := by omega
  have j1 : 33 ≤ j := by omega
  have j2 : j ≤ 52 := by omega
  have lA : (a * 2 ^ i).log2 = 52 := log2_of ka.1 ka.2
  have lB : (b * 2 ^ j).log2 = 52 := log2_of kb.1 kb.2
  obtain ⟨X, hX⟩ : ∃ X, X = (a * 2 ^ i) <<< 54 / (b * 2 ^ j) := ⟨_, rfl⟩
  obtain ⟨M, hM⟩ : ∃ M, M = 2 * X + (((a * 2 ^ i) <<< 54) % (b * 2 ^ j) != 0).toNat := ⟨_, rfl⟩
  have hX2 : X = a * 2 ^ (i + 54) / (b * 2 ^ j) := by rw [hX, Nat.shiftLeft_eq, Nat.mul_assoc, ← Nat.pow_add]
  have hBp : 0 < b * 2 ^ j := by have := kb.1; have : (0 : Nat) < 2 ^ 52 := Nat.two_pow_pos 52; omega
  have hXlo : 2 ^ 53 ≤ X := by
    rw [hX, Nat.shiftLeft_eq, Nat.le_div_iff_mul_le hBp]
    calc 2 ^ 53 * (b * 2 ^ j) ≤ 2 ^ 53 * 2 ^ 53 := Nat.mul_le_mul_left _ (Nat.le_of_lt kb.2)
      _ = 2 ^ 52 * 2 ^ 54 := by decide
      _ ≤ a * 2 ^ i * 2 ^ 54 := Nat.mul_le_mul_right _ ka.1
  have hXhi : X < 2 ^ 55 := by
    rw [hX, Nat.shiftLeft_eq, Nat.div_lt_iff_lt_mul hBp]
    calc a * 2 ^ i * 2 ^ 54 < 2 ^ 53 * 2 ^ 54 := Nat.mul_lt_mul_of_pos_right ka.2 (Nat.two_pow_pos 54)
      _ = 2 ^ 55 * 2 ^ 52 := by decide
      _ ≤ 2 ^ 55 * (b * 2 ^ j) := Nat.mul_le_mul_left _ kb.1
  have hst : (((a * 2 ^ i) <<< 54) % (b * 2 ^ j) != 0).toNat ≤ 1 := Bool.toNat_le _
  have hMX : M / 2 = X := by omega
  have hMlo : 2 ^ 54 ≤ M := by have e : (2 : Nat) ^ 54 = 2 * 2 ^ 53 := by decide
                               omega
  have hMhi : M < 2 ^ 56 := by have e : (2 : Nat) ^ 56 = 2 * 2 ^ 55 := by decide
                               omega
  have hM0 : M ≠ 0 := by have : (0 : Nat) < 2 ^ 54 := Nat.two_pow_pos 54; omega
  obtain ⟨d, hd, hd1, hd2⟩ : ∃ d, M.log2 = 52 + d ∧ 2 ≤ d ∧ d ≤ 3 := by
    have l1 : 54 ≤ M.log2 := (Nat.le_log2 hM0).2 hMlo
    have l2 : M.log2 < 56 := (Nat.log2_lt hM0).2 hMhi
    exact ⟨M.log2 - 52, by omega, by omega, by omega⟩
  obtain ⟨D, hD⟩ : ∃ D, D + (j + d) = i + 55 := ⟨i + 55 - (j + d), by omega⟩
  have hMd : M / 2 ^ d = a * 2 ^ D / b := by
    obtain ⟨d', rfl⟩ : ∃ d', d = d' + 1 := ⟨d - 1, by omega⟩
    rw [Nat.pow_succ, Nat.mul_comm, ← Nat.div_div_eq_div_mul, hMX, hX2, Nat.div_div_eq_div_mul, Nat.mul_assoc, ← Nat.pow_add, show i + 54 = D + (j + d') by omega, Nat.pow_add, ← Nat.mul_assoc]
    exact Nat.mul_div_mul_right _ _ (Nat.two_pow_pos _)
  obtain ⟨K, k1, k2, k3, -, k5, k6⟩ := near_read false (m := M) (p := (j : Int) - i - 55) hM0 (by omega) (by omega)
  obtain ⟨k3, k4⟩ := k3 d hd
  rw [hMd] at k3 k4
  have hbD : b < 2 ^ D := Nat.lt_of_lt_of_le hb (Nat.pow_le_pow_right (by omega) (by omega))
  have hfin := part_down hb0 hbD k3 k4
  have hx : Ieee.double.div (Fz a) (Fz b) = some (Ieee.double.nearest false M ((j : Int) - i - 55)) := by
    unfold Ieee.Format.div
    rw [ra, rb]
    simp only [Ieee.Datum.quotient]
    rw [if_neg (by omega), lA, lB, show Ieee.double.fractionBits + 2 + 52 - 52 = 54 from rfl, ← hX, ← hM]
    simp only [Option.map_some, Ieee.Format.write]
    congr 2
    omega
  refine ⟨_, _, _, _, hx, k6, ?_⟩
  have hq : a / b < 2 ^ 53 := Nat.lt_of_le_of_lt (Nat.div_le_self a b) (by omega)
  unfold floorF
  rw [show FloatKind.f64.decode (Ieee.double.nearest false M ((j : Int) - i - 55)) = Ieee.double.read (Ieee.double.nearest false M ((j : Int) - i - 55)) from rfl, k6]
  simp only [Ieee.Datum.integral]
  rw [cut_down, hd]
  have hs : (if K < 2 ^ 53 then K else 2 ^ 52) <<< (if K < 2 ^ 53 then (j : Int) - i - 55 + (52 + d : Nat) - 52 else (j : Int) - i - 55 + (52 + d : Nat) - 51).toNat / 2 ^ (-(if K < 2 ^ 53 then (j : Int) - i - 55 + (52 + d : Nat) - 52 else (j : Int) - i - 55 + (52 + d : Nat) - 51)).toNat = a / b := by
    by_cases hk : K < 2 ^ 53
    · rw [if_pos hk, if_pos hk, show ((j : Int) - i - 55 + (52 + d : Nat) - 52).toNat = 0 by omega, Nat.shiftLeft_zero, show (-((j : Int) - i - 55 + (52 + d : Nat) - 52)).toNat = D by omega]
      exact hfin
    · obtain rfl : K = 2 ^ 53 := by omega
      rw [if_neg hk, if_neg hk, show ((j : Int) - i - 55 + (52 + d : Nat) - 51).toNat = 0 by omega, Nat.shiftLeft_zero, show (-((j : Int) - i - 55 + (52 + d : Nat) - 51)).toNat = D - 1 by omega]
      rw [← hfin]
      obtain ⟨D', rfl⟩ : ∃ D', D = D' + 1 := ⟨D - 1, by omega⟩
      rw [Nat.add_sub_cancel, Nat.pow_succ 2 D', show (2 : Nat) ^ 53 = 2 ^ 52 * 2 from rfl, Nat.mul_div_mul_right _ _ (by omega)]
  rw [hs]
  exact hFq _ hq
end Go.Proofs.Ytikecpgdacphjaa

namespace Go.Proofs.Ytikecpgdacphjaa
open Go.RowKit

/-- A sign and a whole number. -/
def sg (neg : Bool) (m : Nat) : Int := if neg then -(m : Int) else m
/-- The word of a sign and a whole number (nought has two). -/
def Wd (neg : Bool) (m : Nat) : Nat := Ieee.double.word neg (rung m)
theorem Fz_Wd (z : Int) : Fz z = Wd (decide (z < 0)) z.natAbs := rfl

theorem signed_sg (neg : Bool) (m i K : Nat) (h : i ≤ K) : Ieee.signed neg (m * 2 ^ i) ((-(i : Int)) - (-(K : Int))).toNat = sg neg m * (2 ^ K : Nat) := by
  have e : ((-(i : Int)) - (-(K : Int))).toNat = K - i := by omega
  have e2 : (m * 2 ^ i) <<< (K - i) = m * 2 ^ K := by rw [Nat.shiftLeft_eq, Nat.mul_assoc, ← Nat.pow_add]; congr 2; omega
  unfold Ieee.signed sg
  rw [e, e2]
  cases neg
  · simp
  · simp [Int.neg_mul]

theorem add_Wd {n1 n2 : Bool} {m1 m2 : Nat} (h1 : m1 < 2 ^ 53) (h2 : m2 < 2 ^ 53) {t : Int} (ht : sg n1 m1 + sg n2 m2 = t) (hc : t.natAbs < 2 ^ 53) (h0 : t = 0 → (n1 && n2) = false) : Ieee.double.add (Wd n1 m1) (Wd n2 m2) = some (Fz t) := by
  obtain ⟨i, hi⟩ := read_of n1 m1 h1
  obtain ⟨j, hj⟩ := read_of n2 m2 h2
  unfold Ieee.Format.add Wd
  rw [hi, hj]
  simp only [Ieee.Datum.sum, neg_min, Option.map_some]
  rw [signed_sg n1 m1 i _ (Nat.le_max_left i j), signed_sg n2 m2 j _ (Nat.le_max_right i j), ← Int.add_mul, ht]
  rw [write_total _ h0 hc]

theorem sub_Wd {n1 n2 : Bool} {m1 m2 : Nat} (h1 : m1 < 2 ^ 53) (h2 : m2 < 2 ^ 53) {t : Int} (ht : sg n1 m1 + sg (!n2) m2 = t) (hc : t.natAbs < 2 ^ 53) (h0 : t = 0 → (n1 && !n2) = false) : Ieee.double.sub (Wd n1 m1) (Wd n2 m2) = some (Fz t) := by
  obtain ⟨i, hi⟩ := read_of n1 m1 h1
  obtain ⟨j, hj⟩ := read_of n2 m2 h2
  unfold Ieee.Format.sub Wd
  rw [hi, hj]
  simp only [Ieee.Datum.opposite, Ieee.Datum.sum, neg_min, Option.map_some]
  rw [signed_sg n1 m1 i _ (Nat.le_max_left i j), signed_sg (!n2) m2 j _ (Nat.le_max_right i j), ← Int.add_mul, ht]
  rw [write_total _ h0 hc]

theorem mul_Wd {n1 n2 : Bool} {m1 m2 : Nat} (h1 : m1 < 2 ^ 53) (h2 : m2 < 2 ^ 53) (hc : m1 * m2 < 2 ^ 53) : Ieee.double.mul (Wd n1 m1) (Wd n2 m2) = some (Wd (n1 ^^ n2) (m1 * m2)) := by
  obtain ⟨i, hi⟩ := read_of n1 m1 h1
  obtain ⟨j, hj⟩ := read_of n2 m2 h2
  unfold Ieee.Format.mul Wd
  rw [hi, hj]
  simp only [Ieee.Datum.product, Option.map_some, Ieee.Format.write]
  rw [show (m1 * 2 ^ i) * (m2 * 2 ^ j) = (m1 * m2) * 2 ^ (i + j) by rw [Nat.pow_add, Nat.mul_mul_mul_comm], show -(i : Int) + -(j : Int) = -((i + j : Nat) : Int) by omega, nearest_of _ _ _ hc]

set_option maxRecDepth 100000 in
/-- So many times 1-Si. -/
theorem times_Fz {q S : Int} (hq : q.natAbs < 2 ^ 40) (h0 : 0 < S) (h1 : S < 2 ^ 13) : cMulBits (Fz q) (Fz 0) (Fz 1) (Fz (-S)) = some (Fz q, Fz (-(q * S))) := by
  have hp : q.natAbs * S.natAbs < 2 ^ 53 := by
    calc q.natAbs * S.natAbs ≤ q.natAbs * 2 ^ 13 := Nat.mul_le_mul_left _ (by omega)
      _ < 2 ^ 40 * 2 ^ 13 := Nat.mul_lt_mul_of_pos_right hq (by omega)
      _ = 2 ^ 53 := by decide
  have hpi : (-(q * S)).natAbs = q.natAbs * S.natAbs := by rw [Int.natAbs_neg, Int.natAbs_mul]
  have s1 : decide (-S < 0) = true := by simp; omega
  have m1 : floatBits .mul .f64 (Fz q) (Fz 1) = some (Wd (decide (q < 0)) q.natAbs) := by
    have := mul_Wd (n1 := decide (q < 0)) (n2 := false) (m1 := q.natAbs) (m2 := 1) (by omega) (by decide) (by omega)
    rw [Nat.mul_one, Bool.xor_false] at this; exact this
  have m2 : floatBits .mul .f64 (Fz 0) (Fz (-S)) = some (Wd true 0) := by
    have := mul_Wd (n1 := false) (n2 := true) (m1 := 0) (m2 := (-S).natAbs) (by decide) (by omega) (by rw [Nat.zero_mul]; decide)
    rw [Nat.zero_mul, Bool.false_xor] at this
    rw [Fz_Wd (-S), s1]; exact this
  have m3 : floatBits .sub .f64 (Wd (decide (q < 0)) q.natAbs) (Wd true 0) = some (Fz q) := by
    refine sub_Wd (by omega) (by decide) ?_ (by omega) ?_
    · unfold sg
      by_cases hn : q < 0
      · simp only [hn, decide_true, if_true, Bool.not_true, Bool.false_eq_true, if_false]; omega
      · simp only [hn, decide_false, Bool.false_eq_true, if_false, Bool.not_true]; omega
    · intro _; simp
  have m4 : floatBits .mul .f64 (Fz q) (Fz (-S)) = some (Wd (decide (q < 0) ^^ true) (q.natAbs * S.natAbs)) := by
    rw [Fz_Wd q, Fz_Wd (-S), s1, Int.natAbs_neg]
    exact mul_Wd (by omega) (by omega) hp
  have m5 : floatBits .mul .f64 (Fz 0) (Fz 1) = some (Wd false 0) := by
    have := mul_Wd (n1 := false) (n2 := false) (m1 := 0) (m2 := 1) (by decide) (by decide) (by decide)
    exact this
  have m6 : floatBits .add .f64 (Wd (decide (q < 0) ^^ true) (q.natAbs * S.natAbs)) (Wd false 0) = some (Fz (-(q * S))) := by
    refine add_Wd hp (by decide) ?_ (by rw [hpi]; exact hp) ?_
    · unfold sg
      by_cases hn : q < 0
      · have e : (((q.natAbs * S.natAbs : Nat)) : Int) = -(q * S) := by
          rw [Int.natCast_mul, show ((q.natAbs : Nat) : Int) = -q by omega, show ((S.natAbs : Nat) : Int) = S by omega, Int.neg_mul]
        simp only [hn, decide_true, Bool.xor_true, Bool.not_true, Bool.false_eq_true, if_false]
        rw [e]; omega
      · have e : (((q.natAbs * S.natAbs : Nat)) : Int) = q * S := by
          rw [Int.natCast_mul, show ((q.natAbs : Nat) : Int) = q by omega, show ((S.natAbs : Nat) : Int) = S by omega]
        simp only [hn, decide_false, Bool.xor_true, Bool.not_false, if_true, Bool.false_eq_true, if_false]
        rw [e]; omega
    · intro _; simp
  unfold cMulBits
  simp only [m1, m2, m3, m4, m5, m6, Option.bind_some]

/-! Numbers too great to be told exactly: their sign and about how great. -/

/-- x stands for a number of this sign, from 1<<lo to 1<<(hi+1). -/
def Far (x : Nat) (neg : Bool) (lo hi : Int) : Prop := x < 2 ^ 64 ∧ ∃ (m : Nat) (p : Int), Ieee.double.read x = .number neg m p ∧ m ≠ 0 ∧ lo ≤ p + m.log2 ∧ p + m.log2 ≤ hi
/-- y stands for a number below 1<<21, of whatever sign. -/
def Near (y : Nat) : Prop := ∃ (t : Bool) (n : Nat) (q : Int), Ieee.double.read y = .number t n q ∧ (n = 0 ∨ q + n.log2 ≤ 20)

set_option maxRecDepth 100000 in
theorem Far.near {neg : Bool} {m : Nat} {p lo hi : Int} (hm : m ≠ 0) (h0 : -1000 ≤ lo) (h1 : lo ≤ p + m.log2) (h2 : p + m.log2 ≤ hi) (h3 : hi ≤ 1000) : Far (Ieee.double.nearest neg m p) neg lo (hi + 1) := by
  obtain ⟨K, k1, k2, -, -, k5, k6⟩ := near_read neg (p := p) hm (by omega) (by omega)
  refine ⟨k5, _, _, k6, ?_, ?_⟩
  · have : (0 : Nat) < 2 ^ 52 := Nat.two_pow_pos 52
    split <;> omega
  · by_cases hk : K < 2 ^ 53
    · simp only [if_pos hk]; rw [log2_of k1 hk]; omega
    · simp only [if_neg hk]; rw [log2_of (Nat.le_refl (2 ^ 52)) (by decide)]; omega

theorem near_Fz {z : Int} (h : z.natAbs < 2 ^ 20) : Near (Fz z) := by
  have p20 : (2 : Nat) ^ 20 < 2 ^ 53 := by decide
  by_cases h0 : z.natAbs = 0
  · have e : z = 0 := by omega
    subst e
    exact ⟨false, 0, -1074, by decide, .inl rfl⟩
  · have hl : z.natAbs.log2 < 20 := (Nat.log2_lt h0).2 h
    refine ⟨_, _, _, read_nz (decide (z < 0)) h0 (by omega), .inr ?_⟩
    have hk := kept_bounds (m := z.natAbs) h0 (by omega)
    rw [log2_of hk.1 hk.2]
    omega
theorem near_neg0 : Near (Wd true 0) := ⟨true, 0, -1074, by decide, .inl rfl⟩

theorem log2_mul {m n : Nat} (hm : m ≠ 0) (hn : n ≠ 0) : m.log2 + n.log2 ≤ (m * n).log2 ∧ (m * n).log2 ≤ m.log2 + n.log2 + 1 := by
  have h1 := Nat.log2_self_le hm
  have h2 := @Nat.lt_log2_self m
  have h3 := Nat.log2_self_le hn
  have h4 := @Nat.lt_log2_self n
  have hmn : m * n ≠ 0 := Nat.mul_ne_zero hm hn
  constructor
  · exact (Nat.le_log2 hmn).2 (by rw [Nat.pow_add]; exact Nat.mul_le_mul h1 h3)
  · have : (m * n).log2 < m.log2 + n.log2 + 2 := (Nat.log2_lt hmn).2 (by
      rw [show m.log2 + n.log2 + 2 = (m.log2 + 1) + (n.log2 + 1) by omega, Nat.pow_add]
      exact Nat.mul_lt_mul_of_lt_of_lt h2 h4)
    omega

theorem Far.mul {x : Nat} {s : Bool} {lo hi : Int} (h : Far x s lo hi) {b : Int} (hb0 : b ≠ 0) (hb : b.natAbs < 2 ^ 20) (h0 : -900 ≤ lo) (h1 : hi ≤ 900) : ∃ z, Ieee.double.mul x (Fz b) = some z ∧ Far z (s ^^ decide (b < 0)) lo (hi + 22) := by
  have p20 : (2 : Nat) ^ 20 < 2 ^ 53 := by decide
  obtain ⟨hx, m, p, hr, hm, l1, l2⟩ := h
  have hn0 : b.natAbs ≠ 0 := by omega
  have hl : b.natAbs.log2 < 20 := (Nat.log2_lt hn0).2 hb
  have hk := kept_bounds (m := b.natAbs) hn0 (by omega)
  have hB : b.natAbs * 2 ^ (52 - b.natAbs.log2) ≠ 0 := by have := hk.1; have : (0 : Nat) < 2 ^ 52 := Nat.two_pow_pos 52; omega
  have hg := log2_mul hm hB
  rw [log2_of hk.1 hk.2] at hg
  refine ⟨Ieee.double.nearest (s ^^ decide (b < 0)) (m * (b.natAbs * 2 ^ (52 - b.natAbs.log2))) (p + -((52 - b.natAbs.log2 : Nat) : Int)), ?_, ?_⟩
  · unfold Ieee.Format.mul
    rw [hr, show Ieee.double.read (Fz b) = _ from read_nz (decide (b < 0)) hn0 (by omega)]
    rfl
  · have := Far.near (neg := s ^^ decide (b < 0)) (m := m * (b.natAbs * 2 ^ (52 - b.natAbs.log2))) (p := p + -((52 - b.natAbs.log2 : Nat) : Int)) (lo := lo) (hi := hi + 21) (Nat.mul_ne_zero hm hB) (by omega) (by omega) (by omega) (by omega)
    rw [show hi + 22 = hi + 21 + 1 by omega]
    exact this

theorem shl_log2 {m : Nat} (h : m ≠ 0) (k : Nat) : (m <<< k).log2 = m.log2 + k := by rw [Nat.shiftLeft_eq]; exact log2_shift h k

/-- A great number and a small one. -/
theorem Far.sum {x y : Nat} {s : Bool} {lo hi : Int} (h : Far x s lo hi) (hy : Near y) (h0 : 30 ≤ lo) (h1 : hi ≤ 900) :
    (∃ z, Ieee.double.add x y = some z ∧ Far z s (lo - 1) (hi + 2)) ∧ (∃ z, Ieee.double.sub x y = some z ∧ Far z s (lo - 1) (hi + 2)) ∧ (∃ z, Ieee.double.add y x = some z ∧ Far z s (lo - 1) (hi + 2)) := by
  obtain ⟨hx, m, p, hr, hm, l1, l2⟩ := h
  obtain ⟨t, n, q, hq, hn⟩ := hy
  obtain ⟨A, hA⟩ : ∃ A, A = m <<< (p - min p q).toNat := ⟨_, rfl⟩
  obtain ⟨B, hB⟩ : ∃ B, B = n <<< (q - min p q).toNat := ⟨_, rfl⟩
  have lA : A.log2 = m.log2 + (p - min p q).toNat := by rw [hA]; exact shl_log2 hm _
  have hA0 : A ≠ 0 := by rw [hA, Nat.shiftLeft_eq]; exact Nat.mul_ne_zero hm (Nat.ne_of_gt (Nat.two_pow_pos _))
  have hBA : 2 * B ≤ 2 ^ A.log2 := by
    by_cases hn0 : n = 0
    · subst hn0; rw [hB, Nat.zero_shiftLeft]; exact Nat.zero_le _
    · have hn1 := hn.resolve_left hn0
      have lB : B.log2 = n.log2 + (q - min p q).toNat := by rw [hB]; exact shl_log2 hn0 _
      have : B < 2 ^ (B.log2 + 1) := Nat.lt_log2_self
      have e : 2 ^ (B.log2 + 2) ≤ 2 ^ A.log2 := Nat.pow_le_pow_right (by omega) (by omega)
      rw [Nat.pow_succ] at e
      omega
  have a1 := Nat.log2_self_le hA0
  have a2 := @Nat.lt_log2_self A
  have key : ∀ t' : Bool, ∃ M, M ≠ 0 ∧ Ieee.signed s m (p - min p q).toNat + Ieee.signed t' n (q - min p q).toNat = sg s M ∧ A.log2 ≤ M.log2 + 1 ∧ M.log2 ≤ A.log2 + 1 := by
    intro t'
    have hp1 : (2 : Nat) ^ (A.log2 + 1) = 2 * 2 ^ A.log2 := by rw [Nat.pow_succ]; omega
    have hp2 : (2 : Nat) ^ (A.log2 + 2) = 4 * 2 ^ A.log2 := by rw [Nat.pow_succ, hp1]; omega
    have hpos := Nat.two_pow_pos A.log2
    have fin : ∀ M : Nat, 2 ^ A.log2 ≤ 2 * M → M < 2 ^ (A.log2 + 2) → M ≠ 0 ∧ A.log2 ≤ M.log2 + 1 ∧ M.log2 ≤ A.log2 + 1 := fun M u1 u2 => by
      have hM : M ≠ 0 := by omega
      refine ⟨hM, ?_, ?_⟩
      · by_cases hz : A.log2 = 0
        · omega
        · have e : (2 : Nat) ^ (A.log2 - 1 + 1) = 2 * 2 ^ (A.log2 - 1) := by rw [Nat.pow_succ, Nat.mul_comm]
          rw [show A.log2 - 1 + 1 = A.log2 by omega] at e
          have : A.log2 - 1 ≤ M.log2 := (Nat.le_log2 hM).2 (by omega)
          omega
      · have : M.log2 < A.log2 + 2 := (Nat.log2_lt hM).2 u2
        omega
    unfold Ieee.signed sg
    rw [← hA, ← hB]
    cases s <;> cases t'
    · obtain ⟨f1, f2, f3⟩ := fin (A + B) (by omega) (by omega)
      exact ⟨A + B, f1, by simp, f2, f3⟩
    · obtain ⟨f1, f2, f3⟩ := fin (A - B) (by omega) (by omega)
      exact ⟨A - B, f1, by simp; omega, f2, f3⟩
    · obtain ⟨f1, f2, f3⟩ := fin (A - B) (by omega) (by omega)
      exact ⟨A - B, f1, by simp; omega, f2, f3⟩
    · obtain ⟨f1, f2, f3⟩ := fin (A + B) (by omega) (by omega)
      exact ⟨A + B, f1, by simp; omega, f2, f3⟩
  have done : ∀ (M : Nat) (c : Bool), M ≠ 0 → A.log2 ≤ M.log2 + 1 → M.log2 ≤ A.log2 + 1 → Far (Ieee.double.write (.number (if sg s M = 0 then c else decide (sg s M < 0)) (sg s M).natAbs (min p q))) s (lo - 1) (hi + 2) := by
    intro M c hM u1 u2
    have e1 : (sg s M).natAbs = M := by unfold sg; split <;> omega
    have e2 : (if sg s M = 0 then c else decide (sg s M < 0)) = s := by
      unfold sg
      cases s
      · simp only [Bool.false_eq_true, if_false]; rw [if_neg (by omega)]; simp
      · simp only [if_true]; rw [if_neg (by omega)]; simp; try omega
    rw [e1, e2]
    have := Far.near (neg := s) (m := M) (p := min p q) (lo := lo - 1) (hi := hi + 1) hM (by omega) (by omega) (by omega) (by omega)
    rw [show hi + 2 = hi + 1 + 1 by omega]
    exact this
  refine ⟨?_, ?_, ?_⟩
  · obtain ⟨M, hM, e, u1, u2⟩ := key t
    refine ⟨_, ?_, done M (s && t) hM u1 u2⟩
    unfold Ieee.Format.add
    rw [hr, hq]
    simp only [Ieee.Datum.sum, Option.map_some, e]
  · obtain ⟨M, hM, e, u1, u2⟩ := key (!t)
    refine ⟨_, ?_, done M (s && !t) hM u1 u2⟩
    unfold Ieee.Format.sub
    rw [hr, hq]
    simp only [Ieee.Datum.opposite, Ieee.Datum.sum, Option.map_some, e]
  · obtain ⟨M, hM, e, u1, u2⟩ := key t
    refine ⟨_, ?_, done M (t && s) hM u1 u2⟩
    unfold Ieee.Format.add
    rw [hr, hq]
    rw [Int.min_comm] at e
    simp only [Ieee.Datum.sum, Option.map_some, Int.min_comm q p]
    rw [Int.min_comm] at e
    rw [Int.add_comm, e]

theorem Far.int {c : Int} (h1 : 2 ^ 38 ≤ c.natAbs) (h2 : c.natAbs < 2 ^ 64) : Far (floatOfInt .f64 c) (decide (c < 0)) 38 64 := by
  have hc : c.natAbs ≠ 0 := by have := Nat.two_pow_pos 38; omega
  have l1 : 38 ≤ c.natAbs.log2 := (Nat.le_log2 hc).2 h1
  have l2 : c.natAbs.log2 < 64 := (Nat.log2_lt hc).2 h2
  have := Far.near (neg := decide (c < 0)) (m := c.natAbs) (p := 0) (lo := 38) (hi := 63) hc (by omega) (by omega) (by omega) (by omega)
  exact this

/-- Its sign taken out. -/
theorem Far.abs {x : Nat} {s : Bool} {lo hi : Int} (h : Far x s lo hi) : Far (x % 2 ^ 63) false lo hi := by
  obtain ⟨hx, m, p, hr, hm, l1, l2⟩ := h
  have hlt : x % 2 ^ 63 < 2 ^ 63 := Nat.mod_lt _ (Nat.two_pow_pos 63)
  refine ⟨by omega, m, p, ?_, hm, l1, l2⟩
  have hs : Ieee.double.signWeight = 2 ^ 63 := rfl
  have e1 : (x % 2 ^ 63 / Ieee.double.signWeight % 2 == 1) = false := by rw [hs, Nat.div_eq_of_lt hlt]; rfl
  have e2 : x % 2 ^ 63 % Ieee.double.signWeight = x % Ieee.double.signWeight := by rw [hs, Nat.mod_mod]
  unfold Ieee.Format.read at hr ⊢
  simp only [e1, e2]
  simp only at hr
  split at hr
  · rename_i c; rw [if_pos c]; injection hr with r1 r2 r3; rw [r2, r3]
  · rename_i c; rw [if_neg c]
    split at hr
    · rename_i c2; rw [if_pos c2]; injection hr with r1 r2 r3; rw [r2, r3]
    · split at hr <;> cases hr

/-- It is greater than a small one. -/
theorem Far.gt {x y : Nat} {lo hi : Int} (h : Far x false lo hi) (hy : Near y) (h0 : 30 ≤ lo) : Ieee.double.order x y = some .gt := by
  obtain ⟨hx, m, p, hr, hm, l1, l2⟩ := h
  obtain ⟨t, n, q, hq, hn⟩ := hy
  unfold Ieee.Format.order
  rw [hr, hq]
  simp only [Ieee.Datum.order, Ieee.signed]
  have hlt : n <<< (q - min p q).toNat < m <<< (p - min p q).toNat := by
    have hA0 : m <<< (p - min p q).toNat ≠ 0 := by rw [Nat.shiftLeft_eq]; exact Nat.mul_ne_zero hm (Nat.ne_of_gt (Nat.two_pow_pos _))
    have lA := shl_log2 hm (p - min p q).toNat
    by_cases hn0 : n = 0
    · subst hn0; rw [Nat.zero_shiftLeft]; exact Nat.pos_of_ne_zero hA0
    · have hn1 := hn.resolve_left hn0
      have lB := shl_log2 hn0 (q - min p q).toNat
      refine Nat.lt_of_lt_of_le (@Nat.lt_log2_self _) (Nat.le_trans (Nat.pow_le_pow_right (by omega) ?_) (Nat.log2_self_le hA0))
      rw [lA, lB]
      clear lA lB hA0
      omega
  generalize n <<< (q - min p q).toNat = B at *
  generalize m <<< (p - min p q).toNat = A at *
  have hs : (if t then -(B : Int) else B) < (if false then -(A : Int) else A) := by
    cases t <;> simp <;> omega
  congr 1
  simp only [compare, compareOfLessAndEq]
  rw [if_neg (by omega), if_neg (by omega)]
end Go.Proofs.Ytikecpgdacphjaa
