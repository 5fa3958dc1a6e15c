/- Whole numbers as floating point, further: made an integer again; less than nothing; a quarter turn; the greater of nought and a negative. No program is named here. -/
import Derived.Test.YtiejnochddjlmaaFl
import Derived.Laws.Unary
import Derived.Laws.Entries
import Derived.WideLaws
namespace Go.Proofs.Ytiejnochddjlmaa
open Go.RowKit

@[go_sem] theorem unary_neg_float (k : FloatKind) (b : Nat) : Op.unary .neg (.float k b) = pure (.float k (Op.negFloat k b)) := rfl

@[go_sem] theorem run_store_complex {P : Program} (w : World) (a : Addr) (m : Mode) (k : FloatKind) (x y : Nat) : (store a (.complex k x y) m).run P w = stored P w a (.complex k x y) m := run_store P w a _ m rfl

theorem cut_zero_noughts (neg : Bool) (n d : Nat) (h : d ≤ (n * 2 ^ d).log2 + 2) : Ieee.Toward.zero.cut neg (n * 2 ^ d) d = n := by
  have hp : 0 < 2 ^ d := Nat.two_pow_pos d
  have hg : (1 <<< min d ((n * 2 ^ d).log2 + 2)) = 2 ^ d := by rw [Nat.min_eq_left h, Nat.one_shiftLeft]
  simp only [Ieee.Toward.cut, hg, Nat.mul_div_cancel _ hp]
  simp
theorem cut_zero_nil (neg : Bool) (d : Nat) : Ieee.Toward.zero.cut neg 0 d = 0 := by
  simp [Ieee.Toward.cut]

theorem toInt_Fz {z : Int} (h : z.natAbs < 2 ^ 53) : ((FloatKind.f64.decode (Fz z)).toInt .zero) = some z := by
  obtain ⟨i, hi⟩ := read_Fz h
  have hr : FloatKind.f64.decode (Fz z) = .number (decide (z < 0)) (z.natAbs * 2 ^ i) (-(i : Int)) := hi
  rw [hr]
  have hc : Ieee.Toward.zero.cut (decide (z < 0)) (z.natAbs * 2 ^ i) i = z.natAbs := by
    by_cases h0 : z.natAbs = 0
    · rw [h0, Nat.zero_mul]; exact cut_zero_nil _ _
    · exact cut_zero_noughts _ _ _ (by rw [log2_shift h0]; omega)
  simp only [Ieee.Datum.toInt, Ieee.Datum.integral]
  rw [show (-(i : Int)).toNat = 0 by omega, show (- -(i : Int)).toNat = i by omega, Nat.shiftLeft_zero, hc]
  simp only [Ieee.signed, Nat.shiftLeft_zero]
  congr 1
  by_cases hz : z < 0
  · simp only [hz, decide_true, if_true]; omega
  · simp only [hz, decide_false, Bool.false_eq_true, if_false]; omega
set_option maxRecDepth 100000 in
theorem intVal_Fz {z : Int} (h : z.natAbs < 2 ^ 53) : floatToIntVal .f64 (Fz z) .i64 = some z := by
  unfold floatToIntVal
  rw [toInt_Fz h]
  simp only
  rw [if_pos]
  rw [show IntKind.i64.min = -9223372036854775808 from rfl, show IntKind.i64.max = 9223372036854775807 from rfl]
  omega

theorem zero_Fz : Fz 0 = 0 := by decide
set_option maxRecDepth 100000 in
/-- A quarter turn. -/
theorem quarter_Fz {a b : Int} (ha : 0 ≤ a) (hb : 0 ≤ b) (ha' : a < 2 ^ 52) (hb' : b < 2 ^ 52) : cMulBits 0 4607182418800017408 (Fz a) (Fz b) = some (Fz (-b), Fz a) := by
  rw [← one_Fz, ← zero_Fz]
  have m0 : ∀ x : Int, 0 ≤ x → x < 2 ^ 52 → floatBits .mul .f64 (Fz 0) (Fz x) = some (Fz 0) := fun x h1 h2 => by
    have := mul_Fz (a := 0) (b := x) (by omega) h1 (by decide) (by omega) (by rw [Int.zero_mul]; decide)
    rw [Int.zero_mul] at this; exact this
  have m1 : ∀ x : Int, 0 ≤ x → x < 2 ^ 52 → floatBits .mul .f64 (Fz 1) (Fz x) = some (Fz x) := fun x h1 h2 => by
    have := mul_Fz (a := 1) (b := x) (by omega) h1 (by decide) (by omega) (by rw [Int.one_mul]; omega)
    rw [Int.one_mul] at this; exact this
  have a1 : floatBits .sub .f64 (Fz 0) (Fz b) = some (Fz (0 - b)) := sub_Fz (by decide) (by omega) (by omega)
  have a2 : floatBits .add .f64 (Fz 0) (Fz a) = some (Fz (0 + a)) := add_Fz (by decide) (by omega) (by omega)
  rw [Int.zero_sub] at a1
  rw [Int.zero_add] at a2
  unfold cMulBits
  simp only [m0 a ha ha', m0 b hb hb', m1 a ha ha', m1 b hb hb', a1, a2, Option.bind_some]
theorem sum_Fz {a b c d : Int} (ha : a.natAbs < 2 ^ 51) (hb : b.natAbs < 2 ^ 51) (hc : c.natAbs < 2 ^ 51) (hd : d.natAbs < 2 ^ 51) : cSumBits .add .f64 (Fz a) (Fz b) (Fz c) (Fz d) = some (Fz (a + c), Fz (b + d)) := by
  have a1 : floatBits .add .f64 (Fz a) (Fz c) = some (Fz (a + c)) := add_Fz (by omega) (by omega) (by omega)
  have a2 : floatBits .add .f64 (Fz b) (Fz d) = some (Fz (b + d)) := add_Fz (by omega) (by omega) (by omega)
  unfold cSumBits
  simp only [a1, a2, Option.bind_some]

theorem xor_top {r : Nat} (h : r < 2 ^ 63) : r ^^^ 2 ^ 63 = 2 ^ 63 + r := by
  apply Nat.eq_of_testBit_eq
  intro j
  rw [Nat.testBit_xor, Nat.testBit_two_pow]
  rcases Nat.lt_trichotomy j 63 with hj | rfl | hj
  · rw [Nat.testBit_two_pow_add_gt hj]
    have : ¬ 63 = j := by omega
    simp [this]
  · rw [Nat.testBit_two_pow_add_eq, Nat.testBit_lt_two_pow h]; simp
  · have hp : 2 ^ 64 ≤ 2 ^ j := Nat.pow_le_pow_right (by omega) (by omega)
    have h1 : r < 2 ^ j := by
      have : (2 : Nat) ^ 63 < 2 ^ 64 := by decide
      omega
    have h2 : 2 ^ 63 + r < 2 ^ j := by
      have : (2 : Nat) ^ 63 + 2 ^ 63 = 2 ^ 64 := by decide
      omega
    rw [Nat.testBit_lt_two_pow h1, Nat.testBit_lt_two_pow h2]
    have : ¬ 63 = j := by omega
    simp [this]
theorem neg_Fz {z : Int} (h : z.natAbs < 2 ^ 53) (h0 : z ≠ 0) : Op.negFloat .f64 (Fz z) = Fz (-z) := by
  have hr := rung_lt h
  have hx := xor_top hr
  show Fz z ^^^ 2 ^ 63 = Fz (-z)
  unfold Fz Ieee.Format.word
  rw [show Ieee.double.signWeight = 2 ^ 63 from rfl, Int.natAbs_neg]
  by_cases hz : z < 0
  · have hz' : ¬ -z < 0 := by omega
    simp only [hz, hz', decide_true, decide_false, Bool.false_eq_true, if_true, if_false]
    rw [← hx, Nat.xor_assoc, Nat.xor_self, Nat.xor_zero]
  · have hz' : -z < 0 := by omega
    simp only [hz, hz', decide_true, decide_false, Bool.false_eq_true, if_true, if_false]
    exact hx
theorem neg_zero_bits : Op.negFloat .f64 (Fz 0) = 9223372036854775808 := by decide
set_option maxRecDepth 100000 in
/-- The greater of nought and what is less than nothing by d. -/
theorem run_max_neg {P : Program} {d : Int} (h : d.natAbs < 2 ^ 53) (ts : Array TypeId) (t : TypeId) (w : World) : (Builtin.max_ ts t #[.float .f64 0, .float .f64 (Op.negFloat .f64 (Fz d))]).run P w = .ok (.float .f64 (Fz (max 0 (-d)))) w := by
  by_cases h0 : d = 0
  · subst h0
    rw [neg_zero_bits]
    have ho : FloatKind.f64.format.order 0 9223372036854775808 = some .eq := by decide
    have hn : (FloatKind.f64.decode 0).neg = false := by decide
    simp [Builtin.max_, Builtin.max2, ho, hn, zero_Fz]
  · rw [neg_Fz h h0]
    have ho : FloatKind.f64.format.order (Fz 0) (Fz (-d)) = some (compare 0 (-d)) := order_Fz (by decide) (by omega)
    rw [zero_Fz] at ho
    by_cases hd : d < 0
    · have hc : compare 0 (-d) = .lt := by simp only [compare, compareOfLessAndEq]; rw [if_pos (by omega)]
      rw [hc] at ho
      have hm : max 0 (-d) = -d := by omega
      rw [hm]
      simp [Builtin.max_, Builtin.max2, ho]
    · have hc : compare 0 (-d) = .gt := by simp only [compare, compareOfLessAndEq]; rw [if_neg (by omega), if_neg (by omega)]
      rw [hc] at ho
      have hm : max 0 (-d) = 0 := by omega
      rw [hm, zero_Fz]
      simp [Builtin.max_, Builtin.max2, ho]
end Go.Proofs.Ytiejnochddjlmaa
