/- Whole numbers as floating point, further: whatever signs; a number times the point 1-Si; numbers too great to be told exactly. No program is named here. -/
import Derived.Test.YtiejnochddjlmaaFl
import Derived.Test.YtiejnochddjlmaaFl2
import Derived.Test.YtiejnochddjlmaaFl3
import Derived.Laws.FloatArith
import Derived.Laws.ComplexArith
namespace Go.Proofs.Ytiejnochddjlmaa
open Go.RowKit

/-- A sign and a whole number. -/
def sg (neg : Bool) (m : Nat) : Int := if neg then -(m : Int) else m
/-- The word of a sign and a whole number (nought has two). -/
def Wd (neg : Bool) (m : Nat) : Nat := Ieee.double.word neg (rung m)
theorem Fz_Wd (z : Int) : Fz z = Wd (decide (z < 0)) z.natAbs := rfl

theorem signed_sg (neg : Bool) (m i K : Nat) (h : i ≤ K) : Ieee.signed neg (m * 2 ^ i) ((-(i : Int)) - (-(K : Int))).toNat = sg neg m * (2 ^ K : Nat) := by
  have e : ((-(i : Int)) - (-(K : Int))).toNat = K - i := by omega
  have e2 : (m * 2 ^ i) <<< (K - i) = m * 2 ^ K := by rw [Nat.shiftLeft_eq, Nat.mul_assoc, ← Nat.pow_add]; congr 2; omega
  unfold Ieee.signed sg
  rw [e, e2]
  cases neg
  · simp
  · simp [Int.neg_mul]

theorem add_Wd {n1 n2 : Bool} {m1 m2 : Nat} (h1 : m1 < 2 ^ 53) (h2 : m2 < 2 ^ 53) {t : Int} (ht : sg n1 m1 + sg n2 m2 = t) (hc : t.natAbs < 2 ^ 53) (h0 : t = 0 → (n1 && n2) = false) : Ieee.double.add (Wd n1 m1) (Wd n2 m2) = some (Fz t) := by
  obtain ⟨i, hi⟩ := read_of n1 m1 h1
  obtain ⟨j, hj⟩ := read_of n2 m2 h2
  unfold Ieee.Format.add Wd
  rw [hi, hj]
  simp only [Ieee.Datum.sum, neg_min, Option.map_some]
  rw [signed_sg n1 m1 i _ (Nat.le_max_left i j), signed_sg n2 m2 j _ (Nat.le_max_right i j), ← Int.add_mul, ht]
  rw [write_total _ h0 hc]

theorem sub_Wd {n1 n2 : Bool} {m1 m2 : Nat} (h1 : m1 < 2 ^ 53) (h2 : m2 < 2 ^ 53) {t : Int} (ht : sg n1 m1 + sg (!n2) m2 = t) (hc : t.natAbs < 2 ^ 53) (h0 : t = 0 → (n1 && !n2) = false) : Ieee.double.sub (Wd n1 m1) (Wd n2 m2) = some (Fz t) := by
  obtain ⟨i, hi⟩ := read_of n1 m1 h1
  obtain ⟨j, hj⟩ := read_of n2 m2 h2
  unfold Ieee.Format.sub Wd
  rw [hi, hj]
  simp only [Ieee.Datum.opposite, Ieee.Datum.sum, neg_min, Option.map_some]
  rw [signed_sg n1 m1 i _ (Nat.le_max_left i j), signed_sg (!n2) m2 j _ (Nat.le_max_right i j), ← Int.add_mul, ht]
  rw [write_total _ h0 hc]

theorem mul_Wd {n1 n2 : Bool} {m1 m2 : Nat} (h1 : m1 < 2 ^ 53) (h2 : m2 < 2 ^ 53) (hc : m1 * m2 < 2 ^ 53) : Ieee.double.mul (Wd n1 m1) (Wd n2 m2) = some (Wd (n1 ^^ n2) (m1 * m2)) := by
  obtain ⟨i, hi⟩ := read_of n1 m1 h1
  obtain ⟨j, hj⟩ := read_of n2 m2 h2
  unfold Ieee.Format.mul Wd
  rw [hi, hj]
  simp only [Ieee.Datum.product, Option.map_some, Ieee.Format.write]
  rw [show (m1 * 2 ^ i) * (m2 * 2 ^ j) = (m1 * m2) * 2 ^ (i + j) by rw [Nat.pow_add, Nat.mul_mul_mul_comm], show -(i : Int) + -(j : Int) = -((i + j : Nat) : Int) by omega, nearest_of _ _ _ hc]

set_option maxRecDepth 100000 in
/-- So many times 1-Si. -/
theorem times_Fz {q S : Int} (hq : q.natAbs < 2 ^ 40) (h0 : 0 < S) (h1 : S < 2 ^ 13) : cMulBits (Fz q) (Fz 0) (Fz 1) (Fz (-S)) = some (Fz q, Fz (-(q * S))) := by
  have hp : q.natAbs * S.natAbs < 2 ^ 53 := by
    calc q.natAbs * S.natAbs ≤ q.natAbs * 2 ^ 13 := Nat.mul_le_mul_left _ (by omega)
      _ < 2 ^ 40 * 2 ^ 13 := Nat.mul_lt_mul_of_pos_right hq (by omega)
      _ = 2 ^ 53 := by decide
  have hpi : (-(q * S)).natAbs = q.natAbs * S.natAbs := by rw [Int.natAbs_neg, Int.natAbs_mul]
  have s1 : decide (-S < 0) = true := by simp; omega
  have m1 : floatBits .mul .f64 (Fz q) (Fz 1) = some (Wd (decide (q < 0)) q.natAbs) := by
    have := mul_Wd (n1 := decide (q < 0)) (n2 := false) (m1 := q.natAbs) (m2 := 1) (by omega) (by decide) (by omega)
    rw [Nat.mul_one, Bool.xor_false] at this; exact this
  have m2 : floatBits .mul .f64 (Fz 0) (Fz (-S)) = some (Wd true 0) := by
    have := mul_Wd (n1 := false) (n2 := true) (m1 := 0) (m2 := (-S).natAbs) (by decide) (by omega) (by rw [Nat.zero_mul]; decide)
    rw [Nat.zero_mul, Bool.false_xor] at this
    rw [Fz_Wd (-S), s1]; exact this
  have m3 : floatBits .sub .f64 (Wd (decide (q < 0)) q.natAbs) (Wd true 0) = some (Fz q) := by
    refine sub_Wd (by omega) (by decide) ?_ (by omega) ?_
    · unfold sg
      by_cases hn : q < 0
      · simp only [hn, decide_true, if_true, Bool.not_true, Bool.false_eq_true, if_false]; omega
      · simp only [hn, decide_false, Bool.false_eq_true, if_false, Bool.not_true]; omega
    · intro _; simp
  have m4 : floatBits .mul .f64 (Fz q) (Fz (-S)) = some (Wd (decide (q < 0) ^^ true) (q.natAbs * S.natAbs)) := by
    rw [Fz_Wd q, Fz_Wd (-S), s1, Int.natAbs_neg]
    exact mul_Wd (by omega) (by omega) hp
  have m5 : floatBits .mul .f64 (Fz 0) (Fz 1) = some (Wd false 0) := by
    have := mul_Wd (n1 := false) (n2 := false) (m1 := 0) (m2 := 1) (by decide) (by decide) (by decide)
    exact this
  have m6 : floatBits .add .f64 (Wd (decide (q < 0) ^^ true) (q.natAbs * S.natAbs)) (Wd false 0) = some (Fz (-(q * S))) := by
    refine add_Wd hp (by decide) ?_ (by rw [hpi]; exact hp) ?_
    · unfold sg
      by_cases hn : q < 0
      · have e : (((q.natAbs * S.natAbs : Nat)) : Int) = -(q * S) := by
          rw [Int.natCast_mul, show ((q.natAbs : Nat) : Int) = -q by omega, show ((S.natAbs : Nat) : Int) = S by omega, Int.neg_mul]
        simp only [hn, decide_true, Bool.xor_true, Bool.not_true, Bool.false_eq_true, if_false]
        rw [e]; omega
      · have e : (((q.natAbs * S.natAbs : Nat)) : Int) = q * S := by
          rw [Int.natCast_mul, show ((q.natAbs : Nat) : Int) = q by omega, show ((S.natAbs : Nat) : Int) = S by omega]
        simp only [hn, decide_false, Bool.xor_true, Bool.not_false, if_true, Bool.false_eq_true, if_false]
        rw [e]; omega
    · intro _; simp
  unfold cMulBits
  simp only [m1, m2, m3, m4, m5, m6, Option.bind_some]

/-! Numbers too great to be told exactly: their sign and about how great. -/

/-- x stands for a number of this sign, from 1<<lo to 1<<(hi+1). -/
def Far (x : Nat) (neg : Bool) (lo hi : Int) : Prop := x < 2 ^ 64 ∧ ∃ (m : Nat) (p : Int), Ieee.double.read x = .number neg m p ∧ m ≠ 0 ∧ lo ≤ p + m.log2 ∧ p + m.log2 ≤ hi
/-- y stands for a number below 1<<21, of whatever sign. -/
def Near (y : Nat) : Prop := ∃ (t : Bool) (n : Nat) (q : Int), Ieee.double.read y = .number t n q ∧ (n = 0 ∨ q + n.log2 ≤ 20)

set_option maxRecDepth 100000 in
theorem Far.near {neg : Bool} {m : Nat} {p lo hi : Int} (hm : m ≠ 0) (h0 : -1000 ≤ lo) (h1 : lo ≤ p + m.log2) (h2 : p + m.log2 ≤ hi) (h3 : hi ≤ 1000) : Far (Ieee.double.nearest neg m p) neg lo (hi + 1) := by
  obtain ⟨K, k1, k2, -, -, k5, k6⟩ := near_read neg (p := p) hm (by omega) (by omega)
  refine ⟨k5, _, _, k6, ?_, ?_⟩
  · have : (0 : Nat) < 2 ^ 52 := Nat.two_pow_pos 52
    split <;> omega
  · by_cases hk : K < 2 ^ 53
    · simp only [if_pos hk]; rw [log2_of k1 hk]; omega
    · simp only [if_neg hk]; rw [log2_of (Nat.le_refl (2 ^ 52)) (by decide)]; omega

theorem near_Fz {z : Int} (h : z.natAbs < 2 ^ 20) : Near (Fz z) := by
  have p20 : (2 : Nat) ^ 20 < 2 ^ 53 := by decide
  by_cases h0 : z.natAbs = 0
  · have e : z = 0 := by omega
    subst e
    exact ⟨false, 0, -1074, by decide, .inl rfl⟩
  · have hl : z.natAbs.log2 < 20 := (Nat.log2_lt h0).2 h
    refine ⟨_, _, _, read_nz (decide (z < 0)) h0 (by omega), .inr ?_⟩
    have hk := kept_bounds (m := z.natAbs) h0 (by omega)
    rw [log2_of hk.1 hk.2]
    omega
theorem near_neg0 : Near (Wd true 0) := ⟨true, 0, -1074, by decide, .inl rfl⟩

theorem log2_mul {m n : Nat} (hm : m ≠ 0) (hn : n ≠ 0) : m.log2 + n.log2 ≤ (m * n).log2 ∧ (m * n).log2 ≤ m.log2 + n.log2 + 1 := by
  have h1 := Nat.log2_self_le hm
  have h2 := @Nat.lt_log2_self m
  have h3 := Nat.log2_self_le hn
  have h4 := @Nat.lt_log2_self n
  have hmn : m * n ≠ 0 := Nat.mul_ne_zero hm hn
  constructor
  · exact (Nat.le_log2 hmn).2 (by rw [Nat.pow_add]; exact Nat.mul_le_mul h1 h3)
  · have : (m * n).log2 < m.log2 + n.log2 + 2 := (Nat.log2_lt hmn).2 (by
      rw [show m.log2 + n.log2 + 2 = (m.log2 + 1) + (n.log2 + 1) by omega, Nat.pow_add]
      exact Nat.mul_lt_mul_of_lt_of_lt h2 h4)
    omega

theorem Far.mul {x : Nat} {s : Bool} {lo hi : Int} (h : Far x s lo hi) {b : Int} (hb0 : b ≠ 0) (hb : b.natAbs < 2 ^ 20) (h0 : -900 ≤ lo) (h1 : hi ≤ 900) : ∃ z, Ieee.double.mul x (Fz b) = some z ∧ Far z (s ^^ decide (b < 0)) lo (hi + 22) := by
  have p20 : (2 : Nat) ^ 20 < 2 ^ 53 := by decide
  obtain ⟨hx, m, p, hr, hm, l1, l2⟩ := h
  have hn0 : b.natAbs ≠ 0 := by omega
  have hl : b.natAbs.log2 < 20 := (Nat.log2_lt hn0).2 hb
  have hk := kept_bounds (m := b.natAbs) hn0 (by omega)
  have hB : b.natAbs * 2 ^ (52 - b.natAbs.log2) ≠ 0 := by have := hk.1; have : (0 : Nat) < 2 ^ 52 := Nat.two_pow_pos 52; omega
  have hg := log2_mul hm hB
  rw [log2_of hk.1 hk.2] at hg
  refine ⟨Ieee.double.nearest (s ^^ decide (b < 0)) (m * (b.natAbs * 2 ^ (52 - b.natAbs.log2))) (p + -((52 - b.natAbs.log2 : Nat) : Int)), ?_, ?_⟩
  · unfold Ieee.Format.mul
    rw [hr, show Ieee.double.read (Fz b) = _ from read_nz (decide (b < 0)) hn0 (by omega)]
    rfl
  · have := Far.near (neg := s ^^ decide (b < 0)) (m := m * (b.natAbs * 2 ^ (52 - b.natAbs.log2))) (p := p + -((52 - b.natAbs.log2 : Nat) : Int)) (lo := lo) (hi := hi + 21) (Nat.mul_ne_zero hm hB) (by omega) (by omega) (by omega) (by omega)
    rw [show hi + 22 = hi + 21 + 1 by omega]
    exact this

theorem shl_log2 {m : Nat} (h : m ≠ 0) (k : Nat) : (m <<< k).log2 = m.log2 + k := by rw [Nat.shiftLeft_eq]; exact log2_shift h k

/-- A great number and a small one. -/
theorem Far.sum {x y : Nat} {s : Bool} {lo hi : Int} (h : Far x s lo hi) (hy : Near y) (h0 : 30 ≤ lo) (h1 : hi ≤ 900) :
    (∃ z, Ieee.double.add x y = some z ∧ Far z s (lo - 1) (hi + 2)) ∧ (∃ z, Ieee.double.sub x y = some z ∧ Far z s (lo - 1) (hi + 2)) ∧ (∃ z, Ieee.double.add y x = some z ∧ Far z s (lo - 1) (hi + 2)) := by
  obtain ⟨hx, m, p, hr, hm, l1, l2⟩ := h
  obtain ⟨t, n, q, hq, hn⟩ := hy
  obtain ⟨A, hA⟩ : ∃ A, A = m <<< (p - min p q).toNat := ⟨_, rfl⟩
  obtain ⟨B, hB⟩ : ∃ B, B = n <<< (q - min p q).toNat := ⟨_, rfl⟩
  have lA : A.log2 = m.log2 + (p - min p q).toNat := by rw [hA]; exact shl_log2 hm _
  have hA0 : A ≠ 0 := by rw [hA, Nat.shiftLeft_eq]; exact Nat.mul_ne_zero hm (Nat.ne_of_gt (Nat.two_pow_pos _))
  have hBA : 2 * B ≤ 2 ^ A.log2 := by
    by_cases hn0 : n = 0
    · subst hn0; rw [hB, Nat.zero_shiftLeft]; exact Nat.zero_le _
    · have hn1 := hn.resolve_left hn0
      have lB : B.log2 = n.log2 + (q - min p q).toNat := by rw [hB]; exact shl_log2 hn0 _
      have : B < 2 ^ (B.log2 + 1) := Nat.lt_log2_self
      have e : 2 ^ (B.log2 + 2) ≤ 2 ^ A.log2 := Nat.pow_le_pow_right (by omega) (by omega)
      rw [Nat.pow_succ] at e
      omega
  have a1 := Nat.log2_self_le hA0
  have a2 := @Nat.lt_log2_self A
  have key : ∀ t' : Bool, ∃ M, M ≠ 0 ∧ Ieee.signed s m (p - min p q).toNat + Ieee.signed t' n (q - min p q).toNat = sg s M ∧ A.log2 ≤ M.log2 + 1 ∧ M.log2 ≤ A.log2 + 1 := by
    intro t'
    have hp1 : (2 : Nat) ^ (A.log2 + 1) = 2 * 2 ^ A.log2 := by rw [Nat.pow_succ]; omega
    have hp2 : (2 : Nat) ^ (A.log2 + 2) = 4 * 2 ^ A.log2 := by rw [Nat.pow_succ, hp1]; omega
    have hpos := Nat.two_pow_pos A.log2
    have fin : ∀ M : Nat, 2 ^ A.log2 ≤ 2 * M → M < 2 ^ (A.log2 + 2) → M ≠ 0 ∧ A.log2 ≤ M.log2 + 1 ∧ M.log2 ≤ A.log2 + 1 := fun M u1 u2 => by
      have hM : M ≠ 0 := by omega
      refine ⟨hM, ?_, ?_⟩
      · by_cases hz : A.log2 = 0
        · omega
        · have e : (2 : Nat) ^ (A.log2 - 1 + 1) = 2 * 2 ^ (A.log2 - 1) := by rw [Nat.pow_succ, Nat.mul_comm]
          rw [show A.log2 - 1 + 1 = A.log2 by omega] at e
          have : A.log2 - 1 ≤ M.log2 := (Nat.le_log2 hM).2 (by omega)
          omega
      · have : M.log2 < A.log2 + 2 := (Nat.log2_lt hM).2 u2
        omega
    unfold Ieee.signed sg
    rw [← hA, ← hB]
    cases s <;> cases t'
    · obtain ⟨f1, f2, f3⟩ := fin (A + B) (by omega) (by omega)
      exact ⟨A + B, f1, by simp, f2, f3⟩
    · obtain ⟨f1, f2, f3⟩ := fin (A - B) (by omega) (by omega)
      exact ⟨A - B, f1, by simp; omega, f2, f3⟩
    · obtain ⟨f1, f2, f3⟩ := fin (A - B) (by omega) (by omega)
      exact ⟨A - B, f1, by simp; omega, f2, f3⟩
    · obtain ⟨f1, f2, f3⟩ := fin (A + B) (by omega) (by omega)
      exact ⟨A + B, f1, by simp; omega, f2, f3⟩
  have done : ∀ (M : Nat) (c : Bool), M ≠ 0 → A.log2 ≤ M.log2 + 1 → M.log2 ≤ A.log2 + 1 → Far (Ieee.double.write (.number (if sg s M = 0 then c else decide (sg s M < 0)) (sg s M).natAbs (min p q))) s (lo - 1) (hi + 2) := by
    intro M c hM u1 u2
    have e1 : (sg s M).natAbs = M := by unfold sg; split <;> omega
    have e2 : (if sg s M = 0 then c else decide (sg s M < 0)) = s := by
      unfold sg
      cases s
      · simp only [Bool.false_eq_true, if_false]; rw [if_neg (by omega)]; simp
      · simp only [if_true]; rw [if_neg (by omega)]; simp; try omega
    rw [e1, e2]
    have := Far.near (neg := s) (m := M) (p := min p q) (lo := lo - 1) (hi := hi + 1) hM (by omega) (by omega) (by omega) (by omega)
    rw [show hi + 2 = hi + 1 + 1 by omega]
    exact this
  refine ⟨?_, ?_, ?_⟩
  · obtain ⟨M, hM, e, u1, u2⟩ := key t
    refine ⟨_, ?_, done M (s && t) hM u1 u2⟩
    unfold Ieee.Format.add
    rw [hr, hq]
    simp only [Ieee.Datum.sum, Option.map_some, e]
  · obtain ⟨M, hM, e, u1, u2⟩ := key (!t)
    refine ⟨_, ?_, done M (s && !t) hM u1 u2⟩
    unfold Ieee.Format.sub
    rw [hr, hq]
    simp only [Ieee.Datum.opposite, Ieee.Datum.sum, Option.map_some, e]
  · obtain ⟨M, hM, e, u1, u2⟩ := key t
    refine ⟨_, ?_, done M (t && s) hM u1 u2⟩
    unfold Ieee.Format.add
    rw [hr, hq]
    rw [Int.min_comm] at e
    simp only [Ieee.Datum.sum, Option.map_some, Int.min_comm q p]
    rw [Int.min_comm] at e
    rw [Int.add_comm, e]

theorem Far.int {c : Int} (h1 : 2 ^ 38 ≤ c.natAbs) (h2 : c.natAbs < 2 ^ 64) : Far (floatOfInt .f64 c) (decide (c < 0)) 38 64 := by
  have hc : c.natAbs ≠ 0 := by have := Nat.two_pow_pos 38; omega
  have l1 : 38 ≤ c.natAbs.log2 := (Nat.le_log2 hc).2 h1
  have l2 : c.natAbs.log2 < 64 := (Nat.log2_lt hc).2 h2
  have := Far.near (neg := decide (c < 0)) (m := c.natAbs) (p := 0) (lo := 38) (hi := 63) hc (by omega) (by omega) (by omega) (by omega)
  exact this

/-- Its sign taken out. -/
theorem Far.abs {x : Nat} {s : Bool} {lo hi : Int} (h : Far x s lo hi) : Far (x % 2 ^ 63) false lo hi := by
  obtain ⟨hx, m, p, hr, hm, l1, l2⟩ := h
  have hlt : x % 2 ^ 63 < 2 ^ 63 := Nat.mod_lt _ (Nat.two_pow_pos 63)
  refine ⟨by omega, m, p, ?_, hm, l1, l2⟩
  have hs : Ieee.double.signWeight = 2 ^ 63 := rfl
  have e1 : (x % 2 ^ 63 / Ieee.double.signWeight % 2 == 1) = false := by rw [hs, Nat.div_eq_of_lt hlt]; rfl
  have e2 : x % 2 ^ 63 % Ieee.double.signWeight = x % Ieee.double.signWeight := by rw [hs, Nat.mod_mod]
  unfold Ieee.Format.read at hr ⊢
  simp only [e1, e2]
  simp only at hr
  split at hr
  · rename_i c; rw [if_pos c]; injection hr with r1 r2 r3; rw [r2, r3]
  · rename_i c; rw [if_neg c]
    split at hr
    · rename_i c2; rw [if_pos c2]; injection hr with r1 r2 r3; rw [r2, r3]
    · split at hr <;> cases hr

/-- It is greater than a small one. -/
theorem Far.gt {x y : Nat} {lo hi : Int} (h : Far x false lo hi) (hy : Near y) (h0 : 30 ≤ lo) : Ieee.double.order x y = some .gt := by
  obtain ⟨hx, m, p, hr, hm, l1, l2⟩ := h
  obtain ⟨t, n, q, hq, hn⟩ := hy
  unfold Ieee.Format.order
  rw [hr, hq]
  simp only [Ieee.Datum.order, Ieee.signed]
  have hlt : n <<< (q - min p q).toNat < m <<< (p - min p q).toNat := by
    have hA0 : m <<< (p - min p q).toNat ≠ 0 := by rw [Nat.shiftLeft_eq]; exact Nat.mul_ne_zero hm (Nat.ne_of_gt (Nat.two_pow_pos _))
    have lA := shl_log2 hm (p - min p q).toNat
    by_cases hn0 : n = 0
    · subst hn0; rw [Nat.zero_shiftLeft]; exact Nat.pos_of_ne_zero hA0
    · have hn1 := hn.resolve_left hn0
      have lB := shl_log2 hn0 (q - min p q).toNat
      refine Nat.lt_of_lt_of_le (@Nat.lt_log2_self _) (Nat.le_trans (Nat.pow_le_pow_right (by omega) ?_) (Nat.log2_self_le hA0))
      rw [lA, lB]
      clear lA lB hA0
      omega
  generalize n <<< (q - min p q).toNat = B at *
  generalize m <<< (p - min p q).toNat = A at *
  have hs : (if t then -(B : Int) else B) < (if false then -(A : Int) else A) := by
    cases t <;> simp <;> omega
  congr 1
  simp only [compare, compareOfLessAndEq]
  rw [if_neg (by omega), if_neg (by omega)]
end Go.Proofs.Ytiejnochddjlmaa
