/- Points of the plane by how steep they are, as data: who is the least steep is who is next; the gaps from the last one on. No program is named here. -/
import Derived.Test.YtiejnochddjlmaaSpG
import Derived.Test.YtiejnochddjlmaaFl4
import Derived.Test.YtiejnochddjlmaaFl2
namespace Go.Proofs.Ytiejnochddjlmaa
open Go.RowKit

/-- The place of the least steep of the first k, the least place of several. -/
def fiTo (P : List Pr) : Nat → Nat
  | 0 => 0
  | k + 1 => if (P.getD (fiTo P k) (0, 0)).1 * (P.getD k (0, 0)).2 < (P.getD (fiTo P k) (0, 0)).2 * (P.getD k (0, 0)).1 then k else fiTo P k
theorem fiTo_lt (P : List Pr) : ∀ k, 0 < k → fiTo P k < k
  | 0, h => by omega
  | k + 1, _ => by
    simp only [fiTo]
    split
    · omega
    · by_cases h : k = 0
      · subst h; simp [fiTo]
      · have := fiTo_lt P k (by omega); omega
theorem getD_get {α : Type} {l : List α} {i : Nat} (h : i < l.length) (d : α) : l.getD i d = l[i] := by simp [List.getD_eq_getElem?_getD, h]
/-- The domains' next quanta, as points: along twice the count, up an odd number of frames. -/
def pts (c : List Int) (F : Int) (g : List Int) : List Pr := (List.range c.length).map fun j => (2 * at0 c j, (2 * at0 g j + 1) * F)
theorem pts_length (c : List Int) (F : Int) (g : List Int) : (pts c F g).length = c.length := by simp [pts]
theorem pts_at {c : List Int} {F : Int} {g : List Int} {j : Nat} (h : j < c.length) : (pts c F g).getD j (0, 0) = (2 * at0 c j, (2 * at0 g j + 1) * F) := by
  rw [getD_get (by rw [pts_length]; exact h)]; simp [pts]
theorem pts_get {c : List Int} {F : Int} {g : List Int} {j : Nat} (h : j < (pts c F g).length) : (pts c F g)[j] = (2 * at0 c j, (2 * at0 g j + 1) * F) := by simp [pts]
theorem pts_put {c : List Int} {F : Int} {g : List Int} {b : Nat} (hg : g.length = c.length) (hb : b < c.length) : (pts c F g).set b (2 * at0 c b + 0, (2 * at0 g b + 1) * F + 2 * F) = pts c F (put1 g b) := by
  apply List.ext_getElem
  · rw [List.length_set, pts_length, pts_length]
  · intro i h1 h2
    rw [pts_get h2, List.getElem_set, put1_at (by omega)]
    by_cases e : b = i
    · subst e
      rw [if_pos rfl, if_pos rfl, Int.add_zero]
      congr 1
      rw [show 2 * (at0 g b + 1) + 1 = (2 * at0 g b + 1) + 2 by omega, Int.add_mul (2 * at0 g b + 1) 2]
    · rw [if_neg e, if_neg (fun h => e h.symm), pts_get]
theorem steep {F a b x y : Int} (h : 0 < F) : 2 * a * (b * F) < x * F * (2 * y) ↔ b * a < x * y := by
  have e1 : 2 * a * (b * F) = (2 * F) * (b * a) := by rw [Int.mul_assoc, Int.mul_comm a, Int.mul_assoc b, Int.mul_comm F a, ← Int.mul_assoc b, Int.mul_comm (b * a), ← Int.mul_assoc]
  have e2 : x * F * (2 * y) = (2 * F) * (x * y) := by rw [Int.mul_comm x F, Int.mul_assoc, ← Int.mul_assoc x 2, Int.mul_comm x 2, Int.mul_assoc 2, ← Int.mul_assoc F 2, Int.mul_comm F 2]
  rw [e1, e2]
  exact ⟨fun k => Int.lt_of_mul_lt_mul_left k (by omega), fun k => Int.mul_lt_mul_of_pos_left k (by omega)⟩
/-- What to be next says of all others, those that have had all their quanta too. -/
theorem IsBest.all {g c : List Int} {b : Nat} (h : IsBest g c c.length b) (hg : ∀ j, 0 ≤ at0 g j) (hc : ∀ j, 0 ≤ at0 c j) (hle : ∀ j, at0 g j ≤ at0 c j) : (∀ j, j < c.length → (2 * at0 g b + 1) * at0 c j ≤ (2 * at0 g j + 1) * at0 c b) ∧ ∀ j, j < b → (2 * at0 g b + 1) * at0 c j < (2 * at0 g j + 1) * at0 c b := by
  have done : ∀ j, at0 g j = at0 c j → (2 * at0 g b + 1) * at0 c j < (2 * at0 g j + 1) * at0 c b := fun j e => by
    rw [e]
    have h1 := h.has
    have h2 := hg b
    have h3 := hc j
    have e1 : (2 * at0 g b + 1) * at0 c j ≤ (2 * at0 c b) * at0 c j := Int.mul_le_mul_of_nonneg_right (by omega) h3
    have e2 : (2 * at0 c b) * at0 c j = 2 * at0 c j * at0 c b := by rw [Int.mul_assoc, Int.mul_comm (at0 c b), ← Int.mul_assoc]
    have e3 : (2 * at0 c j + 1) * at0 c b = 2 * at0 c j * at0 c b + at0 c b := by rw [Int.add_mul, Int.one_mul]
    omega
  constructor
  · intro j hj
    by_cases e : at0 g j < at0 c j
    · exact h.le j hj e
    · have := hle j; exact Int.le_of_lt (done j (by omega))
  · intro j hj
    by_cases e : at0 g j < at0 c j
    · exact h.first j hj e
    · have := hle j; exact done j (by omega)
theorem fi_best {g c : List Int} {b : Nat} {F : Int} (hF : 0 < F) (hb : b < c.length) (h1 : ∀ j, j < c.length → (2 * at0 g b + 1) * at0 c j ≤ (2 * at0 g j + 1) * at0 c b) (h2 : ∀ j, j < b → (2 * at0 g b + 1) * at0 c j < (2 * at0 g j + 1) * at0 c b) : ∀ k, b < k → k ≤ c.length → fiTo (pts c F g) k = b
  | 0, h, _ => by omega
  | k + 1, h, hk => by
    simp only [fiTo]
    by_cases e : b = k
    · subst e
      by_cases h0 : b = 0
      · subst h0
        simp only [fiTo]
        exact ite_self _
      · have hl := fiTo_lt (pts c F g) b (by omega)
        rw [pts_at hb, pts_at (by omega), if_pos]
        show 2 * at0 c _ * ((2 * at0 g b + 1) * F) < (2 * at0 g _ + 1) * F * (2 * at0 c b)
        exact (steep hF).2 (h2 _ hl)
    · rw [fi_best hF hb h1 h2 k (by omega) (by omega), pts_at hb, pts_at (by omega), if_neg]
      show ¬ 2 * at0 c b * ((2 * at0 g k + 1) * F) < (2 * at0 g b + 1) * F * (2 * at0 c k)
      rw [steep hF]
      have := h1 k (by omega)
      omega

/-- One point turned back by the angle of another. -/
theorem back_Fz {x1 y1 x2 y2 : Int} (a1 : 0 ≤ x1) (a2 : x1 < 2 ^ 20) (b1 : 0 < y1) (b2 : y1 < 2 ^ 20) (c1 : 0 ≤ x2) (c2 : x2 < 2 ^ 20) (d1 : 0 < y2) (d2 : y2 < 2 ^ 20) :
    cMulBits (Fz x2) (Fz y2) (Fz x1) (Fz (-y1)) = some (Fz (x2 * x1 + y2 * y1), Fz (y2 * x1 - x2 * y1)) := by
  have p20 : (2 : Int) ^ 20 = 1048576 := by decide
  have p40 : (2 : Nat) ^ 20 * 2 ^ 20 = 1099511627776 := by decide
  have p53 : (2 : Nat) ^ 53 = 9007199254740992 := by decide
  have n20 : (2 : Nat) ^ 20 = 1048576 := by decide
  have key : ∀ u v : Int, 0 ≤ u → u < 2 ^ 20 → 0 ≤ v → v < 2 ^ 20 → u.natAbs * v.natAbs < 1099511627776 ∧ ((u.natAbs * v.natAbs : Nat) : Int) = u * v ∧ 0 ≤ u * v := fun u v u1 u2 v1 v2 => by
    refine ⟨?_, ?_, Int.mul_nonneg u1 v1⟩
    · rw [← p40]
      exact Nat.mul_lt_mul_of_lt_of_lt (by omega) (by omega)
    · rw [Int.natCast_mul, show ((u.natAbs : Nat) : Int) = u by omega, show ((v.natAbs : Nat) : Int) = v by omega]
  obtain ⟨k1, k2, k3⟩ := key x2 x1 c1 c2 a1 a2
  obtain ⟨l1, l2, l3⟩ := key y2 y1 (by omega) d2 (by omega) b2
  obtain ⟨m1, m2, m3⟩ := key x2 y1 c1 c2 (by omega) b2
  obtain ⟨n1, n2, n3⟩ := key y2 x1 (by omega) d2 a1 a2
  have pos : 0 < y2 * y1 := Int.mul_pos d1 b1
  have sx1 : decide (x1 < 0) = false := by simp; omega
  have sx2 : decide (x2 < 0) = false := by simp; omega
  have sy2 : decide (y2 < 0) = false := by simp; omega
  have sy1 : decide (-y1 < 0) = true := by simp; omega
  have e1 : floatBits .mul .f64 (Fz x2) (Fz x1) = some (Wd false (x2.natAbs * x1.natAbs)) := by
    have := mul_Wd (n1 := decide (x2 < 0)) (n2 := decide (x1 < 0)) (m1 := x2.natAbs) (m2 := x1.natAbs) (by omega) (by omega) (by omega)
    rw [sx1, sx2] at this
    rw [Fz_Wd x1, Fz_Wd x2, sx1, sx2]; exact this
  have e2 : floatBits .mul .f64 (Fz y2) (Fz (-y1)) = some (Wd true (y2.natAbs * y1.natAbs)) := by
    have := mul_Wd (n1 := decide (y2 < 0)) (n2 := decide (-y1 < 0)) (m1 := y2.natAbs) (m2 := (-y1).natAbs) (by omega) (by omega) (by rw [Int.natAbs_neg]; omega)
    rw [sy1, sy2, Int.natAbs_neg] at this
    rw [Fz_Wd y2, Fz_Wd (-y1), sy1, sy2, Int.natAbs_neg]; exact this
  have e3 : floatBits .sub .f64 (Wd false (x2.natAbs * x1.natAbs)) (Wd true (y2.natAbs * y1.natAbs)) = some (Fz (x2 * x1 + y2 * y1)) := by
    refine sub_Wd (by omega) (by omega) ?_ (by omega) (by intro h; omega)
    simp only [sg, Bool.not_true, Bool.false_eq_true, if_false]
    rw [k2, l2]
  have e4 : floatBits .mul .f64 (Fz x2) (Fz (-y1)) = some (Wd true (x2.natAbs * y1.natAbs)) := by
    have := mul_Wd (n1 := decide (x2 < 0)) (n2 := decide (-y1 < 0)) (m1 := x2.natAbs) (m2 := (-y1).natAbs) (by omega) (by omega) (by rw [Int.natAbs_neg]; omega)
    rw [sy1, sx2, Int.natAbs_neg] at this
    rw [Fz_Wd x2, Fz_Wd (-y1), sy1, sx2, Int.natAbs_neg]; exact this
  have e5 : floatBits .mul .f64 (Fz y2) (Fz x1) = some (Wd false (y2.natAbs * x1.natAbs)) := by
    have := mul_Wd (n1 := decide (y2 < 0)) (n2 := decide (x1 < 0)) (m1 := y2.natAbs) (m2 := x1.natAbs) (by omega) (by omega) (by omega)
    rw [sx1, sy2] at this
    rw [Fz_Wd x1, Fz_Wd y2, sx1, sy2]; exact this
  have e6 : floatBits .add .f64 (Wd true (x2.natAbs * y1.natAbs)) (Wd false (y2.natAbs * x1.natAbs)) = some (Fz (y2 * x1 - x2 * y1)) := by
    refine add_Wd (by omega) (by omega) ?_ (by omega) (by intro _; simp)
    simp only [sg, if_true, Bool.false_eq_true, if_false]
    rw [m2, n2]; omega
  unfold cMulBits
  simp only [e1, e2, e3, e4, e5, e6, Option.bind_some]

/-! The gaps as they are told from the last one on. -/
def pgTo (P : List Int) (n : Int) : Nat → Int × Int
  | 0 => (n, 0)
  | k + 1 => (min (gapTo P n k).1 (gapAt P n (P.length - 1)), max (gapTo P n k).2 (gapAt P n (P.length - 1)))
/-- Where the one ahead of the k-th lies. -/
def bef (P : List Int) (n : Int) (k : Nat) : Int := if k = 0 then at0 P (P.length - 1) - n else at0 P (k - 1)
theorem pg_end {P : List Int} {n : Int} (h : 0 < P.length) : pgTo P n P.length = gapTo P n P.length := by
  obtain ⟨m, hm⟩ : ∃ m, P.length = m + 1 := ⟨P.length - 1, by omega⟩
  rw [hm]
  simp only [pgTo, gapTo]
  rw [hm, Nat.add_sub_cancel]
theorem pg_step {P : List Int} {n : Int} (h : Inc P n) {k : Nat} (hk : k < P.length) : min (pgTo P n k).1 (at0 P k - bef P n k) = (pgTo P n (k + 1)).1 ∧ max (pgTo P n k).2 (at0 P k - bef P n k) = (pgTo P n (k + 1)).2 := by
  cases k with
  | zero =>
    have hl := gapAt_last h (i := P.length - 1) (by omega)
    simp only [pgTo, gapTo, bef, if_true]
    rw [hl.1] at *
    omega
  | succ k =>
    have hm := (gapAt_mid h hk).1
    simp only [pgTo, gapTo, bef]
    rw [if_neg (by omega), Nat.add_sub_cancel, ← hm]
    omega
theorem pg_bounds {P : List Int} {n : Int} (h : Inc P n) (hn : 0 ≤ n) {k : Nat} (hk : k ≤ P.length) : 0 ≤ (pgTo P n k).1 ∧ (pgTo P n k).1 ≤ n ∧ 0 ≤ (pgTo P n k).2 ∧ (pgTo P n k).2 ≤ n := by
  cases k with
  | zero => simp only [pgTo]; omega
  | succ k =>
    have h1 := gapTo_bounds h hn k (by omega)
    have h2 := gapAt_bounds h (i := P.length - 1) (by omega)
    simp only [pgTo]
    omega
theorem bef_bounds {P : List Int} {n : Int} (h : Inc P n) {k : Nat} (hk : k < P.length) : -n ≤ bef P n k ∧ bef P n k < n := by
  have h1 := h.lo (P.length - 1) (by omega)
  have h2 := h.hi (P.length - 1) (by omega)
  unfold bef
  split
  · omega
  · have := h.lo (k - 1) (by omega)
    have := h.hi (k - 1) (by omega)
    omega
end Go.Proofs.Ytiejnochddjlmaa
