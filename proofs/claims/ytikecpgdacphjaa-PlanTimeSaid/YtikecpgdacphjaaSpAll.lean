/- The program's slots and gaps: whatever counts come in; of rows of whatever slots. -/
import Derived.Test.YtikecpgdacphjaaSpG
import Derived.Test.YtikecpgdacphjaaFlAll
import Derived.Test.YtikecpgdacphjaaCxq
import Derived.Test.YtikecpgdacphjaaRwL
import Derived.Test.YtikecpgdacphjaaRt
import Derived.Deep.RegionHeld3
import Derived.WalkSpells
import Derived.WalkLawsBesides
import Derived.Deep.LoopGhost
import Derived.Deep.CutRange
import Derived.Deep.CutBlock
import Derived.Laws.ComplexArith
import Derived.Laws.FloatArith
import Derived.Laws.Externs
namespace Go.Proofs.Ytikecpgdacphjaa
open Go.RowKit

/-- The place of the least steep of the first k, the least place of several. -/
def fiTo (P : List Pr) : Nat → Nat
  | 0 => 0
  | k + 1 => if (P.getD (fiTo P k) (0, 0)).1 * (P.getD k (0, 0)).2 < (P.getD (fiTo P k) (0, 0)).2 * (P.getD k (0, 0)).1 then k else fiTo P k
theorem fiTo_lt (P : List Pr) : ∀ k, 0 < k → fiTo P k < k
  | 0, h => by omega
  | k + 1, _ => by
    simp only [fiTo]
    split
    · omega
    · by_cases h : k = 0
      · subst h; simp [fiTo]
      · have := fiTo_lt P k (by omega); omega
theorem getD_get {α : Type} {l : List α} {i : Nat} (h : i < l.length) (d : α) : l.getD i d = l[i] := by simp [List.getD_eq_getElem?_getD, h]
/-- The domains' next quanta, as points: along twice the count, up an odd number of frames. -/
def pts (c : List Int) (F : Int) (g : List Int) : List Pr := (List.range c.length).map fun j => (2 * at0 c j, (2 * at0 g j + 1) * F)
theorem pts_length (c : List Int) (F : Int) (g : List Int) : (pts c F g).length = c.length := by simp [pts]
theorem pts_at {c : List Int} {F : Int} {g : List Int} {j : Nat} (h : j < c.length) : (pts c F g).getD j (0, 0) = (2 * at0 c j, (2 * at0 g j + 1) * F) := by
  rw [getD_get (by rw [pts_length]; exact h)]; simp [pts]
theorem pts_get {c : List Int} {F : Int} {g : List Int} {j : Nat} (h : j < (pts c F g).length) : (pts c F g)[j] = (2 * at0 c j, (2 * at0 g j + 1) * F) := by simp [pts]
theorem pts_put {c : List Int} {F : Int} {g : List Int} {b : Nat} (hg : g.length = c.length) (hb : b < c.length) : (pts c F g).set b (2 * at0 c b + 0, (2 * at0 g b + 1) * F + 2 * F) = pts c F (put1 g b) := by
  apply List.ext_getElem
  · rw [List.length_set, pts_length, pts_length]
  · intro i h1 h2
    rw [pts_get h2, List.getElem_set, put1_at (by omega)]
    by_cases e : b = i
    · subst e
      rw [if_pos rfl, if_pos rfl, Int.add_zero]
      congr 1
      rw [show 2 * (at0 g b + 1) + 1 = (2 * at0 g b + 1) + 2 by omega, Int.add_mul (2 * at0 g b + 1) 2]
    · rw [if_neg e, if_neg (fun h => e h.symm), pts_get]
theorem steep {F a b x y : Int} (h : 0 < F) : 2 * a * (b * F) < x * F * (2 * y) ↔ b * a < x * y := by
  have e1 : 2 * a * (b * F) = (2 * F) * (b * a) := by rw [Int.mul_assoc, Int.mul_comm a, Int.mul_assoc b, Int.mul_comm F a, ← Int.mul_assoc b, Int.mul_comm (b * a), ← Int.mul_assoc]
  have e2 : x * F * (2 * y) = (2 * F) * (x * y) := by rw [Int.mul_comm x F, Int.mul_assoc, ← Int.mul_assoc x 2, Int.mul_comm x 2, Int.mul_assoc 2, ← Int.mul_assoc F 2, Int.mul_comm F 2]
  rw [e1, e2]
  exact ⟨fun k => Int.lt_of_mul_lt_mul_left k (by omega), fun k => Int.mul_lt_mul_of_pos_left k (by omega)⟩
/-- What to be next says of all others, those that have had all their quanta too. -/
theorem IsBest.all {g c : List Int} {b : Nat} (h : IsBest g c c.length b) (hg : ∀ j, 0 ≤ at0 g j) (hc : ∀ j, 0 ≤ at0 c j) (hle : ∀ j, at0 g j ≤ at0 c j) : (∀ j, j < c.length → (2 * at0 g b + 1) * at0 c j ≤ (2 * at0 g j + 1) * at0 c b) ∧ ∀ j, j < b → (2 * at0 g b + 1) * at0 c j < (2 * at0 g j + 1) * at0 c b := by
  have done : ∀ j, at0 g j = at0 c j → (2 * at0 g b + 1) * at0 c j < (2 * at0 g j + 1) * at0 c b := fun j e => by
    rw [e]
    have h1 := h.has
    have h2 := hg b
    have h3 := hc j
    have e1 : (2 * at0 g b + 1) * at0 c j ≤ (2 * at0 c b) * at0 c j := Int.mul_le_mul_of_nonneg_right (by omega) h3
    have e2 : (2 * at0 c b) * at0 c j = 2 * at0 c j * at0 c b := by rw [Int.mul_assoc, Int.mul_comm (at0 c b), ← Int.mul_assoc]
    have e3 : (2 * at0 c j + 1) * at0 c b = 2 * at0 c j * at0 c b + at0 c b := by rw [Int.add_mul, Int.one_mul]
    omega
  constructor
  · intro j hj
    by_cases e : at0 g j < at0 c j
    · exact h.le j hj e
    · have := hle j; exact Int.le_of_lt (done j (by omega))
  · intro j hj
    by_cases e : at0 g j < at0 c j
    · exact h.first j hj e
    · have := hle j; exact done j (by omega)
theorem fi_best {g c : List Int} {b : Nat} {F : Int} (hF : 0 < F) (hb : b < c.length) (h1 : ∀ j, j < c.length → (2 * at0 g b + 1) * at0 c j ≤ (2 * at0 g j + 1) * at0 c b) (h2 : ∀ j, j < b → (2 * at0 g b + 1) * at0 c j < (2 * at0 g j + 1) * at0 c b) : ∀ k, b < k → k ≤ c.length → fiTo (pts c F g) k = b
  | 0, h, _ => by omega
  | k + 1, h, hk => by
    simp only [fiTo]
    by_cases e : b = k
    · subst e
      by_cases h0 : b = 0
      · subst h0
        simp only [fiTo]
        exact ite_self _
      · have hl := fiTo_lt (pts c F g) b (by omega)
        rw [pts_at hb, pts_at (by omega), if_pos]
        show 2 * at0 c _ * ((2 * at0 g b + 1) * F) < (2 * at0 g _ + 1) * F * (2 * at0 c b)
        exact (steep hF).2 (h2 _ hl)
    · rw [fi_best hF hb h1 h2 k (by omega) (by omega), pts_at hb, pts_at (by omega), if_neg]
      show ¬ 2 * at0 c b * ((2 * at0 g k + 1) * F) < (2 * at0 g b + 1) * F * (2 * at0 c k)
      rw [steep hF]
      have := h1 k (by omega)
      omega

/-- One point turned back by the angle of another. -/
theorem back_Fz {x1 y1 x2 y2 : Int} (a1 : 0 ≤ x1) (a2 : x1 < 2 ^ 20) (b1 : 0 < y1) (b2 : y1 < 2 ^ 20) (c1 : 0 ≤ x2) (c2 : x2 < 2 ^ 20) (d1 : 0 < y2) (d2 : y2 < 2 ^ 20) :
    cMulBits (Fz x2) (Fz y2) (Fz x1) (Fz (-y1)) = some (Fz (x2 * x1 + y2 * y1), Fz (y2 * x1 - x2 * y1)) := by
  have p20 : (2 : Int) ^ 20 = 1048576 := by decide
  have p40 : (2 : Nat) ^ 20 * 2 ^ 20 = 1099511627776 := by decide
  have p53 : (2 : Nat) ^ 53 = 9007199254740992 := by decide
  have n20 : (2 : Nat) ^ 20 = 1048576 := by decide
  have key : ∀ u v : Int, 0 ≤ u → u < 2 ^ 20 → 0 ≤ v → v < 2 ^ 20 → u.natAbs * v.natAbs < 1099511627776 ∧ ((u.natAbs * v.natAbs : Nat) : Int) = u * v ∧ 0 ≤ u * v := fun u v u1 u2 v1 v2 => by
    refine ⟨?_, ?_, Int.mul_nonneg u1 v1⟩
    · rw [← p40]
      exact Nat.mul_lt_mul_of_lt_of_lt (by omega) (by omega)
    · rw [Int.natCast_mul, show ((u.natAbs : Nat) : Int) = u by omega, show ((v.natAbs : Nat) : Int) = v by omega]
  obtain ⟨k1, k2, k3⟩ := key x2 x1 c1 c2 a1 a2
  obtain ⟨l1, l2, l3⟩ := key y2 y1 (by omega) d2 (by omega) b2
  obtain ⟨m1, m2, m3⟩ := key x2 y1 c1 c2 (by omega) b2
  obtain ⟨n1, n2, n3⟩ := key y2 x1 (by omega) d2 a1 a2
  have pos : 0 < y2 * y1 := Int.mul_pos d1 b1
  have sx1 : decide (x1 < 0) = false := by simp; omega
  have sx2 : decide (x2 < 0) = false := by simp; omega
  have sy2 : decide (y2 < 0) = false := by simp; omega
  have sy1 : decide (-y1 < 0) = true := by simp; omega
  have e1 : floatBits .mul .f64 (Fz x2) (Fz x1) = some (Wd false (x2.natAbs * x1.natAbs)) := by
    have := mul_Wd (n1 := decide (x2 < 0)) (n2 := decide (x1 < 0)) (m1 := x2.natAbs) (m2 := x1.natAbs) (by omega) (by omega) (by omega)
    rw [sx1, sx2] at this
    rw [Fz_Wd x1, Fz_Wd x2, sx1, sx2]; exact this
  have e2 : floatBits .mul .f64 (Fz y2) (Fz (-y1)) = some (Wd true (y2.natAbs * y1.natAbs)) := by
    have := mul_Wd (n1 := decide (y2 < 0)) (n2 := decide (-y1 < 0)) (m1 := y2.natAbs) (m2 := (-y1).natAbs) (by omega) (by omega) (by rw [Int.natAbs_neg]; omega)
    rw [sy1, sy2, Int.natAbs_neg] at this
    rw [Fz_Wd y2, Fz_Wd (-y1), sy1, sy2, Int.natAbs_neg]; exact this
  have e3 : floatBits .sub .f64 (Wd false (x2.natAbs * x1.natAbs)) (Wd true (y2.natAbs * y1.natAbs)) = some (Fz (x2 * x1 + y2 * y1)) := by
    refine sub_Wd (by omega) (by omega) ?_ (by omega) (by intro h; omega)
    simp only [sg, Bool.not_true, Bool.false_eq_true, if_false]
    rw [k2, l2]
  have e4 : floatBits .mul .f64 (Fz x2) (Fz (-y1)) = some (Wd true (x2.natAbs * y1.natAbs)) := by
    have := mul_Wd (n1 := decide (x2 < 0)) (n2 := decide (-y1 < 0)) (m1 := x2.natAbs) (m2 := (-y1).natAbs) (by omega) (by omega) (by rw [Int.natAbs_neg]; omega)
    rw [sy1, sx2, Int.natAbs_neg] at this
    rw [Fz_Wd x2, Fz_Wd (-y1), sy1, sx2, Int.natAbs_neg]; exact this
  have e5 : floatBits .mul .f64 (Fz y2) (Fz x1) = some (Wd false (y2.natAbs * x1.natAbs)) := by
    have := mul_Wd (n1 := decide (y2 < 0)) (n2 := decide (x1 < 0)) (m1 := y2.natAbs) (m2 := x1.natAbs) (by omega) (by omega) (by omega)
    rw [sx1, sy2] at this
    rw [Fz_Wd x1, Fz_Wd y2, sx1, sy2]; exact this
  have e6 : floatBits .add .f64 (Wd true (x2.natAbs * y1.natAbs)) (Wd false (y2.natAbs * x1.natAbs)) = some (Fz (y2 * x1 - x2 * y1)) := by
    refine add_Wd (by omega) (by omega) ?_ (by omega) (by intro _; simp)
    simp only [sg, if_true, Bool.false_eq_true, if_false]
    rw [m2, n2]; omega
  unfold cMulBits
  simp only [e1, e2, e3, e4, e5, e6, Option.bind_some]

/-! The gaps as they are told from the last one on. -/
def pgTo (P : List Int) (n : Int) : Nat → Int × Int
  | 0 => (n, 0)
  | k + 1 => (min (gapTo P n k).1 (gapAt P n (P.length - 1)), max (gapTo P n k).2 (gapAt P n (P.length - 1)))
/-- Where the one ahead of the k-th lies. -/
def bef (P : List Int) (n : Int) (k : Nat) : Int := if k = 0 then at0 P (P.length - 1) - n else at0 P (k - 1)
theorem pg_end {P : List Int} {n : Int} (h : 0 < P.length) : pgTo P n P.length = gapTo P n P.length := by
  obtain ⟨m, hm⟩ : ∃ m, P.length = m + 1 := ⟨P.length - 1, by omega⟩
  rw [hm]
  simp only [pgTo, gapTo]
  rw [hm, Nat.add_sub_cancel]
theorem pg_step {P : List Int} {n : Int} (h : Inc P n) {k : Nat} (hk : k < P.length) : min (pgTo P n k).1 (at0 P k - bef P n k) = (pgTo P n (k + 1)).1 ∧ max (pgTo P n k).2 (at0 P k - bef P n k) = (pgTo P n (k + 1)).2 := by
  cases k with
  | zero =>
    have hl := gapAt_last h (i := P.length - 1) (by omega)
    simp only [pgTo, gapTo, bef, if_true]
    rw [hl.1] at *
    omega
  | succ k =>
    have hm := (gapAt_mid h hk).1
    simp only [pgTo, gapTo, bef]
    rw [if_neg (by omega), Nat.add_sub_cancel, ← hm]
    omega
theorem pg_bounds {P : List Int} {n : Int} (h : Inc P n) (hn : 0 ≤ n) {k : Nat} (hk : k ≤ P.length) : 0 ≤ (pgTo P n k).1 ∧ (pgTo P n k).1 ≤ n ∧ 0 ≤ (pgTo P n k).2 ∧ (pgTo P n k).2 ≤ n := by
  cases k with
  | zero => simp only [pgTo]; omega
  | succ k =>
    have h1 := gapTo_bounds h hn k (by omega)
    have h2 := gapAt_bounds h (i := P.length - 1) (by omega)
    simp only [pgTo]
    omega
theorem bef_bounds {P : List Int} {n : Int} (h : Inc P n) {k : Nat} (hk : k < P.length) : -n ≤ bef P n k ∧ bef P n k < n := by
  have h1 := h.lo (P.length - 1) (by omega)
  have h2 := h.hi (P.length - 1) (by omega)
  unfold bef
  split
  · omega
  · have := h.lo (k - 1) (by omega)
    have := h.hi (k - 1) (by omega)
    omega
end Go.Proofs.Ytikecpgdacphjaa

namespace Go.Proofs.Ytikecpgdacphjaa
open Go.RowKit

set_option maxHeartbeats 1000000 in
theorem ahead_any {x1 y1 x2 y2 : Int} (a1 : 0 ≤ x1) (a2 : x1 < 2 ^ 20) (b1 : 0 < y1) (b2 : y1 < 2 ^ 20) (c1 : 0 ≤ x2) (c2 : x2 < 2 ^ 20) (d1 : 0 < y2) (d2 : y2 < 2 ^ 20) (w : World) :
    Calls Try.prog 53 #[.complex .f64 (Fz x1) (Fz y1), .complex .f64 (Fz x2) (Fz y2)] w (Yields w (.bool (decide (x2 * y1 < y2 * x1)))) := by
  have hop := fun t w => run_complex_mul (P := Try.prog) w t _ _ _ _ _ _ (back_Fz a1 a2 b1 b2 c1 c2 d1 d2)
  have hn := neg_Fz (z := y1) (by omega) (by omega)
  have big : (y2 * x1 - x2 * y1).natAbs < 2 ^ 53 := by
    have e1 : y2 * x1 ≤ 2 ^ 20 * 2 ^ 20 := Int.mul_le_mul (by omega) (by omega) (by omega) (by decide)
    have e2 : x2 * y1 ≤ 2 ^ 20 * 2 ^ 20 := Int.mul_le_mul (by omega) (by omega) (by omega) (by decide)
    have e3 : 0 ≤ y2 * x1 := Int.mul_nonneg (by omega) a1
    have e4 : 0 ≤ x2 * y1 := Int.mul_nonneg c1 (by omega)
    have p40 : (2 : Int) ^ 20 * 2 ^ 20 = 1099511627776 := by decide
    have p53 : (2 : Nat) ^ 53 = 9007199254740992 := by decide
    omega
  have hgt := gt_Fz (a := y2 * x1 - x2 * y1) (b := 0) big (by decide)
  rw [zero_Fz] at hgt
  have he : Hid (decide (x2 * y1 < y2 * x1) = decide (0 < y2 * x1 - x2 * y1)) := hid (by
    rw [decide_eq_decide]; omega)
  have Hb : Hid (big = big) := hid rfl
  generalize decide (0 < y2 * x1 - x2 * y1) = r at *
  generalize Fz (y2 * x1 - x2 * y1) = I at *
  generalize Fz (x2 * x1 + y2 * y1) = R at *
  generalize Fz (-y1) = ny at *
  generalize Fz y1 = fy1 at *
  generalize Fz x1 = fx1 at *
  generalize Fz x2 = fx2 at *
  generalize Fz y2 = fy2 at *
  clear big Hb a1 a2 b1 b2 c1 c2 d1 d2
  go_enter Try.func53, Try.ntmps53
  go_wp2
  all_goals
    go_returns
    exact ⟨by simp [he.out], ext_by⟩

set_option maxRecDepth 100000 in
set_option maxHeartbeats 1000000 in
theorem first_any {g : Nat} {P : List Pr} {w : World} (h : Cx w g P) (hP : P.length ≤ maxLen) (hb : ∀ p ∈ P, 0 ≤ p.1 ∧ p.1 < 2 ^ 20 ∧ 0 < p.2 ∧ p.2 < 2 ^ 20) : Calls Try.prog 39 #[.slice (some ⟨g, 0, none⟩) P.length P.length] w (Yields w (.int .i64 (fiTo P P.length))) := by
  have HB := hid hb
  have HC := hid h
  have hg := h.lt
  unfold maxLen at hP
  clear h hb
  go_enter Try.func39, Try.ntmps39
  go_wp2
  go_loopw [3, 8] (fun v3 v8 wr => Ext w wr ∧ ∃ k m : Nat, v8 = .int .i64 k ∧ v3 = .int .i64 m ∧ k ≤ P.length ∧ Hid (m = fiTo P k)) (fun _ v8 _ => (P.length - intOf v8).toNat)
  case atStart => exact ⟨Ext.refl _, 0, 0, rfl, rfl, by omega, rfl⟩
  case round =>
    obtain ⟨hx, k, m, rfl, rfl, hk, hm⟩ := hrel
    by_cases hlt : k < P.length
    · have hml : m < P.length := by
        rw [hm.out]
        by_cases h0 : k = 0
        · subst h0; simp only [fiTo]; omega
        · have := fiTo_lt P k (by omega); omega
      have c0 := hx.cell (HC.out.at hlt)
      have c1 := hx.cell (HC.out.at hml)
      obtain ⟨a1, a2, b1, b2⟩ := HB.out _ (List.getElem_mem hlt)
      obtain ⟨e1, e2, d1, d2⟩ := HB.out _ (List.getElem_mem hml)
      have HA : Hid (∀ u, Calls Try.prog 53 #[.complex .f64 (Fz P[k].1) (Fz P[k].2), .complex .f64 (Fz P[m].1) (Fz P[m].2)] u (Yields u (.bool (decide (P[m].1 * P[k].2 < P[m].2 * P[k].1))))) := hid fun u => ahead_any a1 a2 b1 b2 e1 e2 d1 d2 u
      have hst : fiTo P (k + 1) = if P[m].1 * P[k].2 < P[m].2 * P[k].1 then k else m := by
        have := hm.out
        simp only [fiTo]; rw [← this, getD_get hml, getD_get hlt]
      have HST := hid hst
      clear hst a1 a2 b1 b2 e1 e2 d1 d2
      have i1 : (k : Int) < P.length := by omega
      have i2 : (m : Int) < P.length := by omega
      by_cases hc : P[m].1 * P[k].2 < P[m].2 * P[k].1
      · have H1 : Hid (k = fiTo P (k + 1)) := hid (by rw [HST.out, if_pos hc])
        rw [decide_eq_true hc] at HA
        clear HST hc
        generalize Fz P[k].1 = f1 at *
        generalize Fz P[k].2 = f2 at *
        generalize Fz P[m].1 = f3 at *
        generalize Fz P[m].2 = f4 at *
        go_wp2_with (go_at_call 53; refine (HA.out _).yields ?_; intro p)
        all_goals
          go_roundw
          case rel => exact ⟨ext_by, k + 1, k, by go_num, rfl, by omega, H1⟩
          case measure => simp [intOf]; omega
      · have H1 : Hid (m = fiTo P (k + 1)) := hid (by rw [HST.out, if_neg hc])
        rw [decide_eq_false hc] at HA
        clear HST hc
        generalize Fz P[k].1 = f1 at *
        generalize Fz P[k].2 = f2 at *
        generalize Fz P[m].1 = f3 at *
        generalize Fz P[m].2 = f4 at *
        go_wp2_with (go_at_call 53; refine (HA.out _).yields ?_; intro p)
        all_goals
          go_roundw
          case rel => exact ⟨ext_by, k + 1, m, by go_num, rfl, by omega, H1⟩
          case measure => simp [intOf]; omega
    · obtain rfl : k = P.length := by omega
      have HE := hid hm.out
      clear hm
      go_wp2
      go_returns
      exact ⟨by simp [HE.out], hx⟩

/-- What the program's sum tells. -/
def sumC (l : List Int) : Int := if mayC l = true then tot l else 0
set_option maxRecDepth 100000 in
set_option maxHeartbeats 1000000 in
theorem sum_any {l : List Int} {v : Value} {w : World} (h : Ints w v l) : Calls Try.prog 38 #[v] w (Yields w (.int .i64 (sumC l))) := by
  obtain ⟨pa, ca, rfl, hca, hma⟩ := h.shape
  unfold maxLen at hma
  have HA := hid h
  clear h
  by_cases hl : (6 : Int) < l.length
  · have hr : Hid (sumC l = 0) := hid (by
      unfold sumC
      rw [if_neg]
      simp [mayC]; intros; omega)
    go_enter Try.func38, Try.ntmps38
    go_wp2
    go_returns
    exact ⟨by simp [hr.out], ext_by⟩
  have hno : Hid (l.all (fun x => decide (0 ≤ x) && decide (x ≤ 64)) = false → sumC l = 0) := hid fun h => by
    unfold sumC
    rw [if_neg]
    simp [mayC, h]
  go_enter Try.func38, Try.ntmps38
  go_wp2
  go_loopw [3, 11] (fun v3 v11 wr => Ext w wr ∧ ∃ (k : Nat) (s : Int), v11 = .int .i64 k ∧ v3 = .int .i64 s ∧ k ≤ l.length ∧ 0 ≤ s ∧ s ≤ 64 * k ∧ Hid (s = tot (l.take k)) ∧ Hid ((l.take k).all (fun x => decide (0 ≤ x) && decide (x ≤ 64)) = true)) (fun _ v11 _ => (l.length - intOf v11).toNat)
  case atStart => exact ⟨Ext.refl _, 0, 0, rfl, rfl, by omega, by omega, by omega, hid (by simp [tot]), hid (by simp)⟩
  case round =>
    obtain ⟨hx, k, s, rfl, rfl, hk, s1, s2, hs, hb⟩ := hrel
    by_cases hlt : k < l.length
    · obtain ⟨ba, oa, rfl, a0⟩ := HA.out.at k hlt
      have m0 := hx.cell a0
      simp only [Nat.mul_one] at m0
      have e1 : Hid (s + l[k] = tot (l.take (k + 1))) := hid (by rw [tot_take l k hlt, ← hs.out])
      have e2 : Hid ((l.take (k + 1)).all (fun x => decide (0 ≤ x) && decide (x ≤ 64)) = (decide (0 ≤ l[k]) && decide (l[k] ≤ 64))) := hid (by
        rw [List.take_succ_eq_append_getElem hlt, List.all_append, hb.out]; simp)
      have e3 : Hid ((decide (0 ≤ l[k]) && decide (l[k] ≤ 64)) = false → l.all (fun x => decide (0 ≤ x) && decide (x ≤ 64)) = false) := hid (fun h => by
        rw [← Bool.not_eq_true, List.all_eq_true]
        intro hh
        have := hh _ (List.getElem_mem hlt)
        rw [this] at h; cases h)
      clear a0 hb hs
      generalize l[k] = x at *
      have i1 : (k : Int) < l.length := by omega
      by_cases h1 : x < 0
      · have HN : Hid (sumC l = 0) := hid (hno.out (e3.out (by simp; omega)))
        go_wp2
        go_returns
        exact ⟨by simp [HN.out], hx⟩
      by_cases h2 : 64 < x
      · have HN : Hid (sumC l = 0) := hid (hno.out (e3.out (by simp; omega)))
        go_wp2
        go_returns
        exact ⟨by simp [HN.out], hx⟩
      have E2 : Hid ((l.take (k + 1)).all (fun x => decide (0 ≤ x) && decide (x ≤ 64)) = true) := hid (by rw [e2.out]; simp; omega)
      clear e2 e3
      go_wp2
      all_goals
        go_roundw
        case rel => exact ⟨hx, k + 1, _, by go_num, rfl, by omega, by omega, by omega, e1, E2⟩
        case measure => simp [intOf]; omega
    · obtain rfl : k = l.length := by omega
      have h1 := hs.out
      have h2 := hb.out
      rw [List.take_length] at h1 h2
      have hmt : mayC l = (decide (1 ≤ l.length) && decide (1 ≤ s) && decide (s ≤ 64)) := by
        unfold mayC
        rw [h2, ← h1, decide_eq_true (show l.length ≤ 6 by omega)]
        simp
      have hl0 : l.length = 0 → s = 0 := fun h => by
        obtain rfl := List.eq_nil_of_length_eq_zero h
        rw [h1]; rfl
      by_cases hq : 64 < s
      · have HE : Hid (sumC l = 0) := hid (by
          unfold sumC
          rw [hmt, if_neg]
          simp; intros; omega)
        clear hmt hl0 h1 h2 hs hb
        go_wp2
        go_returns
        exact ⟨by simp [HE.out], hx⟩
      · have HE : Hid (sumC l = s) := hid (by
          unfold sumC
          rw [hmt, ← h1]
          by_cases h0 : 1 ≤ s
          · rw [if_pos]
            simp; omega
          · rw [if_neg (by simp; intros; omega)]; omega)
        clear hmt hl0 h1 h2 hs hb
        go_wp2
        go_returns
        exact ⟨by simp [HE.out], hx⟩

end Go.Proofs.Ytikecpgdacphjaa

namespace Go.Proofs.Ytikecpgdacphjaa
open Go.RowKit

theorem run_makeF (n : Nat) (hn : n ≤ 64) (w : World) : (Instr.makeSlice 26 (.int .i64 n) (.int .i64 n)).run Try.prog w = .ok (.slice (some ⟨w.heap.size, 0, none⟩) n n) (w.alloc (.cells (List.replicate n (Value.int .i64 0)).toArray 3)) := by
  obtain ⟨i0, hi, hz0, hz1, hz2⟩ := info_parts infoI
  have := run_make (P := Try.prog) w 26 3 i0 (.int .i64 0) (by kernel_rfl) hi hz0 .i64 .i64 n n (by omega) (by omega) (by rw [hz2]; omega) (by omega)
  rw [this, Int.toNat_natCast, hz1, made_rep _ rfl]


theorem slots_none {c : List Int} {v : Value} {w : World} (h : Ints w v c) (hm : mayC c = false) : Calls Try.prog 22 #[v] w (Yields w (.slice none 0 0)) := by
  have H := hid (sum_any h)
  have he : sumC c = 0 := by unfold sumC; rw [if_neg (by rw [hm]; decide)]
  rw [he] at H
  obtain ⟨pa, ca, rfl, hca, hma⟩ := h.shape
  clear h hm he
  go_enter Try.func22, Try.ntmps22
  go_wp2_with (go_at_call 38; refine H.out.yields ?_; intro p)
  go_returns
  exact ⟨by simp, ext_by⟩
theorem pts_start {c : List Int} {F : Int} {k : Nat} (h : k < c.length) : (pts c F (gAt c 0)).take (k + 1) = (pts c F (gAt c 0)).take k ++ [(2 * c[k], F)] := by
  rw [List.take_succ_eq_append_getElem (by rw [pts_length]; exact h), pts_get, at0_get h]
  have e : at0 (gAt c 0) k = 0 := by simp only [gAt]; exact rep_at0 h
  rw [e]; simp

set_option maxRecDepth 100000 in
set_option maxHeartbeats 4000000 in
theorem slots_any {c : List Int} {v : Value} {w : World} (hm : mayC c = true) (h : Ints w v c) : Calls Try.prog 22 #[v] w fun e w' => ∃ u, e = .returned u ∧ Ext w w' ∧ Ints w' u (slotsL c) := by
  have hM := MayC.of hm
  have HS := hid (sum_any h)
  obtain ⟨pa, ca, rfl, hca, hma⟩ := h.shape
  unfold maxLen at hma
  have H := hid h
  have HM := hid hM
  have hn := hM.len
  have hpos := hM.pos
  have ht1 := hM.t1
  have ht64 := hM.t64
  obtain ⟨F, hF⟩ : ∃ F : Nat, tot c = F := ⟨(tot c).toNat, by omega⟩
  have he : sumC c = F := by unfold sumC; rw [if_pos hm, hF]
  rw [he] at HS
  have HG := hid (gInv hM)
  have HB := hid (fun (t : Nat) (ht : (t : Int) < tot c) => slot_best hM ht)
  have HSL : Hid (slotsL c = slotsTo c F) := hid (by unfold slotsL slotsTo; rw [hF]; rfl)
  rw [hF] at HG HB ht1 ht64
  have hmk := run_makeC c.length hn
  have hmf := run_makeF F (by omega)
  have hF0 : ((F : Int) == 0) = false := by simp; omega
  clear h hm hM hF he
  go_enter Try.func22, Try.ntmps22
  go_upto_region 4 with (go_at_call 38; refine HS.out.yields ?_; intro p)
  have hx0 := ext_more w p
  generalize more w p = w0 at *
  obtain ⟨g, hg⟩ : ∃ g, g = w0.heap.size := ⟨_, rfl⟩
  go_upto_region 5 with (fail)
  refine wp_forget (fun u => Ext w u ∧ Hid (Blk u g 58 (List.replicate c.length (Value.complex .f64 0 0)))) ⟨ext_by, hid (by have := Blk.new w0 58 (List.replicate c.length (Value.complex .f64 0 0)); rw [hg]; simpa using this)⟩ ?_
  rintro w1 ⟨hx1, hb1⟩
  rw [← hg]
  have hgw : w.heap.size ≤ g := by have := hx0.size; omega
  clear hg hx0 hmk
  go_wp2
  go_loopw [20] (fun v20 wr => Ext w wr ∧ ∃ (k : Nat) (L : List Value), v20 = .int .i64 k ∧ k ≤ c.length ∧ Hid (Blk wr g 58 L) ∧ Hid (L.length = c.length) ∧ Hid (L.take k = ((pts c F (gAt c 0)).take k).map cV)) (fun v20 _ => (c.length - intOf v20).toNat)
  case atStart => exact ⟨hx1, 0, _, rfl, by omega, hb1, hid (by simp), hid (by simp)⟩
  case round =>
    obtain ⟨hx, k, L, rfl, hk, hB, hL, hT⟩ := hrel
    by_cases hlt : k < c.length
    · obtain ⟨ba, oa, rfl, a0⟩ := H.out.at k hlt
      have m0 := hx.cell a0
      simp only [Nat.mul_one] at m0
      have hkL : k < L.length := by have := hL.out; omega
      have c0 := hB.out.cell hkL
      have c1 := hB.out.frozen k
      have c2 := hB.out.lt
      have x1 := HM.out.lo _ (List.getElem_mem hlt)
      have x2 := HM.out.hi _ (List.getElem_mem hlt)
      have hT2 : Hid ((L.set k (cV (2 * c[k], F))).take (k + 1) = ((pts c F (gAt c 0)).take (k + 1)).map cV) := hid (by
        rw [take_set_succ hkL, hT.out, pts_start hlt, List.map_append]; rfl)
      have hB2 : Hid (Blk (wr.setCell ⟨g, k, none⟩ (cV (2 * c[k], F))) g 58 (L.set k (cV (2 * c[k], F)))) := hid (hB.out.set k _)
      clear a0 hT hB
      generalize c[k] = x at *
      have e1 := floatOfInt_eq (z := 2 * x) (by omega)
      have e2 := floatOfInt_eq (z := (F : Int)) (by omega)
      have ez : cV (2 * x, (F : Int)) = .complex .f64 (Fz (2 * x)) (Fz F) := rfl
      rw [ez] at hB2 hT2
      clear ez
      have i1 : (k : Int) < c.length := by omega
      generalize L[k] = old at *
      go_wp2
      all_goals
        go_roundw
        case rel => exact ⟨ext_by, k + 1, _, by go_num, by omega, hB2, hid (by rw [List.length_set]; exact hL.out), hT2⟩
        case measure => simp [intOf]; omega
    · obtain rfl : k = c.length := by omega
      have h2 := hT.out
      rw [← pts_length c F (gAt c 0), List.take_length, pts_length, ← hL.out, List.take_length] at h2
      have hC : Hid (Cx wr g (pts c F (gAt c 0))) := hid (by have := hB.out; rw [h2] at this; exact this)
      have hgr := hC.out.lt
      clear h2 hT hL hB hb1
      have e1 := floatOfInt_eq (z := 2 * (F : Int)) (by omega)
      obtain ⟨g2, hg2⟩ : ∃ g2, g2 = wr.heap.size := ⟨_, rfl⟩
      go_upto_region 12 with (fail)
      refine wp_forget (fun u => Ext w u ∧ Hid (Cx u g (pts c F (gAt c 0))) ∧ Hid (Iz u g2 (slotsTo c 0 ++ List.replicate (F - 0) 0))) ⟨ext_by, hid (hC.out.ext (Ext.alloc (Ext.refl _) _)), hid (by
        have := Blk.new wr 3 (List.replicate F (Value.int .i64 0))
        rw [hg2]
        unfold Iz
        simpa [iV, slotsTo] using this)⟩ ?_
      rintro w2 ⟨hx2, hC2, hS2⟩
      rw [← hg2]
      have hgg : g ≠ g2 := by omega
      have hg2w : w.heap.size ≤ g2 := by omega
      clear hg2 hmf hC hgr hx hx1
      go_wp2
      go_loopw [43] (fun v43 wr => Ext w wr ∧ ∃ t : Nat, v43 = .int .i64 t ∧ t ≤ F ∧ Hid (Cx wr g (pts c F (gAt c t))) ∧ Hid (Iz wr g2 (slotsTo c t ++ List.replicate (F - t) 0))) (fun v43 _ => (F - intOf v43).toNat)
      case atStart => exact ⟨hx2, 0, rfl, by omega, hC2, hS2⟩
      case round =>
        obtain ⟨hx, t, rfl, htF, hC, hS⟩ := hrel
        by_cases hlt2 : t < F
        · obtain ⟨b0, sb1, sb2, -, sb4, sb5⟩ := HB.out t (by omega)
          have hGI := HG.out t (by omega)
          have hall := sb4.all hGI.lo (lo_at0 HM.out.lo) hGI.hi
          have hfi := fi_best (F := F) (by omega) sb2 hall.1 hall.2 c.length sb2 (Nat.le_refl _)
          have hbd : ∀ p ∈ pts c F (gAt c t), 0 ≤ p.1 ∧ p.1 < 2 ^ 20 ∧ 0 < p.2 ∧ p.2 < 2 ^ 20 := by
            intro p hp
            obtain ⟨j, hj, rfl⟩ := List.getElem_of_mem hp
            rw [pts_get hj]
            rw [pts_length] at hj
            have y1 := hGI.lo j
            have y2 := hGI.hi j
            have y3 := HM.out.lo _ (List.getElem_mem hj)
            have y4 := HM.out.hi _ (List.getElem_mem hj)
            rw [at0_get hj] at y2 ⊢
            have y5 : (2 * at0 (gAt c t) j + 1) * F ≤ (2 * at0 (gAt c t) j + 1) * 64 := Int.mul_le_mul_of_nonneg_left ht64 (by omega)
            have y6 : 0 < (2 * at0 (gAt c t) j + 1) * F := Int.mul_pos (by omega) (by omega)
            simp only
            omega
          have HFi : Hid (∀ u, Ext wr u → Calls Try.prog 39 #[.slice (some ⟨g, 0, none⟩) c.length c.length] u (Yields u (.int .i64 b0))) := hid fun u hu => by
            have := first_any (hC.out.ext hu) (by rw [pts_length]; unfold maxLen; omega) hbd
            rw [pts_length, hfi] at this
            exact this
          have hbp : b0 < (pts c F (gAt c t)).length := by rw [pts_length]; exact sb2
          have hput := pts_put (F := F) hGI.len sb2
          rw [← sb5] at hput
          have hsum := hbd _ (List.getElem_mem hbp)
          rw [pts_get hbp] at hsum
          simp only at hsum
          have hadd := sum_Fz (a := 2 * at0 c b0) (b := (2 * at0 (gAt c t) b0 + 1) * F) (c := 0) (d := 2 * F) (by omega) (by omega) (by decide) (by omega)
          rw [zero_Fz] at hadd
          have hop := fun t w => run_complex_sum (P := Try.prog) w .add (.inl rfl) t .f64 _ _ _ _ _ _ hadd
          have hset := slotsTo_set (c := c) hlt2
          rw [sb1] at hset
          have HC6 : Hid (∀ u, Cx u g (pts c F (gAt c t)) → Cx (u.setCell ⟨g, b0, none⟩ (.complex .f64 (Fz (2 * at0 c b0 + 0)) (Fz ((2 * at0 (gAt c t) b0 + 1) * F + 2 * F)))) g (pts c F (gAt c (t + 1)))) := hid fun u hu => by
            have := hu.set b0 (cV (2 * at0 c b0 + 0, (2 * at0 (gAt c t) b0 + 1) * F + 2 * F))
            rw [← hput, Cx, List.map_set]
            exact this
          have HS6 : Hid (∀ u, Iz u g2 (slotsTo c t ++ List.replicate (F - t) 0) → Iz (u.setCell ⟨g2, t, none⟩ (.int .i64 b0)) g2 (slotsTo c (t + 1) ++ List.replicate (F - (t + 1)) 0)) := hid fun u hu => by
            have := hu.set t (iV b0)
            rw [← hset, Iz, List.map_set]
            exact this
          have hbc : (b0 : Int) < c.length := by omega
          have htl : (t : Int) < F := by omega
          have c0 : Hid (∀ u, Cx u g (pts c F (gAt c t)) → u.cell? ⟨g, b0, none⟩ = some (.complex .f64 (Fz (2 * at0 c b0)) (Fz ((2 * at0 (gAt c t) b0 + 1) * F)))) := hid fun u hu => by
            have := hu.at hbp
            rw [pts_get hbp] at this
            exact this
          have hlen2 : Hid (t < (slotsTo c t ++ List.replicate (F - t) 0).length) := hid (by rw [List.length_append, slotsTo_length, List.length_replicate]; omega)
          clear sb1 sb4 sb5 hGI hall hfi hbd hput hset hsum hadd hbp
          generalize Fz (2 * at0 c b0 + 0) = q3 at *
          generalize Fz ((2 * at0 (gAt c t) b0 + 1) * F + 2 * F) = q4 at *
          generalize Fz (2 * at0 c b0) = q1 at *
          generalize Fz ((2 * at0 (gAt c t) b0 + 1) * F) = q2 at *
          go_upto_region 16 with (go_at_call 39; refine (HFi.out wr (Ext.refl wr)).yields ?_; intro p)
          have hxp := ext_more wr p
          have hxw := hx.trans hxp
          have HC7 := hid (hC.out.ext hxp)
          have HS7 := hid (hS.out.ext hxp)
          clear hC hS hxp hx HFi
          generalize more wr p = w3 at *
          have d0 := Iz.at HS7.out hlen2.out
          have d1 := HS7.out.frozen t
          have d2 := HS7.out.lt
          go_upto_region 17 with (fail)
          refine wp_forget (fun u => Ext w u ∧ Hid (Cx u g (pts c F (gAt c t))) ∧ Hid (Iz u g2 (slotsTo c (t + 1) ++ List.replicate (F - (t + 1)) 0))) ⟨ext_by, hid (HC7.out.other hgg _ _), hid (HS6.out _ HS7.out)⟩ ?_
          rintro w4 ⟨hx4, hC4, hS4⟩
          have e0 := c0.out w4 hC4.out
          have e1' := hC4.out.frozen b0
          have e2' := hC4.out.lt
          clear d0 d1 d2 HC7 HS7 HS6 c0 hxw
          go_wp2
          all_goals
            go_roundw
            case rel => exact ⟨ext_by, t + 1, by go_num, by omega, hid (HC6.out _ hC4.out), hid (hS4.out.other (fun e => hgg e.symm) _ _)⟩
            case measure => simp [intOf]; omega
        · obtain rfl : t = F := by omega
          have HE : Hid (Ints wr (.slice (some ⟨g2, 0, none⟩) t t) (slotsL c)) := hid (by
            have h1 := hS.out
            rw [Nat.sub_self, List.replicate_zero, List.append_nil] at h1
            have h2 := h1.ints (by rw [slotsTo_length]; unfold maxLen; omega)
            rw [slotsTo_length] at h2
            rw [HSL.out]; exact h2)
          clear hC hS hC2 hS2 HB HG HSL HS
          go_wp2
          go_returns
          refine ⟨_, ?_, hx, HE.out⟩
          simp
theorem slots_all {c : List Int} {v : Value} {w : World} (h : Ints w v c) (s : List Int) (hs : s = if mayC c = true then slotsL c else []) : Calls Try.prog 22 #[v] w fun e w' => ∃ u, e = .returned u ∧ Ext w w' ∧ Ints w' u s := by
  subst hs
  cases hm : mayC c
  · refine (slots_none h hm).mono ?_
    rintro e w' ⟨rfl, hx⟩
    exact ⟨_, rfl, hx, none, 0, rfl, by simp, by unfold maxLen; omega, fun hp => by simp at hp⟩
  · refine (slots_any hm h).mono ?_
    rintro e w' ⟨u, rfl, hx, hI⟩
    exact ⟨u, rfl, hx, by rw [if_pos rfl]; exact hI⟩
end Go.Proofs.Ytikecpgdacphjaa
