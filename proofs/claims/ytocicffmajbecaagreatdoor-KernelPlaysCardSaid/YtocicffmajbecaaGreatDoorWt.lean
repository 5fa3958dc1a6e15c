/- Weights and strides as numbers. No program is named here. -/
import Derived.Handy
namespace Go.Proofs.YtocicffmajbecaaGreatDoor
def isW (x : Int) : Bool := decide (1 ≤ x) && decide (x ≤ 16)
def ofW (x : Int) : Int := if isW x then Int.tdiv 720720 x else 0
theorem isW_iff {x : Int} : isW x = true ↔ 1 ≤ x ∧ x ≤ 16 := by simp [isW]
theorem ofW_bounds (x : Int) : 0 ≤ ofW x ∧ ofW x ≤ 720720 := by
  unfold ofW
  split
  · rename_i h
    have h := isW_iff.1 h
    rw [Int.tdiv_eq_ediv_of_nonneg (by omega)]
    exact ⟨Int.ediv_nonneg (by omega) (by omega),Int.ediv_le_self _ (by omega)⟩
  · omega
def heldW (n k : Int) : Int := max 0 (min n k)
def fairW (n a m b : Int) : Bool := decide ((heldW n 1048576 * ofW a - heldW m 1048576 * ofW b).natAbs ≤ ofW a + ofW b)
def scaleW (p n a b : Int) : Int := if p ≤ n then p else n + Int.tdiv ((p - n) * ofW b) (ofW a)
theorem way_bounds {p n : Int} (h : n < p) (hn : 0 ≤ n) (hp : p ≤ 1099511627776 + 1099511627776) (b : Int) : 0 ≤ (p - n) * ofW b ∧ (p - n) * ofW b ≤ 1584880040741437440 := by
  have hb := ofW_bounds b
  refine ⟨Int.mul_nonneg (by omega) hb.1,?_⟩
  have := Int.mul_le_mul (by omega : p - n ≤ 2199023255552) hb.2 hb.1 (by omega : (0 : Int) ≤ 2199023255552)
  omega
theorem ofW_pos {a : Int} (h : isW a = true) : 1 ≤ ofW a := by
  have hb := isW_iff.1 h
  unfold ofW
  rw [if_pos h,Int.tdiv_eq_ediv_of_nonneg (by omega)]
  exact (Int.le_ediv_iff_mul_le (by omega)).2 (by omega)
theorem part_bounds {x y : Int} (hx : 0 ≤ x) (hy : 1 ≤ y) : 0 ≤ Int.tdiv x y ∧ Int.tdiv x y ≤ x := by
  rw [Int.tdiv_eq_ediv_of_nonneg hx]
  exact ⟨Int.ediv_nonneg hx (by omega),Int.ediv_le_self _ hx⟩
theorem scaleW_within {p n a b : Int} (ha : isW a = true) (hn : p ≤ n + ofW a) : scaleW p n a b ≤ n + ofW b ∧ (n ≤ p → n ≤ scaleW p n a b) ∧ min p n ≤ scaleW p n a b := by
  have hq := ofW_pos ha
  have hb := ofW_bounds b
  unfold scaleW
  split
  · omega
  · have h0 : 0 ≤ (p - n) * ofW b := Int.mul_nonneg (by omega) hb.1
    rw [Int.tdiv_eq_ediv_of_nonneg h0]
    have h1 : 0 ≤ (p - n) * ofW b / ofW a := Int.ediv_nonneg h0 (by omega)
    have h2 : (p - n) * ofW b / ofW a ≤ ofW b := by
      have : (p - n) * ofW b ≤ ofW a * ofW b := Int.mul_le_mul_of_nonneg_right (by omega) hb.1
      have := Int.ediv_le_ediv (by omega : 0 < ofW a) this
      rwa [Int.mul_ediv_cancel_left _ (by omega)] at this
    omega
end Go.Proofs.YtocicffmajbecaaGreatDoor
