/- Parts rounded down one by one, as data. No program is named here. -/
import Derived.Test.YtfjhcmpcnnjodaaShM
namespace Go.Proofs.Ytfjhcmpcnnjodaa
open Go.RowKit

/-- The parts while nobody has a quantum. -/
def ini (f : Int) (l : List Int) : List Pr := l.map fun x => (0, f * x)
theorem prod_bounds {f x : Int} (h1 : 1 ≤ f) (h2 : f ≤ 64) (h3 : 0 ≤ x) (h4 : x ≤ 1000) : 0 ≤ f * x ∧ f * x ≤ 64000 := by
  refine ⟨Int.mul_nonneg (by omega) h3, ?_⟩
  calc f * x ≤ 64 * x := Int.mul_le_mul_of_nonneg_right h2 h3
    _ ≤ 64000 := by omega
theorem low_snoc (f S : Int) (a : List Int) (x : Int) : low f S (a ++ [x]) = low f S a ++ [(f * x / S, f * x % S)] := by rw [low, low, List.map_append]; rfl
theorem cs_snoc (P : List Pr) (p : Pr) : cs (P ++ [p]) = cs P ++ [p.1] := by rw [cs, cs, List.map_append]; rfl
theorem rs_snoc (P : List Pr) (p : Pr) : rs (P ++ [p]) = rs P ++ [p.2] := by rw [rs, rs, List.map_append]; rfl
/-- Behind rounding down so many parts. -/
def mid (f : Int) (l : List Int) (k : Nat) : List Pr := low f (tot l) (l.take k) ++ ini f (l.drop k)
theorem mid_length (f : Int) (l : List Int) {k : Nat} (h : k ≤ l.length) : (mid f l k).length = l.length := by simp [mid, low, ini]; omega
theorem mid_zero (f : Int) (l : List Int) : mid f l 0 = ini f l := by simp [mid, low]
theorem mid_all (f : Int) (l : List Int) : mid f l l.length = low f (tot l) l := by simp [mid, ini]
theorem mid_get (f : Int) (l : List Int) {k : Nat} (h : k < l.length) : (mid f l k)[k]? = some (0, f * l[k]) := by
  unfold mid
  rw [List.getElem?_append_right (by simp [low]; omega)]
  simp [low, ini, h, Nat.min_eq_left (Nat.le_of_lt h)]
theorem mid_set (f : Int) (l : List Int) {k : Nat} (h : k < l.length) : (mid f l k).set k (f * l[k] / tot l, f * l[k] % tot l) = mid f l (k + 1) := by
  unfold mid
  have e : (low f (tot l) (l.take k)).length = k := by simp [low]; omega
  rw [List.set_append_right _ _ (by omega), e, Nat.sub_self, List.drop_eq_getElem_cons h, List.take_succ_eq_append_getElem h, low_snoc, List.append_assoc]
  rfl
theorem tot_take_low (f S : Int) (l : List Int) {k : Nat} (h : k < l.length) : tot (cs (low f S (l.take (k + 1)))) = tot (cs (low f S (l.take k))) + f * l[k] / S ∧ tot (rs (low f S (l.take (k + 1)))) = tot (rs (low f S (l.take k))) + f * l[k] % S := by
  rw [List.take_succ_eq_append_getElem h, low_snoc, cs_snoc, rs_snoc, tot_append, tot_append]
  simp [tot]
end Go.Proofs.Ytfjhcmpcnnjodaa
