/- Whether counts are exact, as data. No program is named here. -/
import Derived.Test.YtfjhcmpcnnjodaaShM
namespace Go.Proofs.Ytfjhcmpcnnjodaa
open Go.RowKit

/-- Is a count less than a quantum away from what is due to its share? -/
def nearB (f S x y : Int) : Bool := decide (f * x - y * S < S) && decide (-(f * x - y * S) < S)
def nearL (f S : Int) : List Int → List Int → Bool
  | x :: l, y :: c => nearB f S x y && nearL f S l c
  | _, _ => true
def exactL (f : Int) (l c : List Int) : Bool := mayS f l && decide (c.length = l.length) && nearL f (tot l) l c && decide (tot c = f)
theorem nearL_take (f S : Int) : ∀ (l c : List Int) (k : Nat) (h1 : k < l.length) (h2 : k < c.length), nearL f S (l.take (k + 1)) (c.take (k + 1)) = (nearL f S (l.take k) (c.take k) && nearB f S l[k] c[k])
  | [], _, _, h, _ => by simp at h
  | _ :: _, [], _, _, h => by simp at h
  | x :: l, y :: c, 0, _, _ => by simp [nearL]
  | x :: l, y :: c, k + 1, h1, h2 => by
    have := nearL_take f S l c k (by simpa using h1) (by simpa using h2)
    simp only [List.take_succ_cons, nearL, this, List.getElem_cons_succ, Bool.and_assoc]
theorem nearL_iff (f S : Int) : ∀ (l c : List Int), c.length = l.length → (nearL f S l c = true ↔ ∀ (i : Nat) (x y : Int), l[i]? = some x → c[i]? = some y → nearB f S x y = true)
  | [], c, _ => by simp [nearL]
  | x :: l, [], h => by simp at h
  | x :: l, y :: c, h => by
    have ih := nearL_iff f S l c (by simpa using h)
    rw [nearL, Bool.and_eq_true, ih]
    constructor
    · rintro ⟨h1, h2⟩ i x' y' hx hy
      cases i with
      | zero => simp at hx hy; subst hx hy; exact h1
      | succ i => exact h2 i x' y' (by simpa using hx) (by simpa using hy)
    · intro h
      exact ⟨h 0 x y rfl rfl, fun i x' y' hx hy => h (i + 1) x' y' (by simpa using hx) (by simpa using hy)⟩
theorem near_bounds {f S x y : Int} (h0 : 0 ≤ f * x) (h1 : f * x ≤ 64 * S) (hS : 1 ≤ S) (h : nearB f S x y = true) : 0 ≤ y ∧ y ≤ 64 := by
  simp only [nearB, Bool.and_eq_true, decide_eq_true_eq] at h
  constructor
  · apply Decidable.byContradiction
    intro hn
    have : y * S ≤ -1 * S := Int.mul_le_mul_of_nonneg_right (by omega) (by omega)
    omega
  · apply Decidable.byContradiction
    intro hn
    have : 65 * S ≤ y * S := Int.mul_le_mul_of_nonneg_right (by omega) (by omega)
    omega
theorem share_le {f : Int} {l : List Int} (h : May f l) {x : Int} (hx : x ∈ l) : f * x ≤ 64 * tot l := by
  have hb := rem_bounds h hx
  have e := Int.mul_ediv_add_emod (f * x) (tot l)
  have hq : f * x / tot l * tot l ≤ 64 * tot l := Int.mul_le_mul_of_nonneg_right hb.2.1 (by have := h.S1; omega)
  by_cases h64 : f * x / tot l = 64
  · -- then there is no rest
    have hle : x ≤ tot l := by
      have : ∀ (l : List Int), (∀ x ∈ l, 0 ≤ x) → x ∈ l → x ≤ tot l := by
        intro l
        induction l with
        | nil => intro _ h; simp at h
        | cons y l ih =>
          intro hl hx
          have h1 := hl y (by simp)
          have h2 := tot_nonneg l fun z hz => hl z (by simp [hz])
          rcases List.mem_cons.1 hx with rfl | hx
          · simp [tot]; omega
          · have := ih (fun z hz => hl z (by simp [hz])) hx; simp [tot]; omega
      exact this l h.lo hx
    calc f * x ≤ 64 * x := Int.mul_le_mul_of_nonneg_right h.f64 (h.lo x hx)
      _ ≤ 64 * tot l := Int.mul_le_mul_of_nonneg_left hle (by omega)
  · have : f * x / tot l * tot l ≤ 63 * tot l := Int.mul_le_mul_of_nonneg_right (by omega) (by have := h.S1; omega)
    rw [Int.mul_comm (tot l)] at e
    omega

end Go.Proofs.Ytfjhcmpcnnjodaa
