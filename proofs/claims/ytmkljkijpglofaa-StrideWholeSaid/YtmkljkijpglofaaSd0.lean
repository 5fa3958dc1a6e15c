/- What the functions of package stride come to, and the document's own ones beside them. -/
import Derived.Test.YtmkljkijpglofaaRows
import Derived.Test.YtmkljkijpglofaaLib
import Derived.Test.YtmkljkijpglofaaFl
import Derived.WalkKit
import Derived.WalkSpells
import Derived.WalkLawsBesides
import Derived.Deep.QuietTactic
import Derived.BigQuiet
import Derived.Deep.RegionHeld3
import Derived.Handy
import Derived.Laws.Externs
import Derived.Deep.CutRange
namespace Go.Proofs.Ytmkljkijpglofaa
open Go.RowKit

def isW (x : Int) : Bool := decide (1 ≤ x) && decide (x ≤ 16)
/-- The stride of a weight. -/
def ofW (x : Int) : Int := if isW x then Int.tdiv 720720 x else 0
theorem isW_iff {x : Int} : isW x = true ↔ 1 ≤ x ∧ x ≤ 16 := by simp [isW]
theorem ofW_bounds (x : Int) : 0 ≤ ofW x ∧ ofW x ≤ 720720 := by
  unfold ofW
  split
  · rename_i h
    have h := isW_iff.1 h
    rw [Int.tdiv_eq_ediv_of_nonneg (by omega)]
    exact ⟨Int.ediv_nonneg (by omega) (by omega), Int.ediv_le_self _ (by omega)⟩
  · omega
def heldW (n k : Int) : Int := max 0 (min n k)
theorem heldW_bounds (n : Int) : 0 ≤ heldW n 1048576 ∧ heldW n 1048576 ≤ 1048576 := by unfold heldW; omega
theorem mul_bounds {a b : Int} (ha : 0 ≤ a ∧ a ≤ 1048576) (hb : 0 ≤ b ∧ b ≤ 720720) : 0 ≤ a * b ∧ a * b ≤ 755729694720 :=
  ⟨Int.mul_nonneg ha.1 hb.1, by have := Int.mul_le_mul ha.2 hb.2 hb.1 (by omega : (0 : Int) ≤ 1048576); omega⟩
/-- Whether two have gone about as far. -/
def fairW (n a m b : Int) : Bool := decide ((heldW n 1048576 * ofW a - heldW m 1048576 * ofW b).natAbs ≤ ofW a + ofW b)

set_option maxHeartbeats 400000 in
theorem isW_any (x : Int) (w : World) : Calls Try.prog 8 #[.int .i64 x] w (Yields w (.bool (isW x))) := by
  by_cases h : 1 ≤ x <;>
  · go_enter Try.func8, Try.ntmps8
    go_wp2
    go_ret
    exact ⟨by simp [isW, h]; try omega, (by repeat (first | exact Ext.refl _ | assumption | refine Ext.more ?_ _ | refine Ext.drew ?_ | refine Ext.drewN ?_ _ | refine Ext.alloc ?_ _ | refine Ext.setCell ?_ (by simp; try omega) _ | refine Ext.trans ?_ (by assumption)))⟩
theorem isW_to {x : Int} {r : Bool} (e : isW x = r) (w : World) : Calls Try.prog 8 #[.int .i64 x] w (Yields w (.bool r)) := e ▸ isW_any x w

set_option maxHeartbeats 400000 in
theorem risW_any (x : Int) (w : World) : Calls Try.prog 9 #[.int .i64 x] w (Yields w (.bool (isW x))) := by
  by_cases h : 1 ≤ x <;>
  · go_enter Try.func9, Try.ntmps9
    go_wp2
    go_ret
    exact ⟨by simp [isW, h]; try omega, (by repeat (first | exact Ext.refl _ | assumption | refine Ext.more ?_ _ | refine Ext.drew ?_ | refine Ext.drewN ?_ _ | refine Ext.alloc ?_ _ | refine Ext.setCell ?_ (by simp; try omega) _ | refine Ext.trans ?_ (by assumption)))⟩
theorem risW_to {x : Int} {r : Bool} (e : isW x = r) (w : World) : Calls Try.prog 9 #[.int .i64 x] w (Yields w (.bool r)) := e ▸ risW_any x w

set_option maxHeartbeats 400000 in
theorem ofW_any (x : Int) (w : World) : Calls Try.prog 10 #[.int .i64 x] w (Yields w (.int .i64 (ofW x))) := by
  cases h : isW x
  · have H := hid h
    go_enter Try.func10, Try.ntmps10
    go_wp2_with (go_at_call 8; refine (isW_to H.out _).yields ?_; intro p)
    go_returns
    exact ⟨by simp [ofW, h], (by repeat (first | exact Ext.refl _ | assumption | refine Ext.more ?_ _ | refine Ext.drew ?_ | refine Ext.drewN ?_ _ | refine Ext.alloc ?_ _ | refine Ext.setCell ?_ (by simp; try omega) _ | refine Ext.trans ?_ (by assumption)))⟩
  · have H := hid h
    have hb := isW_iff.1 h
    have hz : (x == 0) = false := by rw [beq_eq_false_iff_ne]; omega
    have ho := ofW_bounds x
    have ho2 : ofW x = Int.tdiv 720720 x := by simp [ofW, h]
    go_enter Try.func10, Try.ntmps10
    go_wp2_with (go_at_call 8; refine (isW_to H.out _).yields ?_; intro p)
    go_returns
    exact ⟨by simp [ho2], (by repeat (first | exact Ext.refl _ | assumption | refine Ext.more ?_ _ | refine Ext.drew ?_ | refine Ext.drewN ?_ _ | refine Ext.alloc ?_ _ | refine Ext.setCell ?_ (by simp; try omega) _ | refine Ext.trans ?_ (by assumption)))⟩
theorem ofW_to {x r : Int} (e : ofW x = r) (w : World) : Calls Try.prog 10 #[.int .i64 x] w (Yields w (.int .i64 r)) := e ▸ ofW_any x w

set_option maxHeartbeats 400000 in
theorem rofW_any (x : Int) (w : World) : Calls Try.prog 11 #[.int .i64 x] w (Yields w (.int .i64 (ofW x))) := by
  cases h : isW x
  · have H := hid h
    go_enter Try.func11, Try.ntmps11
    go_wp2_with (go_at_call 9; refine (risW_to H.out _).yields ?_; intro p)
    go_returns
    exact ⟨by simp [ofW, h], (by repeat (first | exact Ext.refl _ | assumption | refine Ext.more ?_ _ | refine Ext.drew ?_ | refine Ext.drewN ?_ _ | refine Ext.alloc ?_ _ | refine Ext.setCell ?_ (by simp; try omega) _ | refine Ext.trans ?_ (by assumption)))⟩
  · have H := hid h
    have hb := isW_iff.1 h
    have hz : (x == 0) = false := by rw [beq_eq_false_iff_ne]; omega
    have ho := ofW_bounds x
    have ho2 : ofW x = Int.tdiv 720720 x := by simp [ofW, h]
    go_enter Try.func11, Try.ntmps11
    go_wp2_with (go_at_call 9; refine (risW_to H.out _).yields ?_; intro p)
    go_returns
    exact ⟨by simp [ho2], (by repeat (first | exact Ext.refl _ | assumption | refine Ext.more ?_ _ | refine Ext.drew ?_ | refine Ext.drewN ?_ _ | refine Ext.alloc ?_ _ | refine Ext.setCell ?_ (by simp; try omega) _ | refine Ext.trans ?_ (by assumption)))⟩
theorem rofW_to {x r : Int} (e : ofW x = r) (w : World) : Calls Try.prog 11 #[.int .i64 x] w (Yields w (.int .i64 r)) := e ▸ rofW_any x w

set_option maxHeartbeats 400000 in
theorem nextW_any (p x : Int) (h0 : -4611686018427387904 ≤ p) (h1 : p ≤ 4611686018427387904) (w : World) : Calls Try.prog 14 #[.int .i64 p, .int .i64 x] w (Yields w (.int .i64 (p + ofW x))) := by
  have ho := ofW_bounds x
  go_enter Try.func14, Try.ntmps14
  go_wp2_with (go_at_call 10; refine (ofW_any _ _).yields ?_; intro p)
  all_goals
    go_returns
    exact ⟨by simp, (by repeat (first | exact Ext.refl _ | assumption | refine Ext.more ?_ _ | refine Ext.drew ?_ | refine Ext.drewN ?_ _ | refine Ext.alloc ?_ _ | refine Ext.setCell ?_ (by simp; try omega) _ | refine Ext.trans ?_ (by assumption)))⟩
theorem nextW_to {p x r : Int} (h0 : -4611686018427387904 ≤ p) (h1 : p ≤ 4611686018427387904) (e : p + ofW x = r) (w : World) : Calls Try.prog 14 #[.int .i64 p, .int .i64 x] w (Yields w (.int .i64 r)) := e ▸ nextW_any p x h0 h1 w

set_option maxHeartbeats 400000 in
theorem rnextW_any (p x : Int) (h0 : -4611686018427387904 ≤ p) (h1 : p ≤ 4611686018427387904) (w : World) : Calls Try.prog 15 #[.int .i64 p, .int .i64 x] w (Yields w (.int .i64 (p + ofW x))) := by
  have ho := ofW_bounds x
  go_enter Try.func15, Try.ntmps15
  go_wp2_with (go_at_call 11; refine (rofW_any _ _).yields ?_; intro p)
  all_goals
    go_returns
    exact ⟨by simp, (by repeat (first | exact Ext.refl _ | assumption | refine Ext.more ?_ _ | refine Ext.drew ?_ | refine Ext.drewN ?_ _ | refine Ext.alloc ?_ _ | refine Ext.setCell ?_ (by simp; try omega) _ | refine Ext.trans ?_ (by assumption)))⟩
theorem rnextW_to {p x r : Int} (h0 : -4611686018427387904 ≤ p) (h1 : p ≤ 4611686018427387904) (e : p + ofW x = r) (w : World) : Calls Try.prog 15 #[.int .i64 p, .int .i64 x] w (Yields w (.int .i64 r)) := e ▸ rnextW_any p x h0 h1 w

/-- A pass of another weight. -/
def scaleW (p n a b : Int) : Int := if p ≤ n then p else n + Int.tdiv ((p - n) * ofW b) (ofW a)
theorem way_bounds {p n : Int} (h : n < p) (hn : 0 ≤ n) (hp : p ≤ 1099511627776 + 1099511627776) (b : Int) : 0 ≤ (p - n) * ofW b ∧ (p - n) * ofW b ≤ 1584880040741437440 := by
  have hb := ofW_bounds b
  refine ⟨Int.mul_nonneg (by omega) hb.1, ?_⟩
  have := Int.mul_le_mul (by omega : p - n ≤ 2199023255552) hb.2 hb.1 (by omega : (0 : Int) ≤ 2199023255552)
  omega
theorem ofW_pos {a : Int} (h : isW a = true) : 1 ≤ ofW a := by
  have hb := isW_iff.1 h
  unfold ofW
  rw [if_pos h, Int.tdiv_eq_ediv_of_nonneg (by omega)]
  exact (Int.le_ediv_iff_mul_le (by omega)).2 (by omega)
theorem part_bounds {x y : Int} (hx : 0 ≤ x) (hy : 1 ≤ y) : 0 ≤ Int.tdiv x y ∧ Int.tdiv x y ≤ x := by
  rw [Int.tdiv_eq_ediv_of_nonneg hx]
  exact ⟨Int.ediv_nonneg hx (by omega), Int.ediv_le_self _ hx⟩

set_option maxHeartbeats 400000 in
theorem scaleW_any (p n a b : Int) (ha : isW a = true) (hn : 0 ≤ n) (hn' : n ≤ 1099511627776) (hp : 0 ≤ p) (hp' : p ≤ 1099511627776 + 1099511627776) (w : World) : Calls Try.prog 16 #[.int .i64 p, .int .i64 n, .int .i64 a, .int .i64 b] w (Yields w (.int .i64 (scaleW p n a b))) := by
  have H := hid ha
  by_cases h : p ≤ n
  · go_enter Try.func16, Try.ntmps16
    go_wp2_with (go_at_call 8; refine (isW_to H.out _).yields ?_; intro p)
    all_goals
      go_returns
      exact ⟨by simp [scaleW, h], (by repeat (first | exact Ext.refl _ | assumption | refine Ext.more ?_ _ | refine Ext.drew ?_ | refine Ext.drewN ?_ _ | refine Ext.alloc ?_ _ | refine Ext.setCell ?_ (by simp; try omega) _ | refine Ext.trans ?_ (by assumption)))⟩
  · have hw := way_bounds (by omega) hn hp' b
    have hq := ofW_pos ha
    have hq' := ofW_bounds a
    have hb := ofW_bounds b
    have hr := part_bounds hw.1 hq
    have hz : (ofW a == 0) = false := by rw [beq_eq_false_iff_ne]; omega
    have hs : scaleW p n a b = n + Int.tdiv ((p - n) * ofW b) (ofW a) := by simp [scaleW, h]
    have HS := hid hs
    clear hs
    go_enter Try.func16, Try.ntmps16
    go_wp2_with (first
      | (go_at_call 8; refine (isW_to H.out _).yields ?_; intro p0)
      | (go_at_call 10; refine (ofW_any _ _).yields ?_; intro p0))
    all_goals
      go_returns
      exact ⟨by simp [HS.out], (by repeat (first | exact Ext.refl _ | assumption | refine Ext.more ?_ _ | refine Ext.drew ?_ | refine Ext.drewN ?_ _ | refine Ext.alloc ?_ _ | refine Ext.setCell ?_ (by simp; try omega) _ | refine Ext.trans ?_ (by assumption)))⟩

set_option maxHeartbeats 400000 in
theorem rscaleW_any (p n a b : Int) (ha : isW a = true) (hn : 0 ≤ n) (hn' : n ≤ 1099511627776) (hp : 0 ≤ p) (hp' : p ≤ 1099511627776 + 1099511627776) (w : World) : Calls Try.prog 17 #[.int .i64 p, .int .i64 n, .int .i64 a, .int .i64 b] w (Yields w (.int .i64 (scaleW p n a b))) := by
  by_cases h : p ≤ n
  · go_enter Try.func17, Try.ntmps17
    go_wp2_with (fail)
    all_goals
      go_returns
      exact ⟨by simp [scaleW, h], (by repeat (first | exact Ext.refl _ | assumption | refine Ext.more ?_ _ | refine Ext.drew ?_ | refine Ext.drewN ?_ _ | refine Ext.alloc ?_ _ | refine Ext.setCell ?_ (by simp; try omega) _ | refine Ext.trans ?_ (by assumption)))⟩
  · have hw := way_bounds (by omega) hn hp' b
    have hq := ofW_pos ha
    have hq' := ofW_bounds a
    have hb := ofW_bounds b
    have hr := part_bounds hw.1 hq
    have hz : (ofW a == 0) = false := by rw [beq_eq_false_iff_ne]; omega
    have hs : scaleW p n a b = n + Int.tdiv ((p - n) * ofW b) (ofW a) := by simp [scaleW, h]
    have HS := hid hs
    clear hs
    go_enter Try.func17, Try.ntmps17
    go_wp2_with (go_at_call 11; refine (rofW_any _ _).yields ?_; intro p0)
    all_goals
      go_returns
      exact ⟨by simp [HS.out], (by repeat (first | exact Ext.refl _ | assumption | refine Ext.more ?_ _ | refine Ext.drew ?_ | refine Ext.drewN ?_ _ | refine Ext.alloc ?_ _ | refine Ext.setCell ?_ (by simp; try omega) _ | refine Ext.trans ?_ (by assumption)))⟩

set_option maxHeartbeats 400000 in
theorem held_any (n k : Int) (w : World) : Calls Try.prog 19 #[.int .i64 n, .int .i64 k] w (Yields w (.int .i64 (heldW n k))) := by
  go_enter Try.func19, Try.ntmps19
  go_wp2
  all_goals
    go_returns
    exact ⟨by simp [heldW]; try omega, (by repeat (first | exact Ext.refl _ | assumption | refine Ext.more ?_ _ | refine Ext.drew ?_ | refine Ext.drewN ?_ _ | refine Ext.alloc ?_ _ | refine Ext.setCell ?_ (by simp; try omega) _ | refine Ext.trans ?_ (by assumption)))⟩

set_option maxHeartbeats 400000 in
/-- Two whole numbers as a point. -/
theorem point_any (x y : Int) (hx : x.natAbs < 2 ^ 53) (hy : y.natAbs < 2 ^ 53) (w : World) : Calls Try.prog 18 #[.int .i64 x, .int .i64 y] w (Yields w (.complex .f64 (Fz x) (Fz y))) := by
  have e1 := floatOfInt_eq hx
  have e2 := floatOfInt_eq hy
  go_enter Try.func18, Try.ntmps18
  go_wp2
  all_goals
    go_returns
    exact ⟨by simp, (by repeat (first | exact Ext.refl _ | assumption | refine Ext.more ?_ _ | refine Ext.drew ?_ | refine Ext.drewN ?_ _ | refine Ext.alloc ?_ _ | refine Ext.setCell ?_ (by simp; try omega) _ | refine Ext.trans ?_ (by assumption)))⟩

theorem andNot_sign (n : Nat) (h : n < 2 ^ 64) : bits BinOp.andNot IntKind.u64 (n : Int) 9223372036854775808 = ((n % 2 ^ 63 : Nat) : Int) := by
  rw [u64_andNot (n : Int) 9223372036854775808 (by omega) (by omega) (by omega) (by omega)]
  have := Nat.and_two_pow_sub_one_eq_mod n 63
  rw [← this]
  rfl

theorem run_f64bits (b : Nat) (w : World) : (callFunc 22 #[.float .f64 b]).run Try.prog w = .ok (.value (.int .u64 (b : Int))) w := by
  rw [@run_callFunc_extern Try.prog 22 _ Extern.MathFloatBits.float64bits Try.func22 (by kernel_rfl) (by kernel_rfl) (by kernel_rfl) (by kernel_rfl)]; rfl
theorem run_f64frombits (b : Int) (w : World) : (callFunc 21 #[.int .u64 b]).run Try.prog w = .ok (.value (.float .f64 b.toNat)) w := by
  rw [@run_callFunc_extern Try.prog 21 _ Extern.MathFloatBits.float64frombits Try.func21 (by kernel_rfl) (by kernel_rfl) (by kernel_rfl) (by kernel_rfl)]; rfl

set_option maxHeartbeats 400000 in
/-- The sign bit taken out. -/
theorem abs_any (z : Int) (hz : z.natAbs < 2 ^ 53) (w : World) : Calls Try.prog 20 #[.float .f64 (Fz z)] w (Yields w (.float .f64 (Fz (z.natAbs : Int)))) := by
  have e1 := andNot_sign (Fz z) (Fz_lt hz)
  have e2 := Fz_abs hz
  rw [e2] at e1
  have r1 := run_f64bits
  have r2 := run_f64frombits
  clear e2
  generalize Fz z = F at *
  generalize Fz (z.natAbs : Int) = G at *
  go_enter Try.func20, Try.ntmps20
  go_wp2_with (simp only [r1, r2])
  all_goals
    go_returns
    exact ⟨by simp, (by repeat (first | exact Ext.refl _ | assumption | refine Ext.more ?_ _ | refine Ext.drew ?_ | refine Ext.drewN ?_ _ | refine Ext.alloc ?_ _ | refine Ext.setCell ?_ (by simp; try omega) _ | refine Ext.trans ?_ (by assumption)))⟩

set_option maxHeartbeats 1000000 in
/-- Whether two have gone about as far. -/
theorem fair_any (n a m b : Int) (w : World) : Calls Try.prog 12 #[.int .i64 n, .int .i64 a, .int .i64 m, .int .i64 b] w (Yields w (.bool (fairW n a m b))) := by
  have ba := ofW_bounds a
  have bb := ofW_bounds b
  have bn := mul_bounds (heldW_bounds n) ba
  have bm := mul_bounds (heldW_bounds m) bb
  have hop1 := fun t w => run_complex_mul (P := Try.prog) w t 4607182418800017408 4607182418800017408 (Fz (ofW a)) (Fz (ofW b)) _ _ (turn_Fz ba.1 bb.1 (by omega) (by omega))
  have hop2 := fun t w => run_complex_mul (P := Try.prog) w t 4607182418800017408 4607182418800017408 (Fz (heldW n 1048576 * ofW a)) (Fz (heldW m 1048576 * ofW b)) _ _ (turn_Fz bn.1 bm.1 (by omega) (by omega))
  have hle := leq_Fz (a := ((heldW n 1048576 * ofW a - heldW m 1048576 * ofW b).natAbs : Int)) (b := ofW b + ofW a) (by omega) (by omega)
  have hres : fairW n a m b = decide (((heldW n 1048576 * ofW a - heldW m 1048576 * ofW b).natAbs : Int) ≤ ofW b + ofW a) := by unfold fairW; rw [Int.add_comm]
  have HR := hid hres
  clear hres
  go_enter Try.func12, Try.ntmps12
  go_wp2_with (first
    | (go_at_call 10; refine (ofW_any _ _).yields ?_; intro p0)
    | (go_at_call 19; refine (held_any _ _ _).yields ?_; intro p0)
    | (go_at_call 18; refine (point_any _ _ (by omega) (by omega) _).yields ?_; intro p0)
    | (go_at_call 20; refine (abs_any _ (by omega) _).yields ?_; intro p0)
    | simp only)
  all_goals
    go_returns
    exact ⟨by simp [HR.out], (by repeat (first | exact Ext.refl _ | assumption | refine Ext.more ?_ _ | refine Ext.drew ?_ | refine Ext.drewN ?_ _ | refine Ext.alloc ?_ _ | refine Ext.setCell ?_ (by simp; try omega) _ | refine Ext.trans ?_ (by assumption)))⟩
theorem fair_to {n a m b : Int} {r : Bool} (e : fairW n a m b = r) (w : World) : Calls Try.prog 12 #[.int .i64 n, .int .i64 a, .int .i64 m, .int .i64 b] w (Yields w (.bool r)) := e ▸ fair_any n a m b w

set_option maxHeartbeats 1000000 in
theorem rfair_any (n a m b : Int) (w : World) : Calls Try.prog 13 #[.int .i64 n, .int .i64 a, .int .i64 m, .int .i64 b] w (Yields w (.bool (fairW n a m b))) := by
  have ba := ofW_bounds a
  have bb := ofW_bounds b
  have bn := mul_bounds (heldW_bounds n) ba
  have bm := mul_bounds (heldW_bounds m) bb
  have hf : fairW n a m b = (decide (heldW n 1048576 * ofW a - heldW m 1048576 * ofW b ≤ ofW a + ofW b) && decide (-(heldW n 1048576 * ofW a - heldW m 1048576 * ofW b) ≤ ofW a + ofW b)) := by
    unfold fairW; rw [← Bool.decide_and, decide_eq_decide]; omega
  have HF := hid hf
  clear hf
  go_enter Try.func13, Try.ntmps13
  go_upto_region 1 with (fail)
  go_cut [0, 2] from 10 to 42 (fun s0 s2 wx => s0 = .int .i64 (heldW n 1048576) ∧ s2 = .int .i64 (heldW m 1048576) ∧ Ext w wx)
  case first =>
    clear bn bm
    go_wp2
    all_goals
      go_meet
      case rel => exact ⟨by simp [heldW]; try omega, by simp [heldW]; try omega, (by repeat (first | exact Ext.refl _ | assumption | refine Ext.more ?_ _ | refine Ext.drew ?_ | refine Ext.drewN ?_ _ | refine Ext.alloc ?_ _ | refine Ext.setCell ?_ (by simp; try omega) _ | refine Ext.trans ?_ (by assumption)))⟩
  case rest =>
    obtain ⟨rfl, rfl, X⟩ := hcut
    generalize heldW n 1048576 = x at *
    generalize heldW m 1048576 = y at *
    go_wp2_with (go_at_call 11; refine (rofW_any _ _).yields ?_; intro p0)
    all_goals
      go_returns
      exact ⟨by simp [HF.out]; try omega, Ext.trans X (by repeat (first | exact Ext.refl _ | assumption | refine Ext.more ?_ _ | refine Ext.drew ?_ | refine Ext.drewN ?_ _ | refine Ext.alloc ?_ _ | refine Ext.setCell ?_ (by simp; try omega) _ | refine Ext.trans ?_ (by assumption)))⟩
end Go.Proofs.Ytmkljkijpglofaa
