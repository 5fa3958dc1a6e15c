/- What the small functions of package share come to: rounding down, a part that has more quanta, the greatest part, whether shares may be. -/
import Derived.Test.YtpickmmegaeklaaRows
import Derived.Test.YtpickmmegaeklaaLib
import Derived.Test.YtpickmmegaeklaaFl
import Derived.Test.YtpickmmegaeklaaFl2
import Derived.Test.YtpickmmegaeklaaFl3
import Derived.Test.YtpickmmegaeklaaFl4
import Derived.Test.YtpickmmegaeklaaShM
import Derived.Test.YtpickmmegaeklaaMv
import Derived.Test.YtpickmmegaeklaaInts
import Derived.WalkKit
import Derived.WalkSpells
import Derived.WalkLawsBesides
import Derived.Deep.QuietTactic
import Derived.BigQuiet
import Derived.Deep.RegionHeld3
import Derived.Handy
import Derived.Laws.Externs
import Derived.Laws.ComplexArith
import Derived.Laws.FloatArith
import Derived.Deep.LoopGhost
namespace Go.Proofs.Ytpickmmegaeklaa
open Go.RowKit

/-- A row of values in a block of its own. -/
def Blk (w : World) (g T : Nat) (L : List Value) : Prop := w.heap[g]? = some (.cells L.toArray T (0, 0))
theorem Blk.lt {w : World} {g T : Nat} {L : List Value} (h : Blk w g T L) : g < w.heap.size := lt_blk h
theorem Blk.cell {w : World} {g T : Nat} {L : List Value} (h : Blk w g T L) {i : Nat} (hi : i < L.length) : w.cell? ⟨g, i, none⟩ = some L[i] := by
  unfold Blk at h
  simp [World.cell?, h, hi]
theorem Blk.frozen {w : World} {g T : Nat} {L : List Value} (h : Blk w g T L) (i : Nat) : w.frozen? ⟨g, i, none⟩ = false := by
  unfold Blk at h
  simp [World.frozen?, h]
theorem Blk.ext {w w' : World} {g T : Nat} {L : List Value} (h : Blk w g T L) (k : Ext w w') : Blk w' g T L := by
  unfold Blk at h ⊢
  rw [k.below.block g (lt_blk h)]; exact h
theorem Blk.set {w : World} {g T : Nat} {L : List Value} (h : Blk w g T L) (j : Nat) (u : Value) : Blk (w.setCell ⟨g, j, none⟩ u) g T (L.set j u) := by
  unfold Blk at h ⊢
  rw [set_same h]; simp
theorem Blk.other {w : World} {g T : Nat} {L : List Value} (h : Blk w g T L) {b : Nat} (hb : g ≠ b) (j : Nat) (u : Value) : Blk (w.setCell ⟨b, j, none⟩ u) g T L := by
  unfold Blk at h ⊢
  rw [Below.heap_setCell _ _ _ _ hb]; exact h
theorem take_set_succ {α : Type} {L : List α} {k : Nat} (h : k < L.length) (v : α) : (L.set k v).take (k + 1) = L.take k ++ [v] := by
  rw [List.take_succ_eq_append_getElem (by simpa using h), List.take_set, List.set_eq_of_length_le (by simp; omega)]
  simp

/-- A part as a point. -/
def cV (p : Pr) : Value := .complex .f64 (Fz p.1) (Fz p.2)
def iV (k : Int) : Value := .int .i64 k
abbrev Cx (w : World) (g : Nat) (P : List Pr) : Prop := Blk w g 36 (P.map cV)
abbrev Iz (w : World) (g : Nat) (l : List Int) : Prop := Blk w g 3 (l.map iV)
theorem Cx.at {w : World} {g : Nat} {P : List Pr} (h : Cx w g P) {i : Nat} (hi : i < P.length) : w.cell? ⟨g, i, none⟩ = some (.complex .f64 (Fz P[i].1) (Fz P[i].2)) := by
  have := Blk.cell h (i := i) (by simpa using hi)
  simpa [cV] using this
theorem Iz.at {w : World} {g : Nat} {l : List Int} (h : Iz w g l) {i : Nat} (hi : i < l.length) : w.cell? ⟨g, i, none⟩ = some (.int .i64 l[i]) := by
  have := Blk.cell h (i := i) (by simpa using hi)
  simpa [iV] using this
theorem Iz.ints {w : World} {g : Nat} {l : List Int} (h : Iz w g l) (hl : l.length ≤ maxLen) : Ints w (.slice (some ⟨g, 0, none⟩) l.length l.length) l := by
  refine ⟨some ⟨g, 0, none⟩, l.length, rfl, Nat.le_refl _, hl, fun _ => ⟨g, 0, rfl, fun i x hx => ?_⟩⟩
  obtain ⟨hi, rfl⟩ := List.getElem?_eq_some_iff.1 hx
  rw [Nat.zero_add, Nat.mul_one]
  exact h.at hi

theorem gt_Fz {a b : Int} (ha : a.natAbs < 2 ^ 53) (hb : b.natAbs < 2 ^ 53) : (FloatKind.f64.format.order (Fz a) (Fz b) == some .gt) = decide (b < a) := by
  rw [show FloatKind.f64.format = Ieee.double from rfl, order_Fz ha hb]
  simp only [compare, compareOfLessAndEq]
  by_cases h : a < b
  · simp [h]; omega
  · by_cases h' : a = b
    · subst h'; simp
    · simp [h, h']; omega

theorem toIntegral_num {x m : Nat} {s : Bool} {p : Int} (h : FloatKind.f64.decode x = .number s m p) (n : String) (way : Ieee.Toward) : Extern.MathFloor.toIntegral n way #[.float .f64 x] = pure (.float .f64 (FloatKind.f64.encode ((FloatKind.f64.decode x).integral way))) := by
  show Extern.MathFloor.toIntegral.match_1 _ (FloatKind.f64.decode x) _ _ = _
  rw [h]
theorem run_floor {x m : Nat} {s : Bool} {p : Int} (h : FloatKind.f64.decode x = .number s m p) (w : World) : (callFunc 22 #[.float .f64 x]).run Try.prog w = .ok (.value (.float .f64 (floorF x))) w := by
  rw [@run_callFunc_extern Try.prog 22 _ (Extern.MathFloor.toIntegral "math.archFloor" .down) Try.func22 (by kernel_rfl) (by kernel_rfl) (by kernel_rfl) (by kernel_rfl)]
  rw [toIntegral_num h]
  rfl

set_option maxHeartbeats 400000 in
/-- One whole number parted by another, rounded down. -/
theorem floor_any {x m : Nat} {s : Bool} {p : Int} (h : FloatKind.f64.decode x = .number s m p) (w : World) : Calls Try.prog 16 #[.float .f64 x] w (Yields w (.float .f64 (floorF x))) := by
  have r1 := fun w => run_floor h w
  clear h
  generalize floorF x = y at *
  go_enter Try.func16, Try.ntmps16
  go_wp2_with (simp only [r1])
  all_goals
    go_returns
    exact ⟨by simp, ext_by⟩

set_option maxHeartbeats 400000 in
/-- A part that has more quanta. -/
theorem after_any {a b c d e u v r s : Nat} (h1 : cMulBits c 0 d e = some (u, v)) (h2 : cSumBits .add .f64 a b u v = some (r, s)) (w : World) : Calls Try.prog 17 #[.complex .f64 a b, .float .f64 c, .complex .f64 d e] w (Yields w (.complex .f64 r s)) := by
  have hop1 := fun t w => run_complex_mul (P := Try.prog) w t c 0 d e u v h1
  have hop2 := fun t w => run_complex_sum (P := Try.prog) w .add (.inl rfl) t .f64 a b u v r s h2
  clear h1 h2
  go_enter Try.func17, Try.ntmps17
  go_wp2
  all_goals
    go_returns
    exact ⟨by simp, ext_by⟩

set_option maxRecDepth 100000 in
set_option maxHeartbeats 1000000 in
/-- The place of the part to which most is due. -/
theorem greatest_any {g : Nat} {P : List Pr} {w : World} (h : Cx w g P) (hP : P.length ≤ maxLen) (hb : ∀ p ∈ P, p.2.natAbs < 2 ^ 53) : Calls Try.prog 18 #[.slice (some ⟨g, 0, none⟩) P.length P.length] w (Yields w (.int .i64 (am (rs P)))) := by
  have HB := hid hb
  have HC := hid h
  have hg := h.lt
  unfold maxLen at hP
  clear h hb
  go_enter Try.func18, Try.ntmps18
  go_wp2
  go_loopw [3, 8] (fun v3 v8 wr => Ext w wr ∧ ∃ k m : Nat, v8 = .int .i64 k ∧ v3 = .int .i64 m ∧ k ≤ P.length ∧ Hid (m = amTo (rs P) k)) (fun _ v8 _ => (P.length - intOf v8).toNat)
  case atStart => exact ⟨Ext.refl _, 0, 0, rfl, rfl, by omega, rfl⟩
  case round =>
    obtain ⟨hx, k, m, rfl, rfl, hk, hm⟩ := hrel
    by_cases hlt : k < P.length
    · have hml : m < P.length := by
        rw [hm.out]
        by_cases h0 : k = 0
        · subst h0; simp only [amTo]; omega
        · have := amTo_lt (rs P) k (by omega); omega
      have c0 := hx.cell (HC.out.at hlt)
      have c1 := hx.cell (HC.out.at hml)
      have b0 := HB.out _ (List.getElem_mem hlt)
      have b1 := HB.out _ (List.getElem_mem hml)
      have hgt := gt_Fz b0 b1
      have hst : amTo (rs P) (k + 1) = if P[m].2 < P[k].2 then k else m := by
        have e1 := rs_get P hml
        have e2 := rs_get P hlt
        have := hm.out
        simp only [amTo]; rw [← this, e1, e2]
      have HST := hid hst
      clear hst
      generalize P[k].2 = y at *
      generalize P[m].2 = z at *
      generalize P[k].1 = y' at *
      generalize P[m].1 = z' at *
      have i1 : (k : Int) < P.length := by omega
      have i2 : (m : Int) < P.length := by omega
      by_cases hc : z < y
      · rw [decide_eq_true hc] at hgt
        go_wp2
        all_goals
          go_roundw
          case rel => exact ⟨ext_by, k + 1, k, by go_num, rfl, by omega, hid (by rw [HST.out, if_pos hc])⟩
          case measure => simp [intOf]; omega
      · rw [decide_eq_false hc] at hgt
        go_wp2
        all_goals
          go_roundw
          case rel => exact ⟨ext_by, k + 1, m, by go_num, rfl, by omega, hid (by rw [HST.out, if_neg hc])⟩
          case measure => simp [intOf]; omega
    · obtain rfl : k = P.length := by omega
      have he := hm.out
      have HE : Hid (m = am (rs P)) := hid (by rw [he, am, rs_length])
      clear he
      go_wp2
      go_returns
      exact ⟨by simp [HE.out], hx⟩
end Go.Proofs.Ytpickmmegaeklaa
