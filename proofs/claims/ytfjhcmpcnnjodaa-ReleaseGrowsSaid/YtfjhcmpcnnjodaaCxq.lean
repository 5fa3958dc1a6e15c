/- Rows of points (complex numbers with whole parts) in a block of their own; one number greater than another. -/
import Derived.Test.YtfjhcmpcnnjodaaRows
import Derived.Test.YtfjhcmpcnnjodaaLib
import Derived.Test.YtfjhcmpcnnjodaaFlAll
import Derived.Test.YtfjhcmpcnnjodaaShM
import Derived.Test.YtfjhcmpcnnjodaaMv
import Derived.Test.YtfjhcmpcnnjodaaInts
import Derived.Test.YtfjhcmpcnnjodaaBlk
import Derived.WalkKit
import Derived.Handy
import Derived.Laws.MakeOwn
namespace Go.Proofs.Ytfjhcmpcnnjodaa
open Go.RowKit

/-- A part as a point. -/
def cV (p : Pr) : Value := .complex .f64 (Fz p.1) (Fz p.2)
abbrev Cx (w : World) (g : Nat) (P : List Pr) : Prop := Blk w g 49 (P.map cV)
theorem Cx.at {w : World} {g : Nat} {P : List Pr} (h : Cx w g P) {i : Nat} (hi : i < P.length) : w.cell? ⟨g, i, none⟩ = some (.complex .f64 (Fz P[i].1) (Fz P[i].2)) := by
  have := Blk.cell h (i := i) (by simpa using hi)
  simpa [cV] using this
theorem gt_Fz {a b : Int} (ha : a.natAbs < 2 ^ 53) (hb : b.natAbs < 2 ^ 53) : (FloatKind.f64.format.order (Fz a) (Fz b) == some .gt) = decide (b < a) := by
  rw [show FloatKind.f64.format = Ieee.double from rfl, order_Fz ha hb]
  simp only [compare, compareOfLessAndEq]
  by_cases h : a < b
  · simp [h]; omega
  · by_cases h' : a = b
    · subst h'; simp
    · simp [h, h']; omega

theorem infoC : (Try.prog.info? 49).map (fun i => (i.zero, i.size, i.bytes)) = some (some (.complex .f64 0 0), 1, 16) := by kernel_rfl
/-- make of a row of parts. -/
theorem run_makeC (n : Nat) (hn : n ≤ 6) (w : World) : (Instr.makeSlice 48 (.int .i64 n) (.int .i64 n)).run Try.prog w = .ok (.slice (some ⟨w.heap.size, 0, none⟩) n n) (w.alloc (.cells (List.replicate n (Value.complex .f64 0 0)).toArray 49)) := by
  obtain ⟨i0, hi, hz0, hz1, hz2⟩ := info_parts infoC
  have := run_make (P := Try.prog) w 48 49 i0 (.complex .f64 0 0) (by kernel_rfl) hi hz0 .i64 .i64 n n (by omega) (by omega) (by rw [hz2]; omega) (by omega)
  rw [this, Int.toNat_natCast, hz1, made_rep _ rfl]
end Go.Proofs.Ytfjhcmpcnnjodaa
