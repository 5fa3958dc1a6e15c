/- What every frame of a statement asks of the program, and how a label, a row of labels, a small number that came in are read. -/
import Derived.Test.YtbbbcpkhobbadaaRows
import Derived.Test.YtbbbcpkhobbadaaLabel
import Derived.ProofKit
import Derived.OpenShut
import Derived.ChangeOld
import Derived.Below
import Derived.Lib.SmallJoins
import Derived.Deep.Slices
import Derived.Deep.Fields
namespace Go.Proofs.Ytbbbcpkhobbadaa
open Go.ChangeShapes Go.WideShapes Go.ChangeAt Go.RowKit Go.Joins Go.Deep

namespace Own
theorem own : ownKnob Try.prog.godebug = none := by kernel_rfl
theorem laidOut : laidOutB Try.prog = true := by kernel_rfl
theorem cellsL : Try.prog.cellsOf 24 = 2 := by kernel_rfl

theorem open_label {H : Type} {enc : TypeId × Value → H} {W : World} {base b0 : Nat} {spare : Nat → Bool} {held : Bool} {r : Reach} {v : Value} {d : DataW H} {p : List MemPlace}
    (hv : Value.okWide Try.prog W r b0 24 v) (h : DataW.Trod enc Try.prog W base spare held 24 v d p) : ∃ a b : Int, v = .agg #[.int .i64 a, .int .u64 b] ∧ U64 b := by
  obtain ⟨c0, c1, y0, y1, m, rfl, rfl, rfl, hy0, hy1⟩ := open_agg2 Try.underlying24 (by kernel_rfl) cellsL hv h
  obtain ⟨a, e0, rfl, wa⟩ := DataW.trod_int Try.underlying3 hy0
  obtain ⟨b, e1, rfl, wb⟩ := DataW.trod_int Try.underlying22 hy1
  simp at e0 e1
  subst e0 e1
  refine ⟨a, b, rfl, ?_⟩
  have := bounds_u64 wb
  exact ⟨by omega, by omega⟩

theorem open_labels {H : Type} {enc : TypeId × Value → H} {W : World} {base : Nat} {spare : Nat → Bool} {held : Bool} {a0 : Option Addr} {len cap : Nat} {d : DataW H} {p : List MemPlace}
    (h : DataW.Trod enc Try.prog W base spare held 25 (.slice a0 len cap) d p) : ∃ l, Labels W (.slice a0 len cap) l := by
  obtain ⟨fuel, hf⟩ := h
  simp only [Value.cells] at hf
  obtain ⟨v', l, he, hl⟩ := Slc.of_trod (E := LblAt) Try.underlying25 cellsL (by omega) (fun cs b off m x hlen hat ht => by
    obtain ⟨xs, n, _, _, _, hx, hg⟩ := DataW.trod_struct Try.underlying24 ht
    match cs, hlen with
    | [c0, c1], _ =>
      have g0 := hg 0 _ rfl
      have g1 := hg 1 _ rfl
      simp at hx
      rw [List.getElem?_eq_getElem (by omega)] at g0 g1
      have o0 : Try.prog.cellsOf 3 = 1 := by kernel_rfl
      have o1 : Try.prog.cellsOf 22 = 1 := by kernel_rfl
      simp [o0] at g0
      simp [o1] at g1
      obtain ⟨a, e0, _, wa⟩ := DataW.trod_int Try.underlying3 g0
      obtain ⟨b', e1, _, wb⟩ := DataW.trod_int Try.underlying22 g1
      simp at e0 e1
      subst e0 e1
      have := bounds_u64 wb
      exact ⟨(a, b'), by simpa using hat 0 (by omega), by simpa using hat 1 (by omega), by omega, by omega⟩) hf
  simp at he
  exact ⟨l, he ▸ hl⟩
end Own
end Go.Proofs.Ytbbbcpkhobbadaa
