/- Rows of steps (three numbers) that came in. -/
import Derived.Test.YtbnjfahjbemleaaOwn2
import Derived.Test.YtbnjfahjbemleaaInts
namespace Go.Proofs.Ytbnjfahjbemleaa
open Go.ChangeShapes Go.WideShapes Go.ChangeAt Go.RowKit Go.Joins Go.Deep

structure Stp where
  what : Int
  id : Int
  n : Int
def StpAt (w : World) (b off : Nat) (s : Stp) : Prop := w.cell? ⟨b, off, none⟩ = some (.int .i64 s.what) ∧ w.cell? ⟨b, off + 1, none⟩ = some (.int .i64 s.id) ∧ w.cell? ⟨b, off + 2, none⟩ = some (.int .i64 s.n) ∧ wf64 s.id ∧ wf64 s.n
abbrev Stps (w : World) (v : Value) (l : List Stp) : Prop := Slc 3 StpAt w v l
namespace Own
theorem cellsStp : Try.prog.cellsOf 33 = 3 := by kernel_rfl
set_option maxRecDepth 100000 in
theorem open_stps {H : Type} {enc : TypeId × Value → H} {W : World} {base : Nat} {spare : Nat → Bool} {held : Bool} {a0 : Option Addr} {len cap : Nat} {d : DataW H} {p : List MemPlace}
    (h : DataW.Trod enc Try.prog W base spare held 22 (.slice a0 len cap) d p) : ∃ l, Stps W (.slice a0 len cap) l := by
  obtain ⟨fuel, hf⟩ := h
  simp only [Value.cells] at hf
  obtain ⟨v', l, he, hl⟩ := Slc.of_trod (E := StpAt) Try.underlying22 cellsStp (by omega) (fun cs b off m x hlen hat ht => by
    obtain ⟨xs, n, _, _, _, hx, hg⟩ := DataW.trod_struct Try.underlying33 ht
    match cs, hlen with
    | [c0, c1, c2], _ =>
      have g0 := hg 0 _ rfl
      have g1 := hg 1 _ rfl
      have g2 := hg 2 _ rfl
      simp at hx
      rw [List.getElem?_eq_getElem (by omega)] at g0 g1 g2
      have o0 : Try.prog.cellsOf 3 = 1 := by kernel_rfl
      simp [o0] at g0
      simp [o0] at g1
      simp [o0] at g2
      obtain ⟨a, e0, _, wa⟩ := DataW.trod_int Try.underlying3 g0
      obtain ⟨b', e1, _, wb⟩ := DataW.trod_int Try.underlying3 g1
      obtain ⟨c, e2, _, wc⟩ := DataW.trod_int Try.underlying3 g2
      simp at e0 e1 e2
      subst e0 e1 e2
      exact ⟨⟨a, b', c⟩, by simpa using hat 0 (by omega), by simpa using hat 1 (by omega), by simpa using hat 2 (by omega), bounds_i64 wb, bounds_i64 wc⟩) hf
  simp at he
  exact ⟨l, he ▸ hl⟩
end Own
end Go.Proofs.Ytbnjfahjbemleaa
