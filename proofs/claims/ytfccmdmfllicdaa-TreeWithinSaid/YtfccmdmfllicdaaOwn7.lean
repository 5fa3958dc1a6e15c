/- Rows of steps of a tree that came in. -/
import Derived.Test.YtfccmdmfllicdaaOwn2
import Derived.Test.YtfccmdmfllicdaaTs2
namespace Go.Proofs.Ytfccmdmfllicdaa
open Go.ChangeShapes Go.WideShapes Go.ChangeAt Go.RowKit Go.Joins Go.Deep

def SteAt (w : World) (b off : Nat) (s : Ste) : Prop := w.cell? ⟨b, off, none⟩ = some (.int .i64 s.what) ∧ w.cell? ⟨b, off + 1, none⟩ = some (.int .i64 s.id) ∧ w.cell? ⟨b, off + 2, none⟩ = some (.int .i64 s.a) ∧ w.cell? ⟨b, off + 3, none⟩ = some (.int .i64 s.b) ∧ w.cell? ⟨b, off + 4, none⟩ = some (.bool s.thr)
abbrev Stes (w : World) (v : Value) (l : List Ste) : Prop := Slc 5 SteAt w v l
theorem SteAt.ext {w w' : World} (h : Ext w w') {b off : Nat} {s : Ste} (hl : SteAt w b off s) : SteAt w' b off s := ⟨h.cell hl.1, h.cell hl.2.1, h.cell hl.2.2.1, h.cell hl.2.2.2.1, h.cell hl.2.2.2.2⟩
namespace Own
theorem cellsSte : Try.prog.cellsOf 40 = 5 := by kernel_rfl
set_option maxRecDepth 100000 in
theorem open_stes {H : Type} {enc : TypeId × Value → H} {W : World} {base : Nat} {spare : Nat → Bool} {held : Bool} {a0 : Option Addr} {len cap : Nat} {d : DataW H} {p : List MemPlace}
    (h : DataW.Trod enc Try.prog W base spare held 38 (.slice a0 len cap) d p) : ∃ l, Stes W (.slice a0 len cap) l := by
  obtain ⟨fuel, hf⟩ := h
  simp only [Value.cells] at hf
  obtain ⟨v', l, he, hl⟩ := Slc.of_trod (E := SteAt) Try.underlying38 cellsSte (by omega) (fun cs b off m x hlen hat ht => by
    obtain ⟨xs, n, _, _, _, hx, hg⟩ := DataW.trod_struct Try.underlying40 ht
    match cs, hlen with
    | [c0, c1, c2, c3, c4], _ =>
      have g0 := hg 0 _ rfl
      have g1 := hg 1 _ rfl
      have g2 := hg 2 _ rfl
      have g3 := hg 3 _ rfl
      have g4 := hg 4 _ rfl
      simp at hx
      rw [List.getElem?_eq_getElem (by omega)] at g0 g1 g2 g3 g4
      have o0 : Try.prog.cellsOf 3 = 1 := by kernel_rfl
      have o1 : Try.prog.cellsOf 4 = 1 := by kernel_rfl
      simp [o0] at g0
      simp [o0] at g1
      simp [o0] at g2
      simp [o0] at g3
      simp [o1] at g4
      obtain ⟨a, e0, _, wa⟩ := DataW.trod_int Try.underlying3 g0
      obtain ⟨b', e1, _, wb⟩ := DataW.trod_int Try.underlying3 g1
      obtain ⟨c, e2, _, wc⟩ := DataW.trod_int Try.underlying3 g2
      obtain ⟨d', e3, _, wd⟩ := DataW.trod_int Try.underlying3 g3
      obtain ⟨t, e4, _⟩ := DataW.trod_bool Try.underlying4 g4
      simp at e0 e1 e2 e3 e4
      subst e0 e1 e2 e3 e4
      exact ⟨⟨a, b', c, d', t⟩, by simpa using hat 0 (by omega), by simpa using hat 1 (by omega), by simpa using hat 2 (by omega), by simpa using hat 3 (by omega), by simpa using hat 4 (by omega)⟩) hf
  simp at he
  exact ⟨l, he ▸ hl⟩
end Own
end Go.Proofs.Ytfccmdmfllicdaa
