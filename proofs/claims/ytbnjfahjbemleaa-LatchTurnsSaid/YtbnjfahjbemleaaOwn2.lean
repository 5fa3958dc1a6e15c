/- What every frame of a statement asks of the program, and how rows of numbers, of steps that came in are read. -/
import Derived.Test.YtbnjfahjbemleaaRows
import Derived.Test.YtbnjfahjbemleaaLib
import Derived.ProofKit
import Derived.OpenShut
import Derived.ChangeOld
import Derived.Below
import Derived.Lib.SmallJoins
import Derived.Deep.Slices
import Derived.Deep.Fields
namespace Go.Proofs.Ytbnjfahjbemleaa
open Go.ChangeShapes Go.WideShapes Go.ChangeAt Go.RowKit Go.Joins Go.Deep

/-- A step in memory: two numbers. -/
def StepAt (w : World) (b off : Nat) (x : Int × Int) : Prop := w.cell? ⟨b, off, none⟩ = some (.int .i64 x.1) ∧ w.cell? ⟨b, off + 1, none⟩ = some (.int .i64 x.2)
abbrev Steps (w : World) (v : Value) (l : List (Int × Int)) : Prop := Slc 2 StepAt w v l
theorem StepAt.ext {w w' : World} (h : Ext w w') {b off : Nat} {x : Int × Int} (hl : StepAt w b off x) : StepAt w' b off x := ⟨h.cell hl.1, h.cell hl.2⟩
theorem Slc.ext {α : Type} {n : Nat} {E : World → Nat → Nat → α → Prop} {w w' : World} {v : Value} {l : List α} (hE : ∀ {b off x}, E w b off x → E w' b off x) (hl : Slc n E w v l) : Slc n E w' v l := hl.mono fun _ _ _ => hE
theorem Steps.ext {w w' : World} (h : Ext w w') {v : Value} {l : List (Int × Int)} (hl : Steps w v l) : Steps w' v l := hl.mono fun _ _ _ => StepAt.ext h

/-- A number of a kind in memory. -/
def NumAt (k : IntKind) (w : World) (b off : Nat) (x : Int) : Prop := w.cell? ⟨b, off, none⟩ = some (.int k x) ∧ (Lit.int k x).wf = true
abbrev Nums (k : IntKind) (w : World) (v : Value) (l : List Int) : Prop := Slc 1 (NumAt k) w v l
theorem NumAt.ext {k : IntKind} {w w' : World} (h : Ext w w') {b off : Nat} {x : Int} (hl : NumAt k w b off x) : NumAt k w' b off x := ⟨h.cell hl.1, hl.2⟩
theorem Nums.ext {k : IntKind} {w w' : World} (h : Ext w w') {v : Value} {l : List Int} (hl : Nums k w v l) : Nums k w' v l := hl.mono fun _ _ _ => NumAt.ext h

namespace Own
theorem own : ownKnob Try.prog.godebug = none := by kernel_rfl
theorem laidOut : laidOutB Try.prog = true := by kernel_rfl
theorem open_nums {H : Type} {enc : TypeId × Value → H} {W : World} {base : Nat} {spare : Nat → Bool} {held : Bool} {a0 : Option Addr} {len cap : Nat} {d : DataW H} {p : List MemPlace} {t e : TypeId} {k : IntKind}
    (ht : Try.prog.underlying t = some (.slice e)) (he : Try.prog.underlying e = some (.int k)) (h1 : Try.prog.cellsOf e = 1)
    (h : DataW.Trod enc Try.prog W base spare held t (.slice a0 len cap) d p) : ∃ l, Nums k W (.slice a0 len cap) l := by
  obtain ⟨fuel, hf⟩ := h
  simp only [Value.cells] at hf
  obtain ⟨v', l, hv, hl⟩ := Slc.of_trod (E := NumAt k) ht h1 (by omega) (fun cs b off m x hlen hat htr => by
    match cs, hlen with
    | [c0], _ =>
      obtain ⟨a, e0, _, wa⟩ := DataW.trod_int he htr
      simp at e0
      subst e0
      exact ⟨a, by simpa using hat 0 (by omega), wa⟩) hf
  simp at hv
  exact ⟨l, hv ▸ hl⟩
end Own
end Go.Proofs.Ytbnjfahjbemleaa
