/- What every frame of a statement asks of the program, and how rows of numbers, of steps that came in are read. -/
import Derived.Test.YtocicffmajbecaaGreatDoorRows
import Derived.Test.YtocicffmajbecaaGreatDoorLib
import Derived.ProofKit
import Derived.OpenShut
import Derived.ChangeOld
import Derived.Below
import Derived.Lib.SmallJoins
import Derived.Deep.Slices
import Derived.Deep.Fields
namespace Go.Proofs.YtocicffmajbecaaGreatDoor
open Go.ChangeShapes Go.WideShapes Go.ChangeAt Go.RowKit Go.Joins Go.Deep
def StepAt (w : World) (b off : Nat) (x : Int × Int) : Prop := w.cell? ⟨b,off,none⟩ = some (.int .i64 x.1) ∧ w.cell? ⟨b,off + 1,none⟩ = some (.int .i64 x.2)
abbrev Steps (w : World) (v : Value) (l : List (Int × Int)) : Prop := Slc 2 StepAt w v l
theorem StepAt.ext {w w' : World} (h : Ext w w') {b off : Nat} {x : Int × Int} (hl : StepAt w b off x) : StepAt w' b off x := ⟨h.cell hl.1,h.cell hl.2⟩
theorem Slc.ext {α : Type} {n : Nat} {E : World → Nat → Nat → α → Prop} {w w' : World} {v : Value} {l : List α} (hE : ∀ {b off x},E w b off x → E w' b off x) (hl : Slc n E w v l) : Slc n E w' v l := hl.mono fun _ _ _ => hE
theorem Steps.ext {w w' : World} (h : Ext w w') {v : Value} {l : List (Int × Int)} (hl : Steps w v l) : Steps w' v l := hl.mono fun _ _ _ => StepAt.ext h
def NumAt (k : IntKind) (w : World) (b off : Nat) (x : Int) : Prop := w.cell? ⟨b,off,none⟩ = some (.int k x) ∧ (Lit.int k x).wf = true
abbrev Nums (k : IntKind) (w : World) (v : Value) (l : List Int) : Prop := Slc 1 (NumAt k) w v l
theorem NumAt.ext {k : IntKind} {w w' : World} (h : Ext w w') {b off : Nat} {x : Int} (hl : NumAt k w b off x) : NumAt k w' b off x := ⟨h.cell hl.1,hl.2⟩
theorem Nums.ext {k : IntKind} {w w' : World} (h : Ext w w') {v : Value} {l : List Int} (hl : Nums k w v l) : Nums k w' v l := hl.mono fun _ _ _ => NumAt.ext h
namespace Own
theorem own : ownKnob Tryz.prog.godebug = none := by kernel_rfl
theorem laidOut : laidOutB Tryz.prog = true := by kernel_rfl
end Own
end Go.Proofs.YtocicffmajbecaaGreatDoor
