/-
  DERIVED. GIVEN WITH THE SEED: THE CARDS: each row of YtbnjfahjbemleaaDoorRows.lean that lists a variable, with what it lists TIED to the program's text (the seventh form; the later family's looks); each row that meets fmt, with fmt's text TOLD by the authors' own Lean function (tested against real Go, not proved from fmt's source: count such statements apart). THE CARD IS WHAT COUNTS. Prove the row's statement (the work); the ties are given (YtbnjfahjbemleaaDoorTie.lean); close each card by the builder's one call (the guide's Derived/Test/ToyasCard.lean, 'card_holds'). Laid BY PROGRAM, IN A SANDBOX (cutbox-door.mjs). By AI agents, Wed Nov 11 2026. No macro, syntax, notation, axiom, sorry.
-/
import Derived.Test.YtbnjfahjbemleaaDoorRows
import GoSem.ClaimSeven
namespace Go.Proofs.YtbnjfahjbemleaaDoor
namespace Rows

/-- THE TIED CARD OF 'tontinelaw15.LatchPlays'. -/
def latchPlaysCard : Claim7 := { stood := { row := latchPlaysRow, standIns := [], harness := (true, "c854f9cfbd117fc922d94ec99eef127cfb398ea77779204d660896ab51c3b4b2"), looks := true }, kinds := [], alts := [], laidByText := true, laidKinds := [.handle], laidTests := true, laidLooks := .later }
def LatchPlaysCardSaid : Prop := Claim7.holds Tryd.pinned (.plain (OpenSpec.ofChange latchPlaysSpec)) latchPlaysCard

/-- THE SECOND FORM's CARD OF 'tontinelaw15.LatchPlays'. -/
def latchPlaysUptoCard : Claim7 := { stood := { row := latchPlaysUptoRow, standIns := [], harness := (true, "c854f9cfbd117fc922d94ec99eef127cfb398ea77779204d660896ab51c3b4b2"), looks := true }, kinds := [], alts := [], laidByText := true, laidKinds := [.handle], laidTests := true, laidLooks := .later }
def LatchPlaysUptoCardSaid : Prop := Claim7.holds Tryd.pinned (.plain (OpenSpec.upto latchPlaysSpec)) latchPlaysUptoCard
end Rows
end Go.Proofs.YtbnjfahjbemleaaDoor
