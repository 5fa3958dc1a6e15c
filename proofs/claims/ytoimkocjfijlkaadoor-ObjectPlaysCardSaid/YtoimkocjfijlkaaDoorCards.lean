/-
  DERIVED. GIVEN WITH THE SEED: THE CARDS: each row of YtoimkocjfijlkaaDoorRows.lean that lists a variable, with what it lists TIED to the program's text (the seventh form; the later family's looks); each row that meets fmt, with fmt's text TOLD by the authors' own Lean function (tested against real Go, not proved from fmt's source: count such statements apart). THE CARD IS WHAT COUNTS. Prove the row's statement (the work); the ties are given (YtoimkocjfijlkaaDoorTie.lean); close each card by the builder's one call (the guide's Derived/Test/ToyasCard.lean, 'card_holds'). Laid BY PROGRAM, IN A SANDBOX (cutbox-door.mjs). By AI agents, Wed Nov 11 2026. No macro, syntax, notation, axiom, sorry.
-/
import Derived.Test.YtoimkocjfijlkaaDoorRows
import GoSem.ClaimSeven
namespace Go.Proofs.YtoimkocjfijlkaaDoor
namespace Rows

/-- THE TIED CARD OF 'tontinelaw9.ObjectPlays'. -/
def objectPlaysCard : Claim7 := { stood := { row := objectPlaysRow, standIns := [], harness := (true, "9bf4083bfa2a6a3e659ba70727a8a7e366ff65e104937eefc8924ab09f53b990"), looks := true }, kinds := [], alts := [], laidByText := true, laidKinds := [.handle], laidTests := true, laidLooks := .later }
def ObjectPlaysCardSaid : Prop := Claim7.holds Tryd.pinned (.plain (OpenSpec.ofChange objectPlaysSpec)) objectPlaysCard

/-- THE SECOND FORM's CARD OF 'tontinelaw9.ObjectPlays'. -/
def objectPlaysUptoCard : Claim7 := { stood := { row := objectPlaysUptoRow, standIns := [], harness := (true, "9bf4083bfa2a6a3e659ba70727a8a7e366ff65e104937eefc8924ab09f53b990"), looks := true }, kinds := [], alts := [], laidByText := true, laidKinds := [.handle], laidTests := true, laidLooks := .later }
def ObjectPlaysUptoCardSaid : Prop := Claim7.holds Tryd.pinned (.plain (OpenSpec.upto objectPlaysSpec)) objectPlaysUptoCard
end Rows
end Go.Proofs.YtoimkocjfijlkaaDoor
