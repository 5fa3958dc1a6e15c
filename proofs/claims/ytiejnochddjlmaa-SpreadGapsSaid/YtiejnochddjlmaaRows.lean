/-
  No cell of these rows narrows 'for every input' (looked for: loops, veiled, ifaces, maps, wideKeys, modest, calm, conditions, laid).
  DERIVED. THE GIVEN ROWS OF THIS SEAT. 5 by the template 'for every input the law returns true; each argument reads behind the call as it read before'; 0 by the template 'total and deterministic' (their statements: YtiejnochddjlmaaTotals.lean).
  GIVEN WITH THE SEED: the statements are not yours to turn. If you find one false, say at which input.
  Laid BY PROGRAM, IN A SANDBOX (cutbox-rows.mjs): the forced cells as the released guide's own fill.sh prints them over the translation b6e4672f726a8608… (all of the seat's roots in one cut). By AI agents, Wed Nov 11 2026. No macro, syntax, notation, axiom, sorry.
-/
import Derived.Test.YtiejnochddjlmaaChecked
import GoSem.Claim
import GoSem.ClaimJoined
import GoSem.ClaimMapViews
import Derived.JoinedTies
import Derived.KernelRfl
namespace Go.Proofs.Ytiejnochddjlmaa
/- THE CELL 'sum', in the pinned program and in every row, IS THE sha256 OF THE DUMP (.gsa) THAT YtiejnochddjlmaaProg.lean LOADS. Nothing in Lean hashes anything: it is a label: what it is worth is what the hold of that sum in a sandbox is worth. -/
noncomputable def Try.pinned : Pinned := { name := "ytiejnochddjlmaa", sum := "b6e4672f726a860890b177fc7fe3fd348ffdea0f1a98f46d3506f471b74e1120", checked := Try.checked }
namespace Rows
def none {H : Type} : Left H := { results := [], args := [] }

/-- 'tontinelaw12.SpreadTells': WHATEVER THE INPUT: true; the input reads as it did. -/
def spreadTellsSpec : ChangeSpec := { name := "spreadTells", fn := fun _ => fun
  | [d1, d2, d3] => { results := [.lit (.bool true)], args := [d1, d2, d3] }
  | _ => none }
def spreadTellsRow : OpenClaim := { program := "ytiejnochddjlmaa", sum := "b6e4672f726a860890b177fc7fe3fd348ffdea0f1a98f46d3506f471b74e1120", func := "tontine/tontinelaw12.SpreadTells", spec := "spreadTells", apart := false }
def SpreadTellsSaid : Prop := spreadTellsRow.holds Try.pinned (OpenSpec.ofChange spreadTellsSpec)

/-- ITS FALSE NEIGHBOUR: 'it returns false'. Refute it at one input. -/
def spreadTellsWrong : ChangeSpec := { name := "spreadTells", fn := fun _ => fun
  | [d1, d2, d3] => { results := [.lit (.bool false)], args := [d1, d2, d3] }
  | _ => none }
def SpreadTellsWrongFalsely : Prop := spreadTellsRow.holds Try.pinned (OpenSpec.ofChange spreadTellsWrong)

/-- 'tontinelaw12.SpreadCounts': WHATEVER THE INPUT: true; the input reads as it did. -/
def spreadCountsSpec : ChangeSpec := { name := "spreadCounts", fn := fun _ => fun
  | [d] => { results := [.lit (.bool true)], args := [d] }
  | _ => none }
def spreadCountsRow : OpenClaim := { program := "ytiejnochddjlmaa", sum := "b6e4672f726a860890b177fc7fe3fd348ffdea0f1a98f46d3506f471b74e1120", func := "tontine/tontinelaw12.SpreadCounts", spec := "spreadCounts", apart := false }
def SpreadCountsSaid : Prop := spreadCountsRow.holds Try.pinned (OpenSpec.ofChange spreadCountsSpec)

/-- ITS FALSE NEIGHBOUR: 'it returns false'. Refute it at one input. -/
def spreadCountsWrong : ChangeSpec := { name := "spreadCounts", fn := fun _ => fun
  | [d] => { results := [.lit (.bool false)], args := [d] }
  | _ => none }
def SpreadCountsWrongFalsely : Prop := spreadCountsRow.holds Try.pinned (OpenSpec.ofChange spreadCountsWrong)

/-- 'tontinelaw12.SpreadEven': WHATEVER THE INPUT: true; the input reads as it did. -/
def spreadEvenSpec : ChangeSpec := { name := "spreadEven", fn := fun _ => fun
  | [d] => { results := [.lit (.bool true)], args := [d] }
  | _ => none }
def spreadEvenRow : OpenClaim := { program := "ytiejnochddjlmaa", sum := "b6e4672f726a860890b177fc7fe3fd348ffdea0f1a98f46d3506f471b74e1120", func := "tontine/tontinelaw12.SpreadEven", spec := "spreadEven", apart := false }
def SpreadEvenSaid : Prop := spreadEvenRow.holds Try.pinned (OpenSpec.ofChange spreadEvenSpec)

/-- ITS FALSE NEIGHBOUR: 'it returns false'. Refute it at one input. -/
def spreadEvenWrong : ChangeSpec := { name := "spreadEven", fn := fun _ => fun
  | [d] => { results := [.lit (.bool false)], args := [d] }
  | _ => none }
def SpreadEvenWrongFalsely : Prop := spreadEvenRow.holds Try.pinned (OpenSpec.ofChange spreadEvenWrong)

/-- 'tontinelaw12.SpreadAlike': WHATEVER THE INPUT: true; the input reads as it did. -/
def spreadAlikeSpec : ChangeSpec := { name := "spreadAlike", fn := fun _ => fun
  | [d1, d2] => { results := [.lit (.bool true)], args := [d1, d2] }
  | _ => none }
def spreadAlikeRow : OpenClaim := { program := "ytiejnochddjlmaa", sum := "b6e4672f726a860890b177fc7fe3fd348ffdea0f1a98f46d3506f471b74e1120", func := "tontine/tontinelaw12.SpreadAlike", spec := "spreadAlike", apart := false }
def SpreadAlikeSaid : Prop := spreadAlikeRow.holds Try.pinned (OpenSpec.ofChange spreadAlikeSpec)

/-- ITS FALSE NEIGHBOUR: 'it returns false'. Refute it at one input. -/
def spreadAlikeWrong : ChangeSpec := { name := "spreadAlike", fn := fun _ => fun
  | [d1, d2] => { results := [.lit (.bool false)], args := [d1, d2] }
  | _ => none }
def SpreadAlikeWrongFalsely : Prop := spreadAlikeRow.holds Try.pinned (OpenSpec.ofChange spreadAlikeWrong)

/-- 'tontinelaw12.SpreadGaps': WHATEVER THE INPUT: true; the input reads as it did. -/
def spreadGapsSpec : ChangeSpec := { name := "spreadGaps", fn := fun _ => fun
  | [d1, d2] => { results := [.lit (.bool true)], args := [d1, d2] }
  | _ => none }
def spreadGapsRow : OpenClaim := { program := "ytiejnochddjlmaa", sum := "b6e4672f726a860890b177fc7fe3fd348ffdea0f1a98f46d3506f471b74e1120", func := "tontine/tontinelaw12.SpreadGaps", spec := "spreadGaps", apart := false }
def SpreadGapsSaid : Prop := spreadGapsRow.holds Try.pinned (OpenSpec.ofChange spreadGapsSpec)

/-- ITS FALSE NEIGHBOUR: 'it returns false'. Refute it at one input. -/
def spreadGapsWrong : ChangeSpec := { name := "spreadGaps", fn := fun _ => fun
  | [d1, d2] => { results := [.lit (.bool false)], args := [d1, d2] }
  | _ => none }
def SpreadGapsWrongFalsely : Prop := spreadGapsRow.holds Try.pinned (OpenSpec.ofChange spreadGapsWrong)

/- THE SECOND FORM. 'bulk': how many values and letters a reading holds, each counted each time it is reached (what is shared counts as often as it is met; a slice's spare places count too). A statement '..UptoSaid' is the law's where the arguments, and the package variables that the reading takes, are together of bulk at most 1048576: NARROWER than '..Said'. Prove '..Said' where nothing that the law and all that it calls make is longer than what came in: it says more and counts as full. Else prove '..UptoSaid'. A law counts once. -/
mutual
def uptoBulk {H : Type} : DataW H → Nat
  | .lit (.string bytes) => bytes.length + 1
  | .lit _ => 1
  | .nil => 1
  | .ptr d => uptoBulk d + 1
  | .slice elems spare => uptoBulkAll elems + uptoBulkAll spare + 1
  | .agg parts => uptoBulkAll parts + 1
  | .iface _ d => uptoBulk d + 1
  | .map entries => uptoBulkEntries entries + 1
  | .held _ => 1
def uptoBulkAll {H : Type} : List (DataW H) → Nat
  | [] => 0
  | d :: r => uptoBulk d + uptoBulkAll r
def uptoBulkEntries {H : Type} : List (Lit × DataW H) → Nat
  | [] => 0
  | x :: r => uptoBulkEntry x + uptoBulkEntries r
def uptoBulkEntry {H : Type} : Lit × DataW H → Nat
  | (.string bytes, d) => bytes.length + uptoBulk d + 1
  | (_, d) => uptoBulk d + 1
 end
def uptoSmall : (H : Type) → List (DataW H) → Bool := fun _ ds => decide (uptoBulkAll ds ≤ 1048576)
def OpenSpec.upto (s : _root_.Go.ChangeSpec) : _root_.Go.OpenSpec := { _root_.Go.OpenSpec.ofChange s with cond := some uptoSmall }

/-- 'tontinelaw12.SpreadTells', WHERE WHAT IT READS IS OF BULK AT MOST 1048576: true; the input reads as it did. -/
def spreadTellsUptoRow : OpenClaim := { program := "ytiejnochddjlmaa", sum := "b6e4672f726a860890b177fc7fe3fd348ffdea0f1a98f46d3506f471b74e1120", func := "tontine/tontinelaw12.SpreadTells", spec := "spreadTells", apart := false, narrowed := true }
def SpreadTellsUptoSaid : Prop := spreadTellsUptoRow.holds Try.pinned (OpenSpec.upto spreadTellsSpec)

/-- 'tontinelaw12.SpreadCounts', WHERE WHAT IT READS IS OF BULK AT MOST 1048576: true; the input reads as it did. -/
def spreadCountsUptoRow : OpenClaim := { program := "ytiejnochddjlmaa", sum := "b6e4672f726a860890b177fc7fe3fd348ffdea0f1a98f46d3506f471b74e1120", func := "tontine/tontinelaw12.SpreadCounts", spec := "spreadCounts", apart := false, narrowed := true }
def SpreadCountsUptoSaid : Prop := spreadCountsUptoRow.holds Try.pinned (OpenSpec.upto spreadCountsSpec)

/-- 'tontinelaw12.SpreadEven', WHERE WHAT IT READS IS OF BULK AT MOST 1048576: true; the input reads as it did. -/
def spreadEvenUptoRow : OpenClaim := { program := "ytiejnochddjlmaa", sum := "b6e4672f726a860890b177fc7fe3fd348ffdea0f1a98f46d3506f471b74e1120", func := "tontine/tontinelaw12.SpreadEven", spec := "spreadEven", apart := false, narrowed := true }
def SpreadEvenUptoSaid : Prop := spreadEvenUptoRow.holds Try.pinned (OpenSpec.upto spreadEvenSpec)

/-- 'tontinelaw12.SpreadAlike', WHERE WHAT IT READS IS OF BULK AT MOST 1048576: true; the input reads as it did. -/
def spreadAlikeUptoRow : OpenClaim := { program := "ytiejnochddjlmaa", sum := "b6e4672f726a860890b177fc7fe3fd348ffdea0f1a98f46d3506f471b74e1120", func := "tontine/tontinelaw12.SpreadAlike", spec := "spreadAlike", apart := false, narrowed := true }
def SpreadAlikeUptoSaid : Prop := spreadAlikeUptoRow.holds Try.pinned (OpenSpec.upto spreadAlikeSpec)

/-- 'tontinelaw12.SpreadGaps', WHERE WHAT IT READS IS OF BULK AT MOST 1048576: true; the input reads as it did. -/
def spreadGapsUptoRow : OpenClaim := { program := "ytiejnochddjlmaa", sum := "b6e4672f726a860890b177fc7fe3fd348ffdea0f1a98f46d3506f471b74e1120", func := "tontine/tontinelaw12.SpreadGaps", spec := "spreadGaps", apart := false, narrowed := true }
def SpreadGapsUptoSaid : Prop := spreadGapsUptoRow.holds Try.pinned (OpenSpec.upto spreadGapsSpec)

end Rows
end Go.Proofs.Ytiejnochddjlmaa
