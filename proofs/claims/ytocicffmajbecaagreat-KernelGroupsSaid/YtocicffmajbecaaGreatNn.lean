/- Nodes as they are handed out: rows of them, and whether two rows are the same. -/
import Derived.Test.YtocicffmajbecaaGreatRows
import Derived.Test.YtocicffmajbecaaGreatNd
import Derived.Test.YtocicffmajbecaaGreatMv
import Derived.Test.YtocicffmajbecaaGreatPush
import Derived.Test.YtocicffmajbecaaGreatPiece
import Derived.WalkKit
import Derived.WalkSpells
import Derived.WalkLawsBesides
import Derived.Deep.QuietTactic
import Derived.BigQuiet
import Derived.Deep.RegionHeld3
import Derived.OwnWalk
import Derived.Handy
import Derived.Maps.AppendAt
namespace Go.Proofs.YtocicffmajbecaaGreat
open Go.RowKit

theorem block_ext' {w w' : World} (h : Ext w w') {b : Nat} {o : Obj} (hb : w.heap[b]? = some o) : w'.heap[b]? = some o := by rw [h.below.block b (lt_blk hb)]; exact hb
/-- A node as it is handed out. -/
structure Nn where
  id : Int
  par : Int
  wt : Int
  pass : Int
  thr : Bool
  rdy : Bool
deriving DecidableEq
def Nd.nn (n : Nd) : Nn := ⟨n.id, n.par, n.wt, n.pass, n.thr, n.rdy⟩
def nnc (n : Nn) : List Value := [.int .i64 n.id, .int .i64 n.par, .int .i64 n.wt, .int .i64 n.pass, .bool n.thr, .bool n.rdy]
abbrev nnV (n : Nn) : Value := .agg #[.int .i64 n.id, .int .i64 n.par, .int .i64 n.wt, .int .i64 n.pass, .bool n.thr, .bool n.rdy]
theorem nnc_length (n : Nn) : (nnc n).length = 6 := rfl
/-- Its cells lie at a place. -/
def NnE (w : World) (b off : Nat) (n : Nn) : Prop := w.cell? ⟨b, off, none⟩ = some (.int .i64 n.id) ∧ w.cell? ⟨b, off + 1, none⟩ = some (.int .i64 n.par) ∧ w.cell? ⟨b, off + 2, none⟩ = some (.int .i64 n.wt) ∧
  w.cell? ⟨b, off + 3, none⟩ = some (.int .i64 n.pass) ∧ w.cell? ⟨b, off + 4, none⟩ = some (.bool n.thr) ∧ w.cell? ⟨b, off + 5, none⟩ = some (.bool n.rdy)
theorem NnE.ext {w w' : World} {b off : Nat} {n : Nn} (h : NnE w b off n) (k : Ext w w') : NnE w' b off n :=
  ⟨k.cell h.1, k.cell h.2.1, k.cell h.2.2.1, k.cell h.2.2.2.1, k.cell h.2.2.2.2.1, k.cell h.2.2.2.2.2⟩
abbrev NodesV (w : World) (v : Value) (l : List Nn) : Prop := Slc 6 NnE w v l
theorem NodesV.ext {w w' : World} {v : Value} {l : List Nn} (h : NodesV w v l) (k : Ext w w') : NodesV w' v l := h.mono fun _ _ _ he => he.ext k
/-- A row of them in a block of its own. -/
def ARow (w : World) (base : Nat) (v : Value) (l : List Nn) : Prop := w.ownsRow base 79 6 v l.length (l.flatMap nnc)
theorem ARow.nodes {w : World} {base : Nat} {v : Value} {l : List Nn} (h : ARow w base v l) : NodesV w v l := by
  rcases h.2 with ⟨rfl, h0⟩ | ⟨g, cap, cur, rfl, e2, e3, e4, e5, e6, e7⟩
  · exact ⟨none, 0, by rw [h0], by omega, by unfold maxLen; omega, fun hp => by omega⟩
  · refine ⟨some ⟨g, 0, none⟩, cap, rfl, e4, e5, fun _ => ⟨g, 0, rfl, fun i n hi => ?_⟩⟩
    have hil := (List.getElem?_eq_some_iff.1 hi).1
    have key : ∀ j, j < 6 → w.cell? ⟨g, 0 + i * 6 + j, none⟩ = (nnc n)[j]? := fun j hj => by
      have f0 := flat_get nnc_length l i n j hi hj
      rw [← e7, List.getElem?_take, if_pos (by omega)] at f0
      simp only [World.cell?, e3]
      rw [Nat.zero_add]
      simpa using f0
    exact ⟨key 0 (by omega), key 1 (by omega), key 2 (by omega), key 3 (by omega), key 4 (by omega), key 5 (by omega)⟩
theorem infoNn : (Tryz.prog.info? 79).map (fun i => (i.zero, i.size, i.bytes)) = some (some (.agg #[.int .i64 0, .int .i64 0, .int .i64 0, .int .i64 0, .bool false, .bool false]), 6, 40) := by kernel_rfl

end Go.Proofs.YtocicffmajbecaaGreat
