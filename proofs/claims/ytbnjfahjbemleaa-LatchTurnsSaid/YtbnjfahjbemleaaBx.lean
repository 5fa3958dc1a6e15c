/- A row made, as a row owned; a configuration that lies boxed. No program is named here. -/
import Derived.Test.YtbnjfahjbemleaaBlk
import Derived.Test.YtbnjfahjbemleaaCopy
import Derived.Test.YtbnjfahjbemleaaMath3
namespace Go.Proofs.Ytbnjfahjbemleaa
open Go.RowKit

theorem Rw1.of_blk' {g T : Nat} {L : List Value} {w : World} (h : Blk w g T L) (hl : L.length ≤ maxLen) : Rw1 0 T g L.length L w :=
  ⟨⟨by simp, .inr ⟨g, L.length, L.toArray, rfl, Nat.zero_le _, h, Nat.le_refl _, hl, by simp, by simp⟩⟩⟩
/-- A world in which the configuration lies boxed at g. -/
structure Bx (W : World) (g : Nat) (c : Cnf) (pv dv : Value) (w : World) : Prop where
  x : Ext W w
  c0 : w.cell? ⟨g, 0, none⟩ = some (.int .i64 c.frame)
  c1 : w.cell? ⟨g, 1, none⟩ = some (.int .i64 c.epoch)
  c2 : w.cell? ⟨g, 2, none⟩ = some pv
  c3 : w.cell? ⟨g, 3, none⟩ = some dv
theorem Bx.ext {W : World} {g : Nat} {c : Cnf} {pv dv : Value} {w w' : World} (h : Bx W g c pv dv w) (k : Ext w w') : Bx W g c pv dv w' := ⟨h.x.trans k, k.cell h.c0, k.cell h.c1, k.cell h.c2, k.cell h.c3⟩
end Go.Proofs.Ytbnjfahjbemleaa
