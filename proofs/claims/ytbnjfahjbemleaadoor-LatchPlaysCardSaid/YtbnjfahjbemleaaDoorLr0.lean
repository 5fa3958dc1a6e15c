/- The document's latch (tontineref15.Latch) in memory; its AskPlan, AskLevel. -/
import Derived.Test.YtbnjfahjbemleaaDoorLt0
import Derived.Test.YtbnjfahjbemleaaDoorConf
import Derived.Test.YtbnjfahjbemleaaDoorBlk
import Derived.Test.YtbnjfahjbemleaaDoorRwL
import Derived.Test.YtbnjfahjbemleaaDoorCopy
import Derived.Test.YtbnjfahjbemleaaDoorMvp
import Derived.WalkSpells
import Derived.WalkLawsBesides
import Derived.Deep.QuietTactic
import Derived.BigQuiet
import Derived.Deep.LoopGhost
import Derived.Deep.CutRange
import Derived.Laws.MakeOwn
namespace Go.Proofs.YtbnjfahjbemleaaDoor
open Go.RowKit

/-- The cells of the document's latch. -/
abbrev ltCells (c : Cnf) (pv dv : Value) (s : Lt) (gl cl ga ca : Nat) : List Value :=
  [.int .i64 c.frame, .int .i64 c.epoch, pv, dv, .int .i64 s.p, .int .i64 s.ap, .slice (some ⟨gl, 0, none⟩) c.doms.length cl, .slice (some ⟨ga, 0, none⟩) c.doms.length ca]
/-- The document's latch lies at b, its rows at gl, ga. -/
structure RLt (b : Nat) (c : Cnf) (pv dv : Value) (s : Lt) (gl cl ga ca : Nat) (w : World) : Prop where
  blk : Blk w b 46 (ltCells c pv dv s gl cl ga ca)
  l : Rw1 0 3 gl cl (s.l.map iV) w
  al : Rw1 0 3 ga ca (s.al.map iV) w
  n1 : b ≠ gl
  n2 : b ≠ ga
  n3 : gl ≠ ga
  ok : LtOk c s
theorem Mvp.anew {A B C : Nat → Prop} {w w1 : World} (h : Mvp A B w w1) (hC : ∀ k, C k → A k ∨ w.heap.size ≤ k) : Mvp A C w w1 := ⟨h.os, h.tape, h.output, h.size, h.block, hC⟩
/-- Its blocks. -/
def LtB (b gl ga : Nat) (i : Nat) : Prop := i = b ∨ i = gl ∨ i = ga
theorem RLt.ext {b : Nat} {c : Cnf} {pv dv : Value} {s : Lt} {gl cl ga ca : Nat} {w w' : World} (h : RLt b c pv dv s gl cl ga ca w) (k : Ext w w') : RLt b c pv dv s gl cl ga ca w' :=
  ⟨h.blk.ext k, h.l.ext k, h.al.ext k, h.n1, h.n2, h.n3, h.ok⟩
theorem RLt.cells {b : Nat} {c : Cnf} {pv dv : Value} {s : Lt} {gl cl ga ca : Nat} {w : World} (h : RLt b c pv dv s gl cl ga ca w) :
    w.cell? ⟨b, 0, none⟩ = some (.int .i64 c.frame) ∧ w.cell? ⟨b, 1, none⟩ = some (.int .i64 c.epoch) ∧ w.cell? ⟨b, 2, none⟩ = some pv ∧ w.cell? ⟨b, 3, none⟩ = some dv ∧ w.cell? ⟨b, 4, none⟩ = some (.int .i64 s.p) ∧ w.cell? ⟨b, 5, none⟩ = some (.int .i64 s.ap) ∧
    w.cell? ⟨b, 6, none⟩ = some (.slice (some ⟨gl, 0, none⟩) c.doms.length cl) ∧ w.cell? ⟨b, 7, none⟩ = some (.slice (some ⟨ga, 0, none⟩) c.doms.length ca) ∧ (∀ j, w.frozen? ⟨b, j, none⟩ = false) ∧ b < w.heap.size :=
  ⟨h.blk.cell (i := 0) (by simp), h.blk.cell (i := 1) (by simp), h.blk.cell (i := 2) (by simp), h.blk.cell (i := 3) (by simp), h.blk.cell (i := 4) (by simp), h.blk.cell (i := 5) (by simp), h.blk.cell (i := 6) (by simp), h.blk.cell (i := 7) (by simp), fun j => h.blk.frozen j, h.blk.lt⟩
theorem RLt.far {b : Nat} {c : Cnf} {pv dv : Value} {s : Lt} {gl cl ga ca : Nat} {w : World} (h : RLt b c pv dv s gl cl ga ca w) : gl < w.heap.size ∧ ga < w.heap.size := ⟨h.l.blk.2.1, h.al.blk.2.1⟩

set_option maxRecDepth 100000 in
set_option maxHeartbeats 2000000 in
theorem raskPlan_any {b : Nat} {c : Cnf} {pp : Option Addr} {cp : Nat} {dv : Value} {s : Lt} {gl cl ga ca : Nat} {w : World} (h : RLt b c (.slice pp c.plans.length cp) dv s gl cl ga ca w) (i : Int) :
    Calls Tryd.prog 11 #[.pointer (some ⟨b, 0, none⟩), .int .i64 i] w fun e w' => e = .returned (.int .i64 (s.askPlan c i).1) ∧ Mvp (LtB b gl ga) (LtB b gl ga) w w' ∧ RLt b c (.slice pp c.plans.length cp) dv (s.askPlan c i).2 gl cl ga ca w' := by
  have H := hid h
  obtain ⟨-, -, k2, -, -, k5, -, -, kf, hb⟩ := h.cells
  have f5 := kf 5
  clear h kf
  by_cases h0 : i < 0
  · have hE : Hid (s.askPlan c i = (10, s)) := hid (by unfold Lt.askPlan; rw [if_neg (by omega)])
    go_enter Tryd.func11, Tryd.ntmps11
    go_wp2
    go_returns
    rw [hE.out]
    exact ⟨by simp, Mvp.refl _ _, H.out⟩
  by_cases h1 : (c.plans.length : Int) ≤ i
  · have hE : Hid (s.askPlan c i = (10, s)) := hid (by unfold Lt.askPlan; rw [if_neg (by omega)])
    go_enter Tryd.func11, Tryd.ntmps11
    go_wp2
    go_returns
    rw [hE.out]
    exact ⟨by simp, Mvp.refl _ _, H.out⟩
  · have hE : Hid (s.askPlan c i = (0, { s with ap := i })) := hid (by unfold Lt.askPlan; rw [if_pos (by omega)])
    have hok : Hid (LtOk c { s with ap := i }) := hid (by have := H.out.ok.askPlan i; rw [hE.out] at this; exact this)
    go_enter Tryd.func11, Tryd.ntmps11
    go_wp2
    go_returns
    rw [hE.out]
    have hR := H.out
    exact ⟨by simp, (Mvp.refl _ _).set (.inl rfl) 5 _, by
      have := hR.blk.set 5 (.int .i64 i)
      simpa using this, hR.l.other hR.n1 _ _, hR.al.other hR.n2 _ _, hR.n1, hR.n2, hR.n3, hok.out⟩
end Go.Proofs.YtbnjfahjbemleaaDoor
