/- The program's latch in memory: its choices, three numbers each (how few there are, what is asked for, what holds). -/
import Derived.Test.YtbnjfahjbemleaaLt0
import Derived.Test.YtbnjfahjbemleaaConf
import Derived.Test.YtbnjfahjbemleaaBlk
import Derived.Test.YtbnjfahjbemleaaRwL
import Derived.Test.YtbnjfahjbemleaaCopy
import Derived.Test.YtbnjfahjbemleaaMvp
import Derived.Test.YtbnjfahjbemleaaErrV
import Derived.Test.YtbnjfahjbemleaaBx
import Derived.Test.YtbnjfahjbemleaaLays
import Derived.WalkSpells
import Derived.WalkLawsBesides
import Derived.Deep.QuietTactic
import Derived.BigQuiet
import Derived.Deep.LoopGhost
import Derived.Deep.CutRange
import Derived.Laws.MakeOwn
namespace Go.Proofs.Ytbnjfahjbemleaa
open Go.RowKit

/-- The choices at g, one a domain. -/
structure Chs (g : Nat) (fs al l : List Int) (w : World) : Prop where
  lt : g < w.heap.size
  fr : ∀ j, w.frozen? ⟨g, j, none⟩ = false
  few : ∀ d x, fs[d]? = some x → w.cell? ⟨g, d * 3, none⟩ = some (.int .i64 x)
  ask : ∀ d x, al[d]? = some x → w.cell? ⟨g, d * 3 + 1, none⟩ = some (.int .i64 x)
  hold : ∀ d x, l[d]? = some x → w.cell? ⟨g, d * 3 + 2, none⟩ = some (.int .i64 x)
theorem Chs.keep {g : Nat} {fs al l : List Int} {w w' : World} (h : Chs g fs al l w) (hs : w.heap.size ≤ w'.heap.size) (hk : w'.heap[g]? = w.heap[g]?) : Chs g fs al l w' := by
  have hc : ∀ j, w'.cell? ⟨g, j, none⟩ = w.cell? ⟨g, j, none⟩ := fun j => by simp only [World.cell?, hk]
  exact ⟨Nat.lt_of_lt_of_le h.lt hs, fun j => by rw [← h.fr j]; simp only [World.frozen?, hk], fun d x e => by rw [hc]; exact h.few d x e, fun d x e => by rw [hc]; exact h.ask d x e, fun d x e => by rw [hc]; exact h.hold d x e⟩
theorem Chs.ext {g : Nat} {fs al l : List Int} {w w' : World} (h : Chs g fs al l w) (k : Ext w w') : Chs g fs al l w' := h.keep k.size (k.below.block g h.lt)
theorem Chs.other {g : Nat} {fs al l : List Int} {w : World} (h : Chs g fs al l w) {b : Nat} (hb : g ≠ b) (j : Nat) (u : Value) : Chs g fs al l (w.setCell ⟨b, j, none⟩ u) :=
  h.keep (by simp [go_sem]) (Below.heap_setCell _ _ _ _ hb)
theorem cell_set_at {w : World} {g j : Nat} {x : Value} (i : Nat) (h : w.cell? ⟨g, j, none⟩ = some x) (u : Value) : (w.setCell ⟨g, i, none⟩ u).cell? ⟨g, j, none⟩ = some (if j = i then u else x) := by
  by_cases e : j = i
  · subst e
    rw [if_pos rfl]
    exact World.cell?_setCell_same w _ u h
  · rw [if_neg e, World.cell?_setCell_other w _ _ u (fun hh => e (by injection hh with _ h1; exact h1.symm))]
    exact h
theorem fro_set {w : World} {g : Nat} (h : ∀ j, w.frozen? ⟨g, j, none⟩ = false) (i : Nat) (u : Value) (j : Nat) : (w.setCell ⟨g, i, none⟩ u).frozen? ⟨g, j, none⟩ = false := by
  rw [← h j]; simp [go_sem]
theorem Chs.setFew {g : Nat} {fs al l : List Int} {w : World} (h : Chs g fs al l w) (k : Nat) (x : Int) : Chs g (fs.set k x) al l (w.setCell ⟨g, k * 3, none⟩ (.int .i64 x)) := by
  refine ⟨by simpa [World.setCell] using h.lt, fro_set h.fr _ _, fun d y e => ?_, fun d y e => ?_, fun d y e => ?_⟩
  · rw [List.getElem?_set] at e
    by_cases hd : k = d
    · subst hd
      rw [if_pos rfl] at e
      split at e
      · rename_i hk
        injection e with e
        subst e
        rw [cell_set_at _ (h.few k _ (List.getElem?_eq_getElem hk)), if_pos rfl]
      · cases e
    · rw [if_neg hd] at e
      rw [cell_set_at _ (h.few d y e), if_neg (by omega)]
  · rw [cell_set_at _ (h.ask d y e), if_neg (by omega)]
  · rw [cell_set_at _ (h.hold d y e), if_neg (by omega)]
theorem Chs.setAsk {g : Nat} {fs al l : List Int} {w : World} (h : Chs g fs al l w) (k : Nat) (x : Int) : Chs g fs (al.set k x) l (w.setCell ⟨g, k * 3 + 1, none⟩ (.int .i64 x)) := by
  refine ⟨by simpa [World.setCell] using h.lt, fro_set h.fr _ _, fun d y e => ?_, fun d y e => ?_, fun d y e => ?_⟩
  · rw [cell_set_at _ (h.few d y e), if_neg (by omega)]
  · rw [List.getElem?_set] at e
    by_cases hd : k = d
    · subst hd
      rw [if_pos rfl] at e
      split at e
      · rename_i hk
        injection e with e
        subst e
        rw [cell_set_at _ (h.ask k _ (List.getElem?_eq_getElem hk)), if_pos rfl]
      · cases e
    · rw [if_neg hd] at e
      rw [cell_set_at _ (h.ask d y e), if_neg (by omega)]
  · rw [cell_set_at _ (h.hold d y e), if_neg (by omega)]
theorem Chs.setHold {g : Nat} {fs al l : List Int} {w : World} (h : Chs g fs al l w) (k : Nat) (x : Int) : Chs g fs al (l.set k x) (w.setCell ⟨g, k * 3 + 2, none⟩ (.int .i64 x)) := by
  refine ⟨by simpa [World.setCell] using h.lt, fro_set h.fr _ _, fun d y e => ?_, fun d y e => ?_, fun d y e => ?_⟩
  · rw [cell_set_at _ (h.few d y e), if_neg (by omega)]
  · rw [cell_set_at _ (h.ask d y e), if_neg (by omega)]
  · rw [List.getElem?_set] at e
    by_cases hd : k = d
    · subst hd
      rw [if_pos rfl] at e
      split at e
      · rename_i hk
        injection e with e
        subst e
        rw [cell_set_at _ (h.hold k _ (List.getElem?_eq_getElem hk)), if_pos rfl]
      · cases e
    · rw [if_neg hd] at e
      rw [cell_set_at _ (h.hold d y e), if_neg (by omega)]
theorem choiceZ : (Try.prog.info? 49).map (fun i => (i.zero, i.size, i.bytes)) = some (some (.agg #[.int .i64 0, .int .i64 0, .int .i64 0]), 3, 24) := by kernel_rfl
/-- The choices made: all zero. -/
def choO (n : Nat) : Obj := .cells (madeCells #[.int .i64 0, .int .i64 0, .int .i64 0] (n * 3)) 49 (0, 0)
theorem run_makeCh (n : Nat) (hn : n ≤ 6) (w : World) : (Instr.makeSlice 50 (.int .i64 n) (.int .i64 n)).run Try.prog w = .ok (.slice (some ⟨w.heap.size, 0, none⟩) n n) (w.alloc (choO n)) := by
  obtain ⟨i0, hi, hz0, hz1, hz2⟩ := info_parts choiceZ
  have := run_make (P := Try.prog) w 50 49 i0 _ (by kernel_rfl) hi hz0 .i64 .i64 n n (by omega) (by omega) (by rw [hz2]; omega) (by omega)
  rw [this, Int.toNat_natCast, hz1]
  rfl
theorem Chs.new (w : World) (n : Nat) : Chs w.heap.size (List.replicate n 0) (List.replicate n 0) (List.replicate n 0) (w.alloc (choO n)) := by
  have hc : ∀ j, j < n * 3 → (w.alloc (choO n)).cell? ⟨w.heap.size, j, none⟩ = some (.int .i64 0) := by
    intro j hj
    have h3 : j % 3 = 0 ∨ j % 3 = 1 ∨ j % 3 = 2 := by omega
    simp only [World.cell?, heap_alloc_new, choO]
    simp only [Option.isSome_none, Bool.false_eq_true, if_false, madeCells, Array.getElem?_map, Array.getElem?_range, if_pos hj, Option.map_some]
    rcases h3 with h | h | h <;> (show some (#[Value.int .i64 0, .int .i64 0, .int .i64 0][j % 3]!) = _; rw [h]; rfl)
  have hr : ∀ d x, (List.replicate n (0 : Int))[d]? = some x → d < n ∧ x = 0 := by
    intro d x e
    rw [List.getElem?_replicate] at e
    split at e
    · exact ⟨by assumption, (Option.some.inj e).symm⟩
    · cases e
  refine ⟨lt_blk (heap_alloc_new w _), fun j => by simp only [World.frozen?, heap_alloc_new, choO]; simp, fun d x e => ?_, fun d x e => ?_, fun d x e => ?_⟩ <;> (obtain ⟨h1, rfl⟩ := hr d x e; exact hc _ (by omega))

def fews (c : Cnf) : List Int := c.doms.map fun d => (d.release.length : Int)
theorem fews_get {c : Cnf} {d : Nat} (h : d < c.doms.length) : (fews c)[d]? = some ((relOf c d).length : Int) := by
  simp [fews, relOf, h]
/-- The program's latch: its plan's choice and its choices at b, those at g. -/
structure PLg (b g : Nat) (c : Cnf) (s : Lt) (w : World) : Prop where
  ok : LtOk c s
  blk : Blk w b 52 [.int .i64 c.plans.length, .int .i64 s.ap, .int .i64 s.p, .slice (some ⟨g, 0, none⟩) c.doms.length c.doms.length]
  ch : Chs g (fews c) s.al s.l w
  ne : g ≠ b
  d1 : 0 < c.doms.length
  d6 : c.doms.length ≤ 6
structure PL (A : Nat → Prop) (b : Nat) (c : Cnf) (s : Lt) (w : World) : Prop where
  at' : ∃ g, (∀ k, A k ↔ k = b ∨ k = g) ∧ PLg b g c s w
theorem PL.ok {A : Nat → Prop} {b : Nat} {c : Cnf} {s : Lt} {w : World} (h : PL A b c s w) : LtOk c s := by obtain ⟨g, -, h⟩ := h.at'; exact h.ok
theorem PL.lt {A : Nat → Prop} {b : Nat} {c : Cnf} {s : Lt} {w : World} (h : PL A b c s w) : ∀ k, A k → k < w.heap.size := by
  obtain ⟨g, hA, h⟩ := h.at'
  intro k hk
  rcases (hA k).1 hk with rfl | rfl
  · exact h.blk.lt
  · exact h.ch.lt
theorem PL.keep {A : Nat → Prop} {b : Nat} {c : Cnf} {s : Lt} {w w' : World} (h : PL A b c s w) (hs : w.heap.size ≤ w'.heap.size) (hk : ∀ k, A k → w'.heap[k]? = w.heap[k]?) : PL A b c s w' := by
  obtain ⟨g, hA, h⟩ := h.at'
  refine ⟨⟨g, hA, h.ok, ?_, h.ch.keep hs (hk g ((hA g).2 (.inr rfl))), h.ne, h.d1, h.d6⟩⟩
  unfold Blk
  rw [hk b ((hA b).2 (.inl rfl))]
  exact h.blk
theorem PLg.cells {b g : Nat} {c : Cnf} {s : Lt} {w : World} (h : PLg b g c s w) :
    w.cell? ⟨b, 0, none⟩ = some (.int .i64 c.plans.length) ∧ w.cell? ⟨b, 1, none⟩ = some (.int .i64 s.ap) ∧ w.cell? ⟨b, 2, none⟩ = some (.int .i64 s.p) ∧ w.cell? ⟨b, 3, none⟩ = some (.slice (some ⟨g, 0, none⟩) c.doms.length c.doms.length) ∧ (∀ j, w.frozen? ⟨b, j, none⟩ = false) ∧ b < w.heap.size :=
  ⟨h.blk.cell (i := 0) (by simp), h.blk.cell (i := 1) (by simp), h.blk.cell (i := 2) (by simp), h.blk.cell (i := 3) (by simp), fun j => h.blk.frozen j, h.blk.lt⟩
end Go.Proofs.Ytbnjfahjbemleaa
