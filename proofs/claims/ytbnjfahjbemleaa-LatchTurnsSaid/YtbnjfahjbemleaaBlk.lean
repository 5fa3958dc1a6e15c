/- A row of values in a block of its own; rows of numbers made, written out. -/
import Derived.Test.YtbnjfahjbemleaaRows
import Derived.Test.YtbnjfahjbemleaaLib
import Derived.Test.YtbnjfahjbemleaaMv
import Derived.Test.YtbnjfahjbemleaaInts
import Derived.WalkKit
import Derived.Handy
import Derived.Laws.MakeOwn
namespace Go.Proofs.Ytbnjfahjbemleaa
open Go.RowKit

/-- A row of values in a block of its own. -/
def Blk (w : World) (g T : Nat) (L : List Value) : Prop := w.heap[g]? = some (.cells L.toArray T (0, 0))
theorem Blk.lt {w : World} {g T : Nat} {L : List Value} (h : Blk w g T L) : g < w.heap.size := lt_blk h
theorem Blk.cell {w : World} {g T : Nat} {L : List Value} (h : Blk w g T L) {i : Nat} (hi : i < L.length) : w.cell? ⟨g, i, none⟩ = some L[i] := by
  unfold Blk at h
  simp [World.cell?, h, hi]
theorem Blk.frozen {w : World} {g T : Nat} {L : List Value} (h : Blk w g T L) (i : Nat) : w.frozen? ⟨g, i, none⟩ = false := by
  unfold Blk at h
  simp [World.frozen?, h]
theorem Blk.ext {w w' : World} {g T : Nat} {L : List Value} (h : Blk w g T L) (k : Ext w w') : Blk w' g T L := by
  unfold Blk at h ⊢
  rw [k.below.block g (lt_blk h)]; exact h
theorem Blk.set {w : World} {g T : Nat} {L : List Value} (h : Blk w g T L) (j : Nat) (u : Value) : Blk (w.setCell ⟨g, j, none⟩ u) g T (L.set j u) := by
  unfold Blk at h ⊢
  rw [set_same h]; simp
theorem Blk.other {w : World} {g T : Nat} {L : List Value} (h : Blk w g T L) {b : Nat} (hb : g ≠ b) (j : Nat) (u : Value) : Blk (w.setCell ⟨b, j, none⟩ u) g T L := by
  unfold Blk at h ⊢
  rw [Below.heap_setCell _ _ _ _ hb]; exact h
theorem take_set_succ {α : Type} {L : List α} {k : Nat} (h : k < L.length) (v : α) : (L.set k v).take (k + 1) = L.take k ++ [v] := by
  rw [List.take_succ_eq_append_getElem (by simpa using h), List.take_set, List.set_eq_of_length_le (by simp; omega)]
  simp

def iV (k : Int) : Value := .int .i64 k
abbrev Iz (w : World) (g : Nat) (l : List Int) : Prop := Blk w g 3 (l.map iV)
theorem Iz.at {w : World} {g : Nat} {l : List Int} (h : Iz w g l) {i : Nat} (hi : i < l.length) : w.cell? ⟨g, i, none⟩ = some (.int .i64 l[i]) := by
  have := Blk.cell h (i := i) (by simpa using hi)
  simpa [iV] using this
theorem Iz.ints {w : World} {g : Nat} {l : List Int} (h : Iz w g l) (hl : l.length ≤ maxLen) : Ints w (.slice (some ⟨g, 0, none⟩) l.length l.length) l := by
  refine ⟨some ⟨g, 0, none⟩, l.length, rfl, Nat.le_refl _, hl, fun _ => ⟨g, 0, rfl, fun i x hx => ?_⟩⟩
  obtain ⟨hi, rfl⟩ := List.getElem?_eq_some_iff.1 hx
  rw [Nat.zero_add, Nat.mul_one]
  exact h.at hi

theorem Blk.new (w : World) (T : Nat) (L : List Value) : Blk (w.alloc (.cells L.toArray T (0, 0))) w.heap.size T L := heap_alloc_new w _

theorem made_rep (v : Value) (hv : v.cells = #[v]) (n : Nat) : madeCells v.cells (n * 1) = (List.replicate n v).toArray := by
  apply Array.ext
  · simp [madeCells]
  · intro i h1 h2
    have e : i % 1 = 0 := Nat.mod_one i
    simp [madeCells, hv, e]
theorem run_makeI (n : Nat) (hn : n ≤ 6) (w : World) : (Instr.makeSlice 34 (.int .i64 n) (.int .i64 n)).run Try.prog w = .ok (.slice (some ⟨w.heap.size, 0, none⟩) n n) (w.alloc (.cells (List.replicate n (Value.int .i64 0)).toArray 3)) := by
  obtain ⟨i0, hi, hz0, hz1, hz2⟩ := info_parts infoI
  have := run_make (P := Try.prog) w 34 3 i0 (.int .i64 0) (by kernel_rfl) hi hz0 .i64 .i64 n n (by omega) (by omega) (by rw [hz2]; omega) (by omega)
  rw [this, Int.toNat_natCast, hz1, made_rep _ rfl]
/-- A row written out. -/
theorem lit_ints {w : World} {g n : Nat} (l : List Int) (hg : g = w.heap.size) (hn : n = l.length) (hl : l.length ≤ 100) : Ints (w.alloc (.cells (l.map iV).toArray 3 (0, 0))) (.slice (some ⟨g, 0, none⟩) n n) l := by
  subst hg hn
  exact Iz.ints (Blk.new w 3 (l.map iV)) (by unfold maxLen; omega)

theorem lit3 {w : World} {g : Nat} (a b c : Int) (hg : g = w.heap.size) : Ints (w.alloc (.cells #[.int .i64 a, .int .i64 b, .int .i64 c] 3 (0, 0))) (.slice (some ⟨g, 0, none⟩) 3 3) [a, b, c] := lit_ints [a, b, c] hg rfl (by simp)
theorem lit3b {w : World} {g : Nat} (a b c d e f : Int) (hg : g = w.heap.size) : Ints ((w.alloc (.cells #[.int .i64 a, .int .i64 b, .int .i64 c] 3 (0, 0))).alloc (.cells #[.int .i64 d, .int .i64 e, .int .i64 f] 3 (0, 0))) (.slice (some ⟨g, 0, none⟩) 3 3) [a, b, c] := (lit3 a b c hg).ext (Ext.alloc (Ext.refl _) _)
theorem lit1 {w : World} {g : Nat} (a : Int) (hg : g = w.heap.size) : Ints (w.alloc (.cells #[.int .i64 a] 3 (0, 0))) (.slice (some ⟨g, 0, none⟩) 1 1) [a] := lit_ints [a] hg rfl (by simp)
theorem lit2 {w : World} {g : Nat} (a b : Int) (hg : g = w.heap.size) : Ints (w.alloc (.cells #[.int .i64 a, .int .i64 b] 3 (0, 0))) (.slice (some ⟨g, 0, none⟩) 2 2) [a, b] := lit_ints [a, b] hg rfl (by simp)
theorem lit4 {w : World} {g : Nat} (a b c d : Int) (hg : g = w.heap.size) : Ints (w.alloc (.cells #[.int .i64 a, .int .i64 b, .int .i64 c, .int .i64 d] 3 (0, 0))) (.slice (some ⟨g, 0, none⟩) 4 4) [a, b, c, d] := lit_ints [a, b, c, d] hg rfl (by simp)
theorem lit8 {w : World} {g : Nat} (a b c d e f h i : Int) (hg : g = w.heap.size) : Ints (w.alloc (.cells #[.int .i64 a, .int .i64 b, .int .i64 c, .int .i64 d, .int .i64 e, .int .i64 f, .int .i64 h, .int .i64 i] 3 (0, 0))) (.slice (some ⟨g, 0, none⟩) 8 8) [a, b, c, d, e, f, h, i] := lit_ints [a, b, c, d, e, f, h, i] hg rfl (by simp)
end Go.Proofs.Ytbnjfahjbemleaa
