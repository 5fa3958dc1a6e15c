/- The document's own objects in memory: counts, rows; obj, has. -/
import Derived.Test.YtoimkocjfijlkaaDoorObM
import Derived.Test.YtoimkocjfijlkaaDoorMvp
import Derived.Test.YtoimkocjfijlkaaDoorInts
import Derived.Test.YtoimkocjfijlkaaDoorSl
import Derived.Test.YtoimkocjfijlkaaDoorTail
import Derived.Test.YtoimkocjfijlkaaDoorPiece
import Derived.WalkKit
import Derived.WalkSpells
import Derived.WalkLawsBesides
import Derived.Deep.LoopGhost
import Derived.OwnWalk
import Derived.Handy
namespace Go.Proofs.YtoimkocjfijlkaaDoor
open Go.RowKit
set_option maxRecDepth 100000
set_option linter.unusedSimpArgs false
namespace Ro
open Ob (upd upd_same upd_other four flat)

/-- A slice of these numbers, in a block that isn't y. -/
def RW (base y : Nat) (w : World) (v : Value) (l : List Int) : Prop :=
  (v = .slice none 0 0 ∧ l = []) ∨ ∃ g off cap, v = .slice (some ⟨g, off, none⟩) l.length cap ∧ l.length ≤ cap ∧ cap ≤ maxLen ∧ (base ≤ g ∧ g ≠ y ∧ g < w.heap.size) ∧ ∀ (i : Nat) (k : Int), l[i]? = some k → w.cell? ⟨g, off + i, none⟩ = some (.int .i64 k)
def sblk : Value → Option Nat
  | .slice (some a) _ _ => some a.block
  | _ => none
/-- Objects of the document's at y. -/
structure RO (base y : Nat) (c : Nat → Int) (V : Nat → Value) (W : Nat → List Int) (w : World) : Prop where
  blk : ∃ cs, w.heap[y]? = some (.cells cs 31 (0, 0)) ∧ cs.size = 8 ∧ ∀ i, i < 4 → cs[i]? = some (.int .i64 (c i)) ∧ cs[4 + i]? = some (V i)
  rows : ∀ i, i < 4 → RW base y w (V i) (W i)
  bx : base ≤ y
def ROwn (y : Nat) (V : Nat → Value) (k : Nat) : Prop := k = y ∨ ∃ i, i < 4 ∧ sblk (V i) = some k

section
variable {base y : Nat} {c : Nat → Int} {V : Nat → Value} {W : Nat → List Int} {w w' : World} {v : Value} {l : List Int}
theorem RW.keep (h : RW base y w v l) (hs : w.heap.size ≤ w'.heap.size) (k : ∀ g, sblk v = some g → w'.heap[g]? = w.heap[g]?) : RW base y w' v l := by
  rcases h with h | ⟨g, off, cap, rfl, h1, h2, h3, h4⟩
  · exact .inl h
  · refine .inr ⟨g, off, cap, rfl, h1, h2, ⟨h3.1, h3.2.1, Nat.lt_of_lt_of_le h3.2.2 hs⟩, fun i x hx => ?_⟩
    have := h4 i x hx
    unfold World.cell? at this ⊢
    simp only at this ⊢
    rw [k g rfl]
    exact this
theorem RW.ext (h : RW base y w v l) (k : Ext w w') : RW base y w' v l := by
  refine h.keep k.size fun g hg => ?_
  rcases h with ⟨rfl, _⟩ | ⟨g', off, cap, rfl, _, _, h3, _⟩
  · cases hg
  · cases hg
    exact k.below.block _ h3.2.2
theorem RW.ints (h : RW base y w v l) : Ints w v l := by
  rcases h with ⟨rfl, rfl⟩ | ⟨g, off, cap, rfl, h1, h2, h3, h4⟩
  · exact ⟨none, 0, rfl, by simp, by unfold maxLen; omega, fun h => by simp at h⟩
  · exact ⟨_, cap, rfl, h1, h2, fun _ => ⟨g, off, rfl, fun i x hx => by rw [Nat.mul_one]; exact h4 i x hx⟩⟩
theorem RW.shape (h : RW base y w v l) : ∃ p cap, v = .slice p l.length cap ∧ l.length ≤ cap ∧ cap ≤ maxLen := h.ints.shape
theorem RW.src (h : RW base y w v l) : Rw.Src w 1 v l.length (l.map fun k => .int .i64 k) := by
  rcases h with ⟨rfl, rfl⟩ | ⟨g, off, cap, rfl, h1, h2, h3, h4⟩
  · exact .inl ⟨rfl, rfl, rfl⟩
  · refine .inr ⟨_, _, rfl, by simp, fun j u hj => ?_⟩
    rw [add_add]
    rw [List.getElem?_map] at hj
    cases hl : l[j]? with
    | none => rw [hl] at hj; cases hj
    | some k =>
      rw [hl] at hj
      cases hj
      exact h4 j k hl
/-- A row owned, made since. -/
theorem RW.of_owns {b : Nat} (h : w.ownsRow b 3 1 v l.length (l.map fun k => .int .i64 k)) (hb : base ≤ b) (hy : y < b) : RW base y w v l := by
  have hi := ints_of_owns h
  rcases h.2 with ⟨rfl, hq⟩ | ⟨g, cap, cur, rfl, e2, e3, e4, e5, _⟩
  · have : l = [] := List.eq_nil_of_length_eq_zero (by simpa using hq)
    subst this
    exact .inl ⟨rfl, rfl⟩
  · obtain ⟨p, cap', q, h1, h2, h3⟩ := hi
    injection q with q1 q2 q3
    subst q1 q3
    refine .inr ⟨g, 0, cap, rfl, h1, h2, ⟨by omega, by omega, lt_blk e3⟩, fun i x hx => ?_⟩
    obtain ⟨b', off', q, h4⟩ := h3 (by have := (List.getElem?_eq_some_iff.1 hx).1; omega)
    injection q with q
    injection q with q1 q2
    subst q1 q2
    have := h4 i x hx
    rwa [Nat.mul_one] at this
theorem RO.lt (h : RO base y c V W w) : y < w.heap.size := by
  obtain ⟨cs, h1, _⟩ := h.blk
  exact lt_blk h1
theorem RO.cell (h : RO base y c V W w) {i : Nat} (hi : i < 4) : w.cell? ⟨y, i, none⟩ = some (.int .i64 (c i)) ∧ w.cell? ⟨y, 4 + i, none⟩ = some (V i) := by
  obtain ⟨cs, h1, _, h2⟩ := h.blk
  obtain ⟨e1, e2⟩ := h2 i hi
  exact ⟨by simp [World.cell?, h1, e1], by simp [World.cell?, h1, e2]⟩
theorem RO.free (h : RO base y c V W w) (j : Nat) : w.frozen? ⟨y, j, none⟩ = false := by
  obtain ⟨cs, h1, _⟩ := h.blk
  simp [World.frozen?, h1]
theorem RO.row_lt (h : RO base y c V W w) {i g : Nat} (hi : i < 4) (hg : sblk (V i) = some g) : base ≤ g ∧ g ≠ y ∧ g < w.heap.size := by
  rcases h.rows i hi with ⟨q, _⟩ | ⟨g', off, cap, q, _, _, h3, _⟩
  · rw [q] at hg; cases hg
  · rw [q] at hg; cases hg; exact h3
theorem RO.own (h : RO base y c V W w) : ∀ k, ROwn y V k → base ≤ k ∧ k < w.heap.size := by
  rintro k (rfl | ⟨i, hi, hk⟩)
  · exact ⟨h.bx, h.lt⟩
  · have := h.row_lt hi hk
    exact ⟨this.1, this.2.2⟩
theorem RO.keep (h : RO base y c V W w) (hs : w.heap.size ≤ w'.heap.size) (k : ∀ b, ROwn y V b → w'.heap[b]? = w.heap[b]?) : RO base y c V W w' := by
  obtain ⟨cs, h1, h2⟩ := h.blk
  exact ⟨⟨cs, (k y (.inl rfl)).trans h1, h2⟩, fun i hi => (h.rows i hi).keep hs fun g hg => k g (.inr ⟨i, hi, hg⟩), h.bx⟩
theorem RO.ext (h : RO base y c V W w) (k : Ext w w') : RO base y c V W w' := h.keep k.size fun b hb => k.below.block b (h.own b hb).2
/-- A count laid in it. -/
theorem RO.setC (h : RO base y c V W w) {i : Nat} (hi : i < 4) (u : Int) : RO base y (upd c i u) V W (w.setCell ⟨y, i, none⟩ (.int .i64 u)) := by
  obtain ⟨cs, h1, h2, h3⟩ := h.blk
  refine ⟨⟨_, set_same h1 _ _, by simpa using h2, fun j hj => ?_⟩, fun j hj => (h.rows j hj).keep (by simp [World.setCell]) fun g hg => Below.heap_setCell _ _ _ _ (by simpa using (h.row_lt hj hg).2.1), h.bx⟩
  obtain ⟨e1, e2⟩ := h3 j hj
  rw [Array.getElem?_setIfInBounds, Array.getElem?_setIfInBounds, if_neg (show ¬ i = 4 + j by omega)]
  refine ⟨?_, e2⟩
  by_cases e : j = i
  · subst e; rw [if_pos rfl, upd_same, if_pos (by omega)]
  · rw [if_neg (by omega), upd_other e]; exact e1
/-- A row laid in it. -/
theorem RO.setW (h : RO base y c V W w) {i : Nat} (hi : i < 4) {u : Value} {l : List Int} (hu : RW base y w u l) : RO base y c (upd V i u) (upd W i l) (w.setCell ⟨y, 4 + i, none⟩ u) := by
  obtain ⟨cs, h1, h2, h3⟩ := h.blk
  have hk : ∀ g, g ≠ y → (w.setCell ⟨y, 4 + i, none⟩ u).heap[g]? = w.heap[g]? := fun g hg => Below.heap_setCell _ _ _ _ (by simpa using hg)
  refine ⟨⟨_, set_same h1 _ _, by simpa using h2, fun j hj => ?_⟩, fun j hj => ?_, h.bx⟩
  · obtain ⟨e1, e2⟩ := h3 j hj
    rw [Array.getElem?_setIfInBounds, Array.getElem?_setIfInBounds, if_neg (show ¬ 4 + i = j by omega)]
    refine ⟨e1, ?_⟩
    by_cases e : j = i
    · subst e; rw [if_pos rfl, upd_same, if_pos (by omega)]
    · rw [if_neg (by omega), upd_other e]; exact e2
  · by_cases e : j = i
    · subst e
      rw [upd_same, upd_same]
      refine hu.keep (by simp [World.setCell]) fun g hg => hk g ?_
      rcases hu with ⟨rfl, _⟩ | ⟨g', off, cap, rfl, _, _, h3, _⟩
      · cases hg
      · cases hg; exact h3.2.1
    · rw [upd_other e, upd_other e]
      exact (h.rows j hj).keep (by simp [World.setCell]) fun g hg => hk g (h.row_lt hj hg).2.1
/-- What a store into it touches: it alone. -/
theorem ro_mv {V' : Nat → Value} (h : Mvp (ROwn y V) (ROwn y V) w w') (k : ∀ i, i < 4 → ∀ g, sblk (V' i) = some g → ROwn y V g ∨ w.heap.size ≤ g) : Mvp (ROwn y V) (ROwn y V') w w' :=
  ⟨h.os, h.tape, h.output, h.size, h.block, fun g hg => by
    rcases hg with rfl | ⟨i, hi, hg⟩
    · exact .inl (.inl rfl)
    · exact k i hi g hg⟩
end

set_option maxHeartbeats 1000000 in
theorem obj_in (w : World) {i : Nat} (hi : i < 4) : Calls Tryd.prog 19 #[.int .i64 i] w fun e w' => e = .returned (.bool true) ∧ w' = w := by
  have i1 : decide ((0 : Int) ≤ (i : Int)) = true := by rw [decide_eq_true_iff]; omega
  have i2 : decide ((i : Int) < 4) = true := by rw [decide_eq_true_iff]; omega
  have i3 : (i : Int) < 4 := by omega
  go_enter Tryd.func19, Tryd.ntmps19
  go_wp2
  go_returns
  exact ⟨by simp [i3], rfl⟩
set_option maxHeartbeats 1000000 in
theorem obj_out (w : World) {o : Int} (h : o < 0 ∨ 4 ≤ o) : Calls Tryd.prog 19 #[.int .i64 o] w fun e w' => e = .returned (.bool false) ∧ w' = w := by
  by_cases h0 : o < 0
  · have i1 : decide (0 ≤ o) = false := by rw [decide_eq_false_iff_not]; omega
    clear h h0
    go_enter Tryd.func19, Tryd.ntmps19
    go_wp2
    go_returns
    exact ⟨rfl, rfl⟩
  · have i1 : decide (0 ≤ o) = true := by rw [decide_eq_true_iff]; omega
    have i2 : decide (o < 4) = false := by rw [decide_eq_false_iff_not]; omega
    clear h h0
    go_enter Tryd.func19, Tryd.ntmps19
    go_wp2
    go_returns
    exact ⟨rfl, rfl⟩
set_option maxHeartbeats 4000000 in
theorem has_any (w : World) (v : Value) (l : List Int) (id : Int) (h : Ints w v l) (hl : l.length ≤ 1000000) : Calls Tryd.prog 20 #[v, .int .i64 id] w (Yields w (.bool (l.contains id))) := by
  obtain ⟨p, cap, rfl, -, -⟩ := h.shape
  have HL := hid h
  have HB := hid hl
  clear h hl
  go_enter Tryd.func20, Tryd.ntmps20
  go_wp2_with fail
  go_loopw [5] (fun s wr => ∃ j : Nat, s = .int .i64 j ∧ j ≤ l.length ∧ Ext w wr ∧ Hid ((l.take j).contains id = false)) (fun s _ => (l.length - intOf s).toNat)
  case atStart => exact ⟨0, rfl, by omega, Ext.refl _, rfl⟩
  case round =>
    obtain ⟨j, rfl, hj, hx, hno⟩ := hrel
    have hb := HB.out
    by_cases hlt : j < l.length
    · obtain ⟨g, off, rfl, c0⟩ := HL.out.at j hlt
      simp only [Nat.mul_one] at c0
      have c1 := hx.cell c0
      have i2 : (j : Int) < (l.length : Int) := by omega
      have ht : Hid (l.take (j + 1) = l.take j ++ [l[j]]) := List.take_succ_eq_append_getElem hlt
      have hc : Hid (l.contains id = (l.take j ++ (l[j] :: l.drop (j + 1))).contains id) := by rw [Hid, ← List.drop_eq_getElem_cons hlt, List.take_append_drop]
      generalize l[j] = P at *
      clear c0
      by_cases hp : P = id
      · have hq : (P == id) = true := by simpa using hp
        have HP := hid hp
        clear hp
        go_wp2
        go_returns
        refine ⟨?_, hx⟩
        rw [hc.out]
        simp [HP.out]
      · have hq : (P == id) = false := by simpa using hp
        have HP := hid hp
        clear hp
        go_wp2
        go_roundw
        case rel => exact ⟨j + 1, by go_num, by omega, hx, by rw [Hid, ht.out, List.contains_append, hno.out]; simp; exact fun e => HP.out e.symm⟩
        case measure => simp [intOf]; omega
    · obtain rfl : j = l.length := by omega
      go_wp2
      go_returns
      have := hno.out
      rw [List.take_length] at this
      exact ⟨by rw [this]; rfl, hx⟩
theorem has_to {w : World} {v : Value} {l : List Int} {id : Int} {r : Bool} (h : Ints w v l) (hl : l.length ≤ 1000000) (e : l.contains id = r) : Calls Tryd.prog 20 #[v, .int .i64 id] w (Yields w (.bool r)) := e ▸ has_any w v l id h hl
end Ro
end Go.Proofs.YtoimkocjfijlkaaDoor
