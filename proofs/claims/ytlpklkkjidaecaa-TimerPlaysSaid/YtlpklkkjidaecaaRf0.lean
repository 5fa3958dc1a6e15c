/- The document's own timers in memory: Drop, Next. -/
import Derived.Test.YtlpklkkjidaecaaTiK
import Derived.Test.YtlpklkkjidaecaaSl
import Derived.WalkKit
import Derived.WalkSpells
import Derived.WalkLawsBesides
import Derived.Deep.LoopGhost
import Derived.OwnWalk
import Derived.Handy
namespace Go.Proofs.Ytlpklkkjidaecaa
open Go.RowKit
namespace Rf
open Rw Ti

theorem enS : IsEn Try.prog 54 := by unfold IsEn; kernel_rfl
/-- Timers of the document's at block y. -/
structure Rm (base y : Nat) (v : Value) (l : List En) (w : World) : Prop where
  blk : w.heap[y]? = some (.cells #[v] 29 (0, 0))
  row : Row 54 w base v l.length l
  bx : base ≤ y
def ROwn (y : Nat) (v : Value) (k : Nat) : Prop := k = y ∨ v.ownBlock = some k

section
variable {base y : Nat} {v : Value} {l : List En} {w w' : World}
theorem Rm.lt (h : Rm base y v l w) : y < w.heap.size := lt_blk h.blk
theorem Rm.cells (h : Rm base y v l w) : w.cell? ⟨y, 0, none⟩ = some v ∧ w.frozen? ⟨y, 0, none⟩ = false := by
  have := h.blk
  exact ⟨by simp [World.cell?, this], by simp [World.frozen?, this]⟩
theorem Rm.own (h : Rm base y v l w) : ∀ k, ROwn y v k → base ≤ k ∧ k < w.heap.size := by
  intro k hk
  rcases hk with rfl | hk
  · exact ⟨h.bx, h.lt⟩
  · exact h.row.lt k hk
theorem Rm.ext (h : Rm base y v l w) (k : Ext w w') : Rm base y v l w' := ⟨by rw [k.below.block y h.lt]; exact h.blk, h.row.ext k, h.bx⟩
/-- Another row laid in it: one made since. -/
theorem Rm.lay {v' : Value} {l' : List En} {w0 : World} (h : Rm base y v l w0) (k : Ext w0 w) (hr : w.ownsRow w0.heap.size 54 2 v' l'.length (l'.flatMap ecells)) (hb : base ≤ w0.heap.size) :
    Rm base y v' l' (w.setCell ⟨y, 0, none⟩ v') ∧ Mvp (ROwn y v) (ROwn y v') w0 (w.setCell ⟨y, 0, none⟩ v') := by
  have hR : Row 54 w w0.heap.size v' l'.length l' := Row.of_owns hr
  have hyw : w.heap[y]? = some (.cells #[v] 29 (0, 0)) := by rw [k.below.block y h.lt]; exact h.blk
  refine ⟨⟨by rw [set_same hyw]; rfl, (hR.keep fun g hg => ?_).base hb, h.bx⟩, ?_⟩
  · have := (hR.lt g hg).1
    have := h.lt
    exact Below.heap_setCell _ _ _ _ (by simp; omega)
  · have h1 := (Mvp.of_ext (A := ROwn y v) k).set (g := y) (.inl rfl) 0 v'
    refine ⟨h1.os, h1.tape, h1.output, h1.size, h1.block, fun i hi => ?_⟩
    rcases hi with rfl | hi
    · exact .inl (.inl rfl)
    · exact .inr (hR.lt i hi).1

theorem others_step (id : Int) {l : List En} {k : Nat} (hk : k < l.length) : others id (l.take (k + 1)) = if l[k].1 = id then others id (l.take k) else others id (l.take k) ++ [l[k]] := by
  rw [List.take_succ_eq_append_getElem hk]
  unfold others
  rw [List.filter_append]
  by_cases h : l[k].1 = id
  · simp [h]
  · simp [h]
theorem others_take (id : Int) (l : List En) (k : Nat) : (others id (l.take k)).length ≤ k := Nat.le_trans (List.length_filter_le _ _) (List.length_take_le _ _)

set_option maxRecDepth 100000 in
set_option maxHeartbeats 4000000 in
theorem drop_any (h : Rm base y v l w) (hl : l.length ≤ 1000) (hb : base ≤ w.heap.size) (id : Int) :
    Calls Try.prog 12 #[.pointer (some ⟨y, 0, none⟩), .int .i64 id] w fun e w' => e = .returned (.bool (decide ((others id l).length < l.length))) ∧ ∃ v', Rm base y v' (others id l) w' ∧ Mvp (ROwn y v) (ROwn y v') w w' := by
  obtain ⟨p, cap, rfl, -, -, -⟩ := h.row.slice
  obtain ⟨c0, f0⟩ := h.cells
  have hylt := h.lt
  have HH := hid h
  have HL := hid hl
  have HB := hid hb
  clear h hl hb
  go_enter Try.func12, Try.ntmps12
  go_wp2_with fail
  go_loopw [6, 5] (fun s vl wr => ∃ k : Nat, s = .int .i64 k ∧ k ≤ l.length ∧ Ext w wr ∧ Hid (wr.ownsRow w.heap.size 54 2 vl (others id (l.take k)).length ((others id (l.take k)).flatMap ecells))) (fun s _ _ => (l.length - intOf s).toNat)
  case atStart => exact ⟨0, rfl, by omega, Ext.refl _, World.ownsRow_nil _ _ _ _⟩
  case round =>
    obtain ⟨k, rfl, hk, hx, hrow⟩ := hrel
    have hlb := HL.out
    by_cases hlt : k < l.length
    · obtain ⟨g, cap', e, -, hg, -, -⟩ := HH.out.row.shape (by omega)
      injection e with e _ ec
      subst e ec
      obtain ⟨d0, d1, -, -⟩ := HH.out.row.cell (List.getElem?_eq_getElem hlt)
      have q0 := hx.cell d0
      have q1 := hx.cell d1
      have q2 := hx.cell c0
      have hst := others_step id hlt
      have htk := others_take id l k
      have i4 : (k : Int) < (l.length : Int) := by omega
      generalize l[k] = q at *
      clear d0 d1
      by_cases hid' : q.1 = id
      · have i5 : (q.1 == id) = true := by simpa using hid'
        rw [if_pos hid'] at hst
        have HST := hid hst
        clear hst hid'
        go_wp2
        go_roundw
        case rel => exact ⟨k + 1, by go_num, by omega, hx, by rw [HST.out]; exact hrow⟩
        case measure => simp [intOf]; omega
      · have i5 : (q.1 == id) = false := by simpa using hid'
        rw [if_neg hid'] at hst
        have HST := hid hst
        have HTK := hid htk
        have hws := hx.size
        clear hst hid' htk
        go_wp2_with (at_builtin; refine wpList_push_own rfl (.tmp 27) (.tmp 35) 27 54 (.agg #[.int .i64 0, .int .i64 0]) 2 16 rfl Try.underlying27 enS rfl (by decide) (w := wr) (base := w.heap.size) hrow.out (news := [.int .i64 q.1, .int .i64 q.2]) rfl (by intro u hu; simp at hu; rcases hu with rfl | rfl <;> rfl) (by unfold maxLen; have := HTK.out; omega) (by have := HTK.out; omega) hws (by rfl) (nb := wr.heap.size) (by rfl) rfl ?_; intro p1 c1 w1 ho1 hb1; have HO := hid ho1; have HX : Hid (Ext w w1) := ⟨Below.trans hx.below hb1⟩; clear ho1 hb1)
        go_roundw
        case rel => exact ⟨k + 1, by go_num, by omega, HX.out, by rw [HST.out, List.flatMap_append, List.length_append]; exact HO.out⟩
        case measure => simp [intOf]; omega
    · obtain rfl : k = l.length := by omega
      have hfull : others id (l.take l.length) = others id l := by rw [List.take_length]
      rw [hfull] at hrow
      obtain ⟨pv, cv, rfl⟩ := owns_shape hrow.out
      have q2 := hx.cell c0
      have f2 : wr.frozen? ⟨y, 0, none⟩ = false := by rw [hx.below.frozen hylt]; exact f0
      obtain ⟨N, hN⟩ : ∃ N, N = (others id l).length := ⟨_, rfl⟩
      have HFIN := hid (HH.out.lay hx hrow.out HB.out)
      rw [← hN] at hrow
      have HN := hid hN
      rw [← hN]
      rw [← hN] at HFIN
      clear hfull hrow hN
      go_wp2
      go_returns
      exact ⟨by rw [HN.out]; rfl, _, HFIN.out⟩
end
end Rf
end Go.Proofs.Ytlpklkkjidaecaa
