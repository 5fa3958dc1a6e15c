/- Shift. -/
import Derived.Test.YthjnnjjjjponnaaPq5
import Derived.WalkKit
import Derived.WalkSpells
import Derived.WalkLawsBesides
import Derived.Deep.LoopGhost
import Derived.Handy
namespace Go.Proofs.Ythjnnjjjjponnaa
open Go.RowKit

theorem shift_take (by' : Int) (rows : List En) (k : Nat) (hk : k < rows.length) : shiftL by' (rows.take (k + 1)) [] = ins (max 0 (rows[k].1 - by'), rows[k].2) (shiftL by' (rows.take k) []) := by
  rw [List.take_succ_eq_append_getElem hk, shiftL_snoc]
theorem shift_len (by' : Int) (rows : List En) (k : Nat) (hk : k ≤ rows.length) : (shiftL by' (rows.take k) []).length = k := by
  rw [shiftL_length]; simp; omega

set_option maxRecDepth 100000 in
set_option maxHeartbeats 4000000 in
theorem shift_any (base x : Nat) (v : Value) (room : Int) (rows : List En) (n : Int) (w : World) (h : Ix base x v room rows.length rows w) (hb : base ≤ x) (hl : rows.length ≤ 1000) (hp : ∀ e ∈ rows, 0 ≤ e.1 ∧ e.1 ≤ 1099511627776) :
    Calls Try.prog 14 #[.pointer (some ⟨x, 0, none⟩), .int .i64 n] w fun e w' => e = .returned (.tuple #[]) ∧ Went base x v room (shiftL (max 0 (min n 1099511627776)) rows []) w w' := by
  have HI := hid h
  have HL := hid hl
  have HP := hid hp
  obtain ⟨B, hB⟩ : ∃ B, B = max 0 (min n 1099511627776) := ⟨_, rfl⟩
  have hB0 : 0 ≤ B := by omega
  have hB1 : B ≤ 1099511627776 := by omega
  have hheld := hid (show ∀ w, Calls Try.prog 18 #[.int .i64 n, .int .i64 1099511627776] w fun e w' => e = .returned (.int .i64 B) ∧ w' = w from fun w => hB ▸ held_any n _ w)
  rw [← hB]
  clear hB hp hl
  obtain ⟨c0, -, f0, -⟩ := h.cells
  have hlt := h.lt
  by_cases hz : rows.length = 0
  · have hn : rows = [] := List.eq_nil_of_length_eq_zero hz
    subst hn
    obtain ⟨p, cap, rfl, -, hc2, hpn⟩ := h.row.slice
    unfold maxLen at hc2
    have hrow := hid h.row
    have hblk := hid h.blk
    have hsl : Hid (∃ c', Value.slice p 0 cap = .slice p 0 c') := ⟨cap, rfl⟩
    clear h hsl
    cases p with
    | none =>
      obtain rfl := hpn rfl
      go_enter Try.func14, Try.ntmps14
      go_wp2_with (go_at_call 18; (with_reducible refine (hheld.out _).mono ?_); rintro e w1 ⟨rfl, hw1⟩; rw [hw1]; clear hw1; clear w1)
      refine wp_loop_rounds 1 ?_
      rw [rounds_succ]
      go_wp2
      go_returns
      exact ⟨rfl, _, Ix.lay hblk.out hrow.out, (Mv.refl _ _ _).setX _ _⟩
    | some a =>
      go_enter Try.func14, Try.ntmps14
      go_wp2_with (go_at_call 18; (with_reducible refine (hheld.out _).mono ?_); rintro e w1 ⟨rfl, hw1⟩; rw [hw1]; clear hw1; clear w1)
      refine wp_loop_rounds 1 ?_
      rw [rounds_succ]
      go_wp2
      go_returns
      exact ⟨rfl, _, Ix.lay hblk.out hrow.out, (Mv.refl _ _ _).setX _ _⟩
  obtain ⟨g, cap, rfl, hgb, hgl, hc1, hc2⟩ := h.row.shape (by omega)
  unfold maxLen at hc2
  clear h hz
  go_enter Try.func14, Try.ntmps14
  go_wp2_with (go_at_call 18; (with_reducible refine (hheld.out _).mono ?_); rintro e w1 ⟨rfl, hw1⟩; rw [hw1]; clear hw1; clear w1)
  have h0 : Hid (Ix base x (.slice (some ⟨g, 0, none⟩) 0 cap) room 0 rows (w.setCell ⟨x, 0, none⟩ (.slice (some ⟨g, 0, none⟩) 0 cap)) ∧ Mv x (.slice (some ⟨g, 0, none⟩) rows.length cap) (.slice (some ⟨g, 0, none⟩) 0 cap) w (w.setCell ⟨x, 0, none⟩ (.slice (some ⟨g, 0, none⟩) 0 cap))) :=
    ⟨Ix.lay HI.out.blk (HI.out.row.cut (Nat.zero_le _)), (Mv.value (v2 := .slice (some ⟨g, 0, none⟩) 0 cap) (Mv.refl x (.slice (some ⟨g, 0, none⟩) rows.length cap) w) rfl).setX 0 _⟩
  go_loopw [21] (fun s wr => ∃ k : Nat, s = .int .i64 k ∧ k ≤ rows.length ∧ Hid (Ix base x (.slice (some ⟨g, 0, none⟩) k cap) room k (shiftL B (rows.take k) [] ++ rows.drop k) wr ∧ Mv x (.slice (some ⟨g, 0, none⟩) rows.length cap) (.slice (some ⟨g, 0, none⟩) k cap) w wr)) (fun s _ => (rows.length - intOf s).toNat)
  case atStart => exact ⟨0, rfl, Nat.zero_le _, by simpa [shiftL] using h0⟩
  case round =>
    obtain ⟨k, rfl, hk, hst⟩ := hrel
    by_cases hlt2 : k < rows.length
    · have HL2 := hid (shift_len B rows k (by omega))
      have HT2 := hid (shift_take B rows k hlt2)
      obtain ⟨d0, d1, -, -⟩ := hst.out.1.row.cell (i := k) (p := rows[k]) (by rw [List.getElem?_append_right (by rw [HL2.out]; exact Nat.le_refl _), HL2.out, Nat.sub_self, List.getElem?_drop, Nat.add_zero, List.getElem?_eq_getElem hlt2])
      have hb2 := HP.out _ (List.getElem_mem hlt2)
      have hne : Hid (rows.drop k ≠ []) := by intro e; have := congrArg List.length e; simp at this; omega
      have hdr : Hid ((rows.drop k).drop 1 = rows.drop (k + 1)) := by rw [Hid, List.drop_drop]
      generalize rows[k] = q at *
      obtain ⟨q1, q2⟩ := q
      simp only at d0 d1 hb2
      have i1 : (k : Int) < (rows.length : Int) := by omega
      have hgl2 := World.block_lt_of_cell? _ _ d0
      simp only at hgl2
      have HX : Hid (∀ w2, Ext wr w2 → Ix base x (.slice (some ⟨g, 0, none⟩) k cap) room (shiftL B (rows.take k) []).length (shiftL B (rows.take k) [] ++ rows.drop k) w2) := fun w2 hx => by rw [HL2.out]; exact hst.out.1.ext hx
      have hxl : x < wr.heap.size := hst.out.1.lt
      go_wp2_with fail
      all_goals
        (with_reducible refine (place_any base x (.slice (some ⟨g, 0, none⟩) k cap) room (shiftL B (rows.take k) []) (rows.drop k) (_, _) _ (HX.out _ (by repeat (first | exact Ext.refl _ | assumption | refine Ext.more ?_ _ | refine Ext.drew ?_ | refine Ext.drewN ?_ _ | refine Ext.alloc ?_ _ | refine Ext.setCell ?_ (by simp; try omega) _ | refine Ext.trans ?_ (by assumption)))) (by rw [HL2.out]; have := HL.out; omega) (by simp; omega)).mono ?_)
        rintro e w2 ⟨rfl, v2, hI, hM, hs⟩
        obtain ⟨q, c, e1, rfl⟩ := hs hne.out
        injection e1 with e1 e2 e3
        clear e2
        subst e1 e3
        have HN : Hid (Ix base x (.slice (some ⟨g, 0, none⟩) (k + 1) cap) room (k + 1) (shiftL B (rows.take (k + 1)) [] ++ rows.drop (k + 1)) w2 ∧ Mv x (.slice (some ⟨g, 0, none⟩) rows.length cap) (.slice (some ⟨g, 0, none⟩) (k + 1) cap) w w2) := by
          rw [HL2.out, hdr.out] at hI
          rw [HL2.out] at hM
          have hM2 := (hst.out.2.ext (w2 := wr.alloc _) (by repeat (first | exact Ext.refl _ | assumption | refine Ext.more ?_ _ | refine Ext.drew ?_ | refine Ext.drewN ?_ _ | refine Ext.alloc ?_ _ | refine Ext.setCell ?_ (by simp; try omega) _ | refine Ext.trans ?_ (by assumption)))).trans hM
          rw [HT2.out]
          first
          | (rw [show max 0 (q1 - B) = q1 - B from by omega]; exact ⟨hI, hM2⟩)
          | (rw [show max 0 (q1 - B) = 0 from by omega]; exact ⟨hI, hM2⟩)
        clear hI hM hs
        go_wp2
        go_roundw
        case rel => exact ⟨k + 1, by go_num, by omega, HN⟩
        case measure => simp [intOf]; omega
    · obtain rfl : k = rows.length := by omega
      have HLen := hid (shiftL_length B rows [])
      have HN : Hid (Went base x (.slice (some ⟨g, 0, none⟩) rows.length cap) room (shiftL B rows []) w wr) := by
        obtain ⟨hI, hM⟩ := hst.out
        rw [List.take_length, List.drop_length, List.append_nil] at hI
        exact ⟨_, by rw [HLen.out]; simpa using hI, hM⟩
      go_wp2
      go_returns
      exact ⟨rfl, HN.out⟩
end Go.Proofs.Ythjnnjjjjponnaa
