/- The program's latch: Levels. -/
import Derived.Test.YtbnjfahjbemleaaLp1
namespace Go.Proofs.Ytbnjfahjbemleaa
open Go.RowKit

set_option maxRecDepth 100000 in
set_option maxHeartbeats 4000000 in
theorem pLevels {A : Nat → Prop} {b : Nat} {c : Cnf} {s : Lt} {w : World} (h : PL A b c s w) (_h0 : 0 < s.l.length) : Calls Try.prog 8 #[.pointer (some ⟨b, 0, none⟩)] w fun e w' => ∃ g cap, e = .returned (.slice (some ⟨g, 0, none⟩) s.l.length cap) ∧ Ext w w' ∧ w.heap.size ≤ g ∧ Rw1 0 3 g cap (s.l.map iV) w' := by
  obtain ⟨g, -, h⟩ := h.at'
  have H := hid h
  obtain ⟨-, -, -, k3, -, hb⟩ := h.cells
  have d6 := h.d6
  have hl := hid h.ok.ll
  have hal := hid h.ok.al
  have hmk := run_makeI c.doms.length d6
  clear h
  go_enter Try.func8, Try.ntmps8
  go_upto_region 2 with fail
  obtain ⟨gr, hgr⟩ : ∃ gr, gr = w.heap.size := ⟨_, rfl⟩
  refine wp_forget (fun u => Ext w u ∧ Hid (Iz u gr (List.replicate c.doms.length 0))) ⟨ext_by, hid (by rw [hgr]; have := Blk.new w 3 (List.replicate c.doms.length (Value.int .i64 0)); unfold Iz; rw [List.map_replicate]; simpa [iV] using this)⟩ ?_
  simp only [← hgr]
  have hg0 : w.heap.size ≤ gr := by omega
  clear hgr hmk
  rintro W ⟨X, HZ⟩
  have k3' := X.cell k3
  have hb' : b < W.heap.size := World.block_lt_of_cell? _ _ k3'
  go_wp2
  go_loopw [17] (fun v17 wr => Ext w wr ∧ ∃ k : Nat, v17 = .int .i64 k ∧ k ≤ c.doms.length ∧ Hid (∃ L, Iz wr gr L ∧ L.length = c.doms.length ∧ ∀ j, j < k → L[j]? = s.l[j]?)) (fun v17 _ => (c.doms.length - intOf v17).toNat)
  case atStart => exact ⟨X, 0, rfl, by omega, hid ⟨_, HZ.out, by simp, fun j hj => by omega⟩⟩
  case round =>
    obtain ⟨hx, k, rfl, hk, hP⟩ := hrel
    clear HZ k3' hb' X
    by_cases hlt : k < c.doms.length
    · have i1 : (k : Int) < c.doms.length := by omega
      have HR := hid (H.out.ext hx)
      obtain ⟨L, hL⟩ := hP.out
      have HL := hid hL
      have c0 := HR.out.ch.few k _ (fews_get hlt)
      obtain ⟨y, c1⟩ : ∃ y : Int, wr.cell? ⟨g, k * 3 + 1, none⟩ = some (.int .i64 y) := ⟨_, HR.out.ch.ask k _ (List.getElem?_eq_getElem (by rw [hal.out]; exact hlt))⟩
      have hll : k < s.l.length := by rw [hl.out]; exact hlt
      have c2 := HR.out.ch.hold k _ (List.getElem?_eq_getElem hll)
      have HQ : Hid (s.l[k]? = some s.l[k]) := hid (List.getElem?_eq_getElem hll)
      generalize s.l[k] = x at *
      generalize ((relOf c k).length : Int) = few at *
      have hg := HR.out.ch.lt
      obtain ⟨old, q1⟩ : ∃ old, wr.cell? ⟨gr, k, none⟩ = some old := ⟨_, Blk.cell hL.1 (i := k) (by rw [List.length_map, hL.2.1]; exact hlt)⟩
      have q2 := hL.1.frozen k
      have q3 : gr < wr.heap.size := hL.1.lt
      clear hL hP
      go_wp2
      go_roundw
      case rel =>
        refine ⟨ext_by, k + 1, by go_num, by omega, hid ⟨L.set k x, ?_, by rw [List.length_set]; exact HL.out.2.1, fun j hj => ?_⟩⟩
        · have := Blk.ext (Blk.set HL.out.1 k (.int .i64 x)) (w' := (wr.setCell ⟨gr, k, none⟩ (.int .i64 x)).alloc (.cells #[.int .i64 few, .int .i64 y, .int .i64 x] 49 (0, 0))) ext_by
          unfold Iz
          rw [List.map_set]
          exact this
        · rcases (show j < k ∨ j = k by omega) with h | rfl
          · rw [List.getElem?_set_ne (by omega)]; exact HL.out.2.2 j h
          · rw [List.getElem?_set_self (by rw [HL.out.2.1]; exact hlt), HQ.out]
      case measure => simp [intOf]; omega
    · obtain rfl : k = c.doms.length := by omega
      go_wp2
      go_returns
      obtain ⟨L, hL, hn, hj⟩ := hP.out
      obtain rfl : L = s.l := List.ext_getElem? fun j => by
        rcases Nat.lt_or_ge j c.doms.length with h | h
        · exact hj j h
        · rw [List.getElem?_eq_none (by omega), List.getElem?_eq_none (by rw [hl.out]; exact h)]
      have := Rw1.of_blk' hL (by rw [List.length_map, hl.out]; unfold maxLen; omega)
      rw [List.length_map, hl.out] at this
      rw [hl.out]
      exact ⟨gr, c.doms.length, by simp, hx, hg0, this⟩
end Go.Proofs.Ytbnjfahjbemleaa
