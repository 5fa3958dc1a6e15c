/- The document's own timers: Due; their state in a walk. -/
import Derived.Test.YtlpklkkjidaecaaRf3
import Derived.Maps.AppendAt
namespace Go.Proofs.Ytlpklkkjidaecaa
open Go.RowKit
namespace Rf
open Rw Ti
set_option linter.unusedSimpArgs false

/-- Within Due: those that are due so far, those that sleep on so far. -/
structure Part (w : World) (tk sl : List En) (vd vl : Value) (wr : World) : Prop where
  xt : Ext w wr
  due : wr.ownsRow w.heap.size 3 1 vd tk.length (tk.map fun e => .int .i64 e.1)
  on : wr.ownsRow w.heap.size 54 2 vl sl.length (sl.flatMap ecells)
  apart : ∀ k, vd.ownBlock = some k → vl.ownBlock ≠ some k
section
variable {w wr w2 : World} {tk sl : List En} {vd vl : Value} {q : En}
theorem grown_ext {b : Option Nat} (h : Ext w wr) (k : wr.grownBy w2 b) (hb : ∀ i, b = some i → w.heap.size ≤ i) : Ext w w2 := by
  refine ⟨⟨k.os.trans h.below.os, k.tape.trans h.below.tape, k.output.trans h.below.output, Nat.le_trans h.size k.size, fun i hi => ?_⟩⟩
  rw [k.block i (Nat.lt_of_lt_of_le hi h.size) fun e => absurd (hb i e.symm) (by omega)]
  exact h.below.block i hi
theorem Part.pushD {o : Obj} {vd' : Value} (h : Part w tk sl vd vl wr) (k : (wr.alloc o).grownBy w2 vd.ownBlock) (hloc : vd'.ownBlock = vd.ownBlock ∨ vd'.ownBlock = some (wr.alloc o).heap.size)
    (ho : w2.ownsRow w.heap.size 3 1 vd' (tk.length + 1) ((tk.map fun e : En => .int .i64 e.1) ++ [.int .i64 q.1])) : Part w (tk ++ [q]) sl vd' vl w2 := by
  have hx1 : Ext w (wr.alloc o) := Ext.alloc h.xt o
  have hon := owns_ext h.on (Ext.alloc (Ext.refl wr) o)
  have hbd := owns_below h.due
  have hbl := owns_below h.on
  refine ⟨grown_ext hx1 k fun i hi => (hbd i hi).1, by rw [List.length_append, List.map_append]; exact ho, owns_keep hon fun g hg => k.block g (owns_below hon g hg).2 (fun e => h.apart g e.symm hg), fun i hi hl => ?_⟩
  rcases hloc with h1 | h1
  · exact h.apart i (h1 ▸ hi) hl
  · rw [hi] at h1
    have h2 := (hbl i hl).2
    have h3 : i = (wr.alloc o).heap.size := Option.some.inj h1
    simp at h3
    omega
theorem Part.pushS {o : Obj} {vl' : Value} (h : Part w tk sl vd vl wr) (k : (wr.alloc o).grownBy w2 vl.ownBlock) (hloc : vl'.ownBlock = vl.ownBlock ∨ vl'.ownBlock = some (wr.alloc o).heap.size)
    (ho : w2.ownsRow w.heap.size 54 2 vl' (sl.length + 1) (sl.flatMap ecells ++ [.int .i64 q.1, .int .i64 q.2])) : Part w tk (sl ++ [q]) vd vl' w2 := by
  have hx1 : Ext w (wr.alloc o) := Ext.alloc h.xt o
  have hon := owns_ext h.due (Ext.alloc (Ext.refl wr) o)
  have hbd := owns_below h.due
  have hbl := owns_below h.on
  refine ⟨grown_ext hx1 k fun i hi => (hbl i hi).1, owns_keep hon fun g hg => k.block g (owns_below hon g hg).2 (fun e => h.apart g hg e.symm), by rw [List.length_append, List.flatMap_append]; exact ho, fun i hi hl => ?_⟩
  rcases hloc with h1 | h1
  · exact h.apart i hi (h1 ▸ hl)
  · rw [hl] at h1
    have h2 := (hbd i hi).2
    have h3 : i = (wr.alloc o).heap.size := Option.some.inj h1
    simp at h3
    omega
end
theorem isDue_take {tick : Int} {l : List En} {k : Nat} (hk : k < l.length) (h : l[k].2 ≤ tick) : isDue tick (l.take (k + 1)) = isDue tick (l.take k) ++ [l[k]] ∧ sleepOn tick (l.take (k + 1)) = sleepOn tick (l.take k) := by
  rw [List.take_succ_eq_append_getElem hk]
  unfold isDue sleepOn
  rw [List.filter_append, List.filter_append]
  simp [h]
theorem sleepOn_take {tick : Int} {l : List En} {k : Nat} (hk : k < l.length) (h : ¬ l[k].2 ≤ tick) : isDue tick (l.take (k + 1)) = isDue tick (l.take k) ∧ sleepOn tick (l.take (k + 1)) = sleepOn tick (l.take k) ++ [l[k]] := by
  rw [List.take_succ_eq_append_getElem hk]
  unfold isDue sleepOn
  rw [List.filter_append, List.filter_append]
  simp [h]
theorem due_len (tick : Int) (l : List En) (k : Nat) : (isDue tick (l.take k)).length ≤ l.length ∧ (sleepOn tick (l.take k)).length ≤ l.length := by
  have h := List.length_take_le k l
  have h' : (l.take k).length ≤ l.length := by rw [List.length_take]; omega
  exact ⟨Nat.le_trans (List.length_filter_le _ _) h', Nat.le_trans (List.length_filter_le _ _) h'⟩

section
variable {base y : Nat} {v : Value} {l : List En} {w w' : World}
theorem infoS : (Try.prog.info? 54).map (fun i => (i.zero, i.size, i.bytes)) = some (some (.agg #[.int .i64 0, .int .i64 0]), 2, 16) := enS
set_option maxRecDepth 100000 in
set_option maxHeartbeats 8000000 in
theorem due_any (h : Rm base y v l w) (hl : l.length ≤ 1000) (hb : base ≤ w.heap.size) (tick : Int) :
    Calls Try.prog 15 #[.pointer (some ⟨y, 0, none⟩), .int .i64 tick] w fun e w' => ∃ vd v', e = .returned vd ∧ Rm base y v' (sleepOn tick l) w' ∧ Mvp (ROwn y v) (ROwn y v') w w' ∧
      w'.ownsRow w.heap.size 3 1 vd (isDue tick l).length ((isDue tick l).map fun e => .int .i64 e.1) ∧ ∀ k, vd.ownBlock = some k → ¬ ROwn y v' k := by
  obtain ⟨p, cap, rfl, -, -, -⟩ := h.row.slice
  obtain ⟨c0, f0⟩ := h.cells
  have hylt := h.lt
  obtain ⟨i0, hi, hz0, hz1, hz2⟩ := info_parts infoI
  obtain ⟨i1, hi', hz0', hz1', hz2'⟩ := info_parts infoS
  have HH := hid h
  have HL := hid hl
  have HB := hid hb
  clear h hl hb
  go_enter Try.func15, Try.ntmps15
  go_wp2_with fail
  go_loopw [5, 6, 7] (fun vd vl s wr => ∃ k : Nat, s = .int .i64 k ∧ k ≤ l.length ∧ Hid (Part w (isDue tick (l.take k)) (sleepOn tick (l.take k)) vd vl wr)) (fun _ _ s _ => (l.length - intOf s).toNat)
  case atStart => exact ⟨0, rfl, by omega, ⟨Ext.refl _, World.ownsRow_nil _ _ _ _, World.ownsRow_nil _ _ _ _, fun k hk => by cases hk⟩⟩
  case round =>
    obtain ⟨k, rfl, hk, hp⟩ := hrel
    have hlb := HL.out
    have hx := hp.out.xt
    have q2 := hx.cell c0
    by_cases hlt : k < l.length
    · obtain ⟨g, cap', e, -, hg, -, -⟩ := HH.out.row.shape (by omega)
      injection e with e _ ec
      subst e ec
      obtain ⟨d0, d1, -, -⟩ := HH.out.row.cell (List.getElem?_eq_getElem hlt)
      have q0 := hx.cell d0
      have q1 := hx.cell d1
      have hdl := due_len tick l k
      have i4 : (k : Int) < (l.length : Int) := by omega
      have hws := hx.size
      have HT1 := hid (@isDue_take tick l k hlt)
      have HT2 := hid (@sleepOn_take tick l k hlt)
      have HDL := hid hdl
      have HXS := hid hws
      generalize l[k] = q at *
      clear d0 d1 hx hdl hws
      by_cases hd : q.2 ≤ tick
      · have hq : decide (q.2 ≤ tick) = true := by simpa using hd
        have HT := hid (HT1.out hd)
        have q3 : (wr.alloc (.cells #[.int .i64 q.1] 3 (0, 0))).heap.size = wr.heap.size + 1 := by simp
        clear HT1 HT2
        go_wp2_with (at_builtin; refine wpList_append_own_at _ rfl _ _ 35 rfl w.heap.size 3 i0 (.int .i64 0) 1 8 Try.underlying35 hi hz0 hz1 hz2 rfl (by decide) _ _ _ rfl (hp.out.due.alloc _) ⟨wr.heap.size, 0, none⟩ 1 1 [.int .i64 q.1] rfl rfl (cell_one_new _ _ _) (ints_oneCell .i64 [q.1]) (by unfold maxLen; have := HDL.out; omega) (by have := HDL.out; omega) (by have := HXS.out; simp; omega) ?_; intro vd' w2 hown' hgrow hnil hloc; have H2 := hid (hp.out.pushD (q := q) hgrow hloc hown'); clear hnil hloc hgrow hown')
        go_roundw
        case rel => exact ⟨k + 1, by go_num, by omega, by rw [HT.out.1, HT.out.2]; exact H2⟩
        case measure => simp [intOf]; omega
      · have hq : decide (q.2 ≤ tick) = false := by simpa using hd
        have HT := hid (HT2.out hd)
        clear HT1 HT2
        go_wp2_with (at_builtin; refine wpList_append_own_at _ rfl _ _ 27 rfl w.heap.size 54 i1 (.agg #[.int .i64 0, .int .i64 0]) 2 16 Try.underlying27 hi' hz0' hz1' hz2' rfl (by decide) _ _ _ rfl (hp.out.on.alloc _) ⟨wr.heap.size, 0, none⟩ 1 1 [.int .i64 q.1, .int .i64 q.2] rfl rfl (by intro j u hj; rw [add_add, Nat.zero_add, blk_cellS (heap_alloc_new wr _) j]; simpa using hj) (by intro u hu; simp at hu; rcases hu with rfl | rfl <;> rfl) (by unfold maxLen; have := HDL.out; omega) (by have := HDL.out; omega) (by have := HXS.out; simp; omega) ?_; intro vd' w2 hown' hgrow hnil hloc; have H2 := hid (hp.out.pushS (q := q) hgrow hloc hown'); clear hnil hloc hgrow hown')
        go_roundw
        case rel => exact ⟨k + 1, by go_num, by omega, by rw [HT.out.1, HT.out.2]; exact H2⟩
        case measure => simp [intOf]; omega
    · obtain rfl : k = l.length := by omega
      have hp1 := hp.out
      rw [List.take_length] at hp1
      have HP := hid hp1
      obtain ⟨pv, cv, rfl⟩ := owns_shape hp1.on
      have f2 : wr.frozen? ⟨y, 0, none⟩ = false := by rw [hx.below.frozen hylt]; exact f0
      have HFIN := hid (HH.out.lay hx hp1.on HB.out)
      have HX := hid hx
      have HN : Hid (y < w.heap.size) := hylt
      clear hp1 hp hx
      generalize (sleepOn tick l).length = N at *
      go_wp2
      go_returns
      refine ⟨_, _, rfl, HFIN.out.1, HFIN.out.2, owns_keep HP.out.due fun g hg => Below.heap_setCell _ _ _ _ fun e => ?_, fun k hk hc => ?_⟩
      · have := (owns_below HP.out.due g hg).1
        have := HN.out
        simp at e
        omega
      · rcases hc with rfl | hc
        · have := (owns_below HP.out.due _ hk).1
          have := HN.out
          omega
        · exact HP.out.apart k hk hc
end
end Rf
end Go.Proofs.Ytlpklkkjidaecaa
