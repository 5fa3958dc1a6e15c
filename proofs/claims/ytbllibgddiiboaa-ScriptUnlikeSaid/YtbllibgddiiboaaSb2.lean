/- What script's writing comes to: a domain. -/
import Derived.Test.YtbllibgddiiboaaSb1
import Derived.Test.YtbllibgddiiboaaLays
import Derived.Deep.RegionHeld3
import Derived.Deep.CutRange
namespace Go.Proofs.Ytbllibgddiiboaa
open Go.RowKit

abbrev domO (d : Dom) (vr ve : Value) : Obj := .cells #[.int .i64 d.level, .int .u64 d.cats, vr, ve, .int .i64 d.to, .int .i64 d.threads, .int .i64 d.groups, .int .i64 d.ring, .int .i64 d.sends, .int .i64 d.box] 54 (0, 0)
/-- Where the writing stands: P is written, the box lies, all below is as it was. -/
structure Wrs (base b N : Nat) (o : Obj) (P : List UInt8) (W w : World) : Prop where
  wr : Wr base b P w
  ext : Ext W w
  below : Below base W w
  box : w.heap[N]? = some o
theorem Wrs.step {base b N : Nat} {cs : Array Value} {T : TypeId} {P P' : List UInt8} {W w w' : World} (h : Wrs base b N (.cells cs T (0, 0)) P W w) (hW : W.heap.size = base) (hb : Below base w w') (hw : Wr base b P' w') (hk : KW w w') (h1 : T ≠ 5) (h2 : T ≠ 98) : Wrs base b N (.cells cs T (0, 0)) P' W w' :=
  ⟨hw, ⟨by have := h.below.trans hb; rwa [hW]⟩, h.below.trans hb, hk N cs T h.box h1 h2⟩
theorem Wrs.more {base b N : Nat} {o : Obj} {P : List UInt8} {W w w' : World} (h : Wrs base b N o P W w) (hW : W.heap.size = base) (hx : Ext w w') : Wrs base b N o P W w' :=
  ⟨h.wr.keep hx.below, h.ext.trans hx, (h.ext.trans hx).below.mono (by omega), block_ext hx h.box⟩
theorem Wr.ext {base b : Nat} {l : List UInt8} {w w' : World} (h : Wr base b l w) (k : Ext w w') : Wr base b l w' := h.keep k.below

theorem flat_take_len {α : Type} (g : α → List UInt8) (l : List α) (k : Nat) : ((l.take k).flatMap g).length ≤ (l.flatMap g).length := by
  have := congrArg List.length (List.flatMap_append (xs := l.take k) (ys := l.drop k) (f := g))
  rw [List.take_append_drop, List.length_append] at this
  omega
theorem domBytes_eq (d : Dom) : domBytes d = ((((((numB d.level ++ bitsB d.cats) ++ numB d.routes.length) ++ d.routes.flatMap rowB) ++ [d.to, (d.release.length : Int)].flatMap numB) ++ d.release.flatMap numB) ++ [d.threads, d.groups, d.ring, d.sends, d.box].flatMap numB) := by
  simp only [domBytes, rowB, List.flatMap_cons, List.flatMap_nil, List.append_nil, List.append_assoc]

set_option maxRecDepth 100000 in
set_option maxHeartbeats 8000000 in
theorem putDomain_any (base b : Nat) (pre : List UInt8) (d : Dom) (vr ve : Value) (W w : World) (hW : W.heap.size = base) (hx : Ext W w) (hr : RowsV W vr d.routes) (he : Nums .i64 W ve d.release) (hi : DomIn d) (h : Wr base b pre w) (hl : pre.length + (domBytes d).length ≤ 100000) :
    Calls Try.prog 39 #[.pointer (some ⟨b, 0, none⟩), .agg #[.int .i64 d.level, .int .u64 d.cats, vr, ve, .int .i64 d.to, .int .i64 d.threads, .int .i64 d.groups, .int .i64 d.ring, .int .i64 d.sends, .int .i64 d.box]] w (Writes base b (pre ++ domBytes d) w) := by
  obtain ⟨pr, cr, rfl, hr1, hr2⟩ := hr.shape
  obtain ⟨pe, ce, rfl, he1, he2⟩ := he.shape
  unfold maxLen at hr2 he2
  rw [domBytes_eq] at hl ⊢
  obtain ⟨P1, p1⟩ : ∃ P, P = numB d.level := ⟨_, rfl⟩
  obtain ⟨P2, p2⟩ : ∃ P, P = bitsB d.cats := ⟨_, rfl⟩
  obtain ⟨P3, p3⟩ : ∃ P, P = numB d.routes.length := ⟨_, rfl⟩
  obtain ⟨P4, p4⟩ : ∃ P, P = d.routes.flatMap rowB := ⟨_, rfl⟩
  obtain ⟨P5, p5⟩ : ∃ P, P = [d.to, (d.release.length : Int)].flatMap numB := ⟨_, rfl⟩
  obtain ⟨P6, p6⟩ : ∃ P, P = d.release.flatMap numB := ⟨_, rfl⟩
  obtain ⟨P7, p7⟩ : ∃ P, P = [d.threads, d.groups, d.ring, d.sends, d.box].flatMap numB := ⟨_, rfl⟩
  rw [← p1, ← p2, ← p3, ← p4, ← p5, ← p6, ← p7] at hl ⊢
  simp only [List.length_append] at hl
  have hrl : d.release.length ≤ 4 := hi.release.1
  have HP := hid (And.intro p1 (And.intro p2 (And.intro p3 (And.intro p4 (And.intro p5 (And.intro p6 p7))))))
  have HL := hid hl
  have HRL := hid hrl
  have HW := hid hW
  have HR := hid hr
  have HE := hid he
  have HI := hid hi
  have H0 : Hid (Wrs base b w.heap.size (domO d (.slice pr d.routes.length cr) (.slice pe d.release.length ce)) pre W (w.alloc (domO d (.slice pr d.routes.length cr) (.slice pe d.release.length ce)))) :=
    ⟨h.ext (Ext.alloc (Ext.refl _) _), hx.alloc _, (hx.alloc _).below.mono (by omega), heap_alloc_new w _⟩
  have HX := hid (And.intro h.ge hx.size)
  clear p1 p2 p3 p4 p5 p6 p7 hl hrl hW hr he hi h hx
  go_enter Try.func39, Try.ntmps39
  go_wp2_with fail
  refine (wnum_w d.level H0.out.wr (by have := HL.out; omega)).mono ?_
  rintro e w1 ⟨rfl, hb, hw, hk⟩
  have H1 := hid (H0.out.step HW.out hb hw hk (by decide) (by decide))
  have K1 := hid (And.intro hb hk)
  clear hb hw hk
  have k1 := blk_cell H1.out.box 1
  simp only [List.getElem?_toArray, List.getElem?_cons_zero, List.getElem?_cons_succ] at k1
  go_wp2_with fail
  refine (wbits_w HI.out.cats H1.out.wr (by rw [← HP.out.1, List.length_append]; have := HL.out; omega)).mono ?_
  rintro e w2 ⟨rfl, hb, hw, hk⟩
  have H2 := hid (H1.out.step HW.out hb hw hk (by decide) (by decide))
  have K2 := hid (And.intro (K1.out.1.trans hb) (K1.out.2.trans hk))
  clear hb hw hk k1 K1 H1
  have k2 := blk_cell H2.out.box 2
  simp only [List.getElem?_toArray, List.getElem?_cons_zero, List.getElem?_cons_succ] at k2
  go_wp2_with fail
  refine (wnum_w d.routes.length H2.out.wr (by rw [← HP.out.1, ← HP.out.2.1, List.length_append, List.length_append]; have := HL.out; omega)).mono ?_
  rintro e w3 ⟨rfl, hb, hw, hk⟩
  have H3 := hid (H2.out.step HW.out hb hw hk (by decide) (by decide))
  have K3 := hid (And.intro (K2.out.1.trans hb) (K2.out.2.trans hk))
  clear hb hw hk k2 K2 H2
  rw [← HP.out.1, ← HP.out.2.1, ← HP.out.2.2.1] at H3
  have k3 := blk_cell H3.out.box 2
  simp only [List.getElem?_toArray, List.getElem?_cons_zero, List.getElem?_cons_succ] at k3
  go_wp2_with fail
  clear k3
  go_loopw [24] (fun v24 wr => ∃ k : Nat, v24 = .int .i64 k ∧ k ≤ d.routes.length ∧ Hid (Wrs base b w.heap.size (domO d (.slice pr d.routes.length cr) (.slice pe d.release.length ce)) (pre ++ P1 ++ P2 ++ P3 ++ (d.routes.take k).flatMap rowB) W wr ∧ Below base w3 wr ∧ KW w3 wr)) (fun v24 _ => (d.routes.length - intOf v24).toNat)
  case atStart => exact ⟨0, rfl, by omega, by simpa using H3.out, Below.refl _ _, Kw.refl _ _ _⟩
  case round =>
    obtain ⟨k, rfl, hk, ht⟩ := hrel
    by_cases hlt : k < d.routes.length
    · obtain ⟨rb, ro, rfl, rv, r0, rn⟩ := HR.out.at k hlt
      obtain ⟨rp, rc, rfl, hrr1, hrr2⟩ := rn.shape
      unfold maxLen at hrr2
      simp only [Nat.mul_one] at r0
      have RN := hid rn
      have e0 := ht.out.1.ext.cell r0
      have hrb : rb < wr.heap.size := World.block_lt_of_cell? _ _ e0
      have hT : Hid ((d.routes.take (k + 1)).flatMap rowB = (d.routes.take k).flatMap rowB ++ rowB d.routes[k]) := by
        unfold Hid
        rw [List.take_succ_eq_append_getElem hlt, List.flatMap_append, List.flatMap_singleton]
      have hTL := hid (flat_take_len rowB d.routes (k + 1))
      have hRl : Hid (d.routes[k].length ≤ 300) := (HI.out.route _ (List.getElem_mem hlt)).1
      have i1 : (k : Int) < d.routes.length := by omega
      clear r0 rn
      generalize d.routes[k] = row at *
      have HB : Hid (pre.length + P1.length + P2.length + P3.length + ((d.routes.take k).flatMap rowB).length + (rowB row).length ≤ 100000) := by
        unfold Hid
        have h1 := hTL.out
        rw [hT.out, List.length_append, ← HP.out.2.2.2.1] at h1
        have := HL.out
        omega
      have HB2 : Hid ((pre ++ P1 ++ P2 ++ P3 ++ (d.routes.take k).flatMap rowB).length ≤ 100000) := by
        unfold Hid
        simp only [List.length_append]
        have := HB.out
        omega
      go_wp2_with fail
      refine (wnum_w row.length ht.out.1.wr (by have := HB2.out; omega)).mono ?_
      rintro e w4 ⟨rfl, hb, hw, hkk⟩
      have H4 := hid (ht.out.1.step HW.out hb hw hkk (by decide) (by decide))
      have K4 := hid (And.intro (ht.out.2.1.trans hb) (ht.out.2.2.trans hkk))
      clear hb hw hkk
      go_wp2_with fail
      refine (put_old HW.out H4.out.ext RN.out H4.out.wr (by rw [List.length_append]; have := HB2.out; have := hRl.out; have := numB_length (row.length : Int); omega)).mono ?_
      rintro e w5 ⟨rfl, hb, hw, hkk⟩
      have H5 := hid (H4.out.step HW.out hb hw hkk (by decide) (by decide))
      have K5 := hid (And.intro (K4.out.1.trans hb) (K4.out.2.trans hkk))
      clear hb hw hkk H4 K4
      go_wp2_with fail
      go_roundw
      case rel => exact ⟨k + 1, by go_num, by omega, by unfold Hid; rw [hT.out]; have := H5.out; simp only [List.append_assoc, rowB] at this ⊢; exact ⟨this, K5.out.1, K5.out.2⟩⟩
      case measure => simp [intOf]; omega
    · obtain rfl : k = d.routes.length := by omega
      have hf := ht.out
      rw [List.take_length, ← HP.out.2.2.2.1] at hf
      have H4 := hid hf.1
      have K4 := hid (And.intro (K3.out.1.trans hf.2.1) (K3.out.2.trans hf.2.2))
      clear hf ht H3 K3
      have hbox := H4.out.box
      have k2 := blk_cell hbox 3
      have k3 := blk_cell hbox 4
      simp only [List.getElem?_toArray, List.getElem?_cons_zero, List.getElem?_cons_succ] at k2 k3
      clear hbox
      go_wp2_with fail
      have X5 := hid (H4.out.more HW.out (Ext.alloc (Ext.refl wr) (.cells #[.int .i64 d.to, .int .i64 d.release.length] 3 (0, 0))))
      refine (put_new (l := [d.to, (d.release.length : Int)]) (heap_alloc_new wr _) rfl X5.out.wr (by simp only [List.length_append, List.length_cons, List.length_nil]; have := HL.out; omega)).mono ?_
      rintro e w5 ⟨rfl, hb, hw, hk⟩
      have H5 := hid (X5.out.step HW.out hb hw hk (by decide) (by decide))
      have K5 := hid (And.intro (((K4.out.1.alloc (by have := HX.out.2; have := HW.out; have := K4.out.1.size; simp at this; omega) _)).trans hb) ((K4.out.2.trans (Kw.of_ext (Ext.alloc (Ext.refl wr) _))).trans hk))
      clear hb hw hk X5 H4 K4 k2 k3
      rw [← HP.out.2.2.2.2.1] at H5
      have k2 := blk_cell H5.out.box 3
      simp only [List.getElem?_toArray, List.getElem?_cons_zero, List.getElem?_cons_succ] at k2
      go_wp2_with fail
      refine (put_old HW.out H5.out.ext HE.out H5.out.wr (by simp only [List.length_append]; have := HL.out; have := HRL.out; omega)).mono ?_
      rintro e w6 ⟨rfl, hb, hw, hk⟩
      have H6 := hid (H5.out.step HW.out hb hw hk (by decide) (by decide))
      have K6 := hid (And.intro (K5.out.1.trans hb) (K5.out.2.trans hk))
      clear hb hw hk H5 K5 k2
      rw [← HP.out.2.2.2.2.2.1] at H6
      have hbox := H6.out.box
      have k5 := blk_cell hbox 5
      have k6 := blk_cell hbox 6
      have k7 := blk_cell hbox 7
      have k8 := blk_cell hbox 8
      have k9 := blk_cell hbox 9
      simp only [List.getElem?_toArray, List.getElem?_cons_zero, List.getElem?_cons_succ] at k5 k6 k7 k8 k9
      clear hbox
      go_wp2_with fail
      have X7 := hid (H6.out.more HW.out (Ext.alloc (Ext.refl w6) (.cells #[.int .i64 d.threads, .int .i64 d.groups, .int .i64 d.ring, .int .i64 d.sends, .int .i64 d.box] 3 (0, 0))))
      refine (put_new (l := [d.threads, d.groups, d.ring, d.sends, d.box]) (heap_alloc_new w6 _) rfl X7.out.wr (by simp only [List.length_append, List.length_cons, List.length_nil]; have := HL.out; omega)).mono ?_
      rintro e w7 ⟨rfl, hb, hw, hk⟩
      have K7 := hid (And.intro (((K6.out.1.alloc (by have := HX.out.2; have := HW.out; have := K6.out.1.size; simp at this; omega) _)).trans hb) ((K6.out.2.trans (Kw.of_ext (Ext.alloc (Ext.refl w6) _))).trans hk))
      have HWR := hid hw
      clear hb hw hk X7 H6 K6 k5 k6 k7 k8 k9
      rw [← HP.out.2.2.2.2.2.2] at HWR
      go_wp2_with fail
      go_returns
      exact ⟨rfl, ((Below.refl base w).alloc (by have := HX.out.2; have := HW.out; omega) _).trans K7.out.1, by simpa only [List.append_assoc] using HWR.out, (Kw.of_ext (Ext.alloc (Ext.refl w) _)).trans K7.out.2⟩
end Go.Proofs.Ytbllibgddiiboaa
