/- What script's writing comes to: a configuration. -/
import Derived.Test.YtbllibgddiiboaaSb2
namespace Go.Proofs.Ytbllibgddiiboaa
open Go.RowKit

theorem confBytes_eq (c : Cnf) : confBytes c = ([c.frame, c.epoch, (c.plans.length : Int), (c.doms.length : Int)].flatMap numB ++ c.plans.flatMap (fun p => p.flatMap numB)) ++ c.doms.flatMap domBytes := by
  simp only [confBytes, headBytes, plansBytes, List.flatMap_cons, List.flatMap_nil, List.append_nil, List.append_assoc]

set_option maxRecDepth 100000 in
set_option maxHeartbeats 8000000 in
theorem putConf_any (base b : Nat) (pre : List UInt8) (c : Cnf) (pv dv : Value) (W w : World) (hW : W.heap.size = base) (hx : Ext W w) (hc : ConfV W c pv dv) (hi : CnfIn c) (h : Wr base b pre w) (hl : pre.length + (confBytes c).length ≤ 90000) :
    Calls Try.prog 20 #[.pointer (some ⟨b, 0, none⟩), confV c pv dv] w (Writes base b (pre ++ confBytes c) w) := by
  obtain ⟨pp, cp, rfl, hp1, hp2⟩ := hc.plans.shape
  obtain ⟨pd, cd, rfl, hd1, hd2⟩ := hc.doms.shape
  unfold maxLen at hp2 hd2
  rw [confBytes_eq] at hl ⊢
  obtain ⟨P1, p1⟩ : ∃ P, P = [c.frame, c.epoch, (c.plans.length : Int), (c.doms.length : Int)].flatMap numB := ⟨_, rfl⟩
  obtain ⟨P2, p2⟩ : ∃ P, P = c.plans.flatMap (fun p => p.flatMap numB) := ⟨_, rfl⟩
  obtain ⟨P3, p3⟩ : ∃ P, P = c.doms.flatMap domBytes := ⟨_, rfl⟩
  rw [← p1, ← p2, ← p3] at hl ⊢
  simp only [List.length_append] at hl
  have HP := hid (And.intro p1 (And.intro p2 p3))
  have HL := hid hl
  have HW := hid hW
  have HC := hid hc
  have HI := hid hi
  have H0 : Hid (Wrs base b w.heap.size (.cells #[.int .i64 c.frame, .int .i64 c.epoch, .slice pp c.plans.length cp, .slice pd c.doms.length cd] 26 (0, 0)) pre W (w.alloc (.cells #[.int .i64 c.frame, .int .i64 c.epoch, .slice pp c.plans.length cp, .slice pd c.doms.length cd] 26 (0, 0)))) :=
    ⟨h.ext (Ext.alloc (Ext.refl _) _), hx.alloc _, (hx.alloc _).below.mono (by omega), heap_alloc_new w _⟩
  have HX := hid (And.intro h.ge hx.size)
  clear p1 p2 p3 hl hW hc hi h hx
  go_enter Try.func20, Try.ntmps20
  go_wp2_with fail
  have X1 := hid (H0.out.more HW.out (Ext.alloc (Ext.refl _) (.cells #[.int .i64 c.frame, .int .i64 c.epoch, .int .i64 c.plans.length, .int .i64 c.doms.length] 3 (0, 0))))
  refine (put_new (l := [c.frame, c.epoch, (c.plans.length : Int), (c.doms.length : Int)]) (by have := heap_alloc_new (w.alloc (.cells #[.int .i64 c.frame, .int .i64 c.epoch, .slice pp c.plans.length cp, .slice pd c.doms.length cd] 26 (0, 0))) (.cells #[.int .i64 c.frame, .int .i64 c.epoch, .int .i64 c.plans.length, .int .i64 c.doms.length] 3 (0, 0)); rw [World.size_alloc] at this; exact this) rfl X1.out.wr (by simp only [List.length_cons, List.length_nil]; have := HL.out; omega)).mono ?_
  rintro e w1 ⟨rfl, hb, hw, hk⟩
  have H1 := hid (X1.out.step HW.out hb hw hk (by decide) (by decide))
  have hE2 : Ext w ((w.alloc (.cells #[.int .i64 c.frame, .int .i64 c.epoch, .slice pp c.plans.length cp, .slice pd c.doms.length cd] 26 (0, 0))).alloc (.cells #[.int .i64 c.frame, .int .i64 c.epoch, .int .i64 c.plans.length, .int .i64 c.doms.length] 3 (0, 0))) := (by repeat (first | exact Ext.refl _ | assumption | refine Ext.more ?_ _ | refine Ext.drew ?_ | refine Ext.drewN ?_ _ | refine Ext.alloc ?_ _ | refine Ext.setCell ?_ (by simp; try omega) _ | refine Ext.trans ?_ (by assumption)))
  have K1 := hid (And.intro ((hE2.below.mono (by have := HX.out.2; have := HW.out; omega)).trans hb) ((Kw.of_ext hE2).trans hk))
  clear hb hw hk hE2 X1 H0
  rw [← HP.out.1] at H1
  have hbox := H1.out.box
  have k2 := blk_cell hbox 2
  simp only [List.getElem?_toArray, List.getElem?_cons_zero, List.getElem?_cons_succ] at k2
  clear hbox
  go_wp2_with fail
  clear k2
  go_loopw [24] (fun v24 wr => ∃ k : Nat, v24 = .int .i64 k ∧ k ≤ c.plans.length ∧ Hid (Wrs base b w.heap.size (.cells #[.int .i64 c.frame, .int .i64 c.epoch, .slice pp c.plans.length cp, .slice pd c.doms.length cd] 26 (0, 0)) (pre ++ P1 ++ (c.plans.take k).flatMap (fun p => p.flatMap numB)) W wr ∧ Below base w1 wr ∧ KW w1 wr)) (fun v24 _ => (c.plans.length - intOf v24).toNat)
  case atStart => exact ⟨0, rfl, by omega, by simpa using H1.out, Below.refl _ _, Kw.refl _ _ _⟩
  case round =>
    obtain ⟨k, rfl, hk, ht⟩ := hrel
    by_cases hlt : k < c.plans.length
    · obtain ⟨rb, ro, rfl, rv, r0, rn⟩ := HC.out.plans.at k hlt
      obtain ⟨rp, rc, rfl, hrr1, hrr2⟩ := rn.shape
      unfold maxLen at hrr2
      simp only [Nat.mul_one] at r0
      have RN := hid rn
      have e0 := ht.out.1.ext.cell r0
      have hrb : rb < wr.heap.size := World.block_lt_of_cell? _ _ e0
      have hT : Hid ((c.plans.take (k + 1)).flatMap (fun p => p.flatMap numB) = (c.plans.take k).flatMap (fun p => p.flatMap numB) ++ c.plans[k].flatMap numB) := by
        unfold Hid
        rw [List.take_succ_eq_append_getElem hlt, List.flatMap_append, List.flatMap_singleton]
      have hTL := hid (flat_take_len (fun p : List Int => p.flatMap numB) c.plans k)
      have hRl : Hid (c.plans[k].length ≤ 6) := by unfold Hid; rw [(HI.out.plan _ (List.getElem_mem hlt)).1]; exact HI.out.doms
      have i1 : (k : Int) < c.plans.length := by omega
      clear r0 rn
      generalize c.plans[k] = row at *
      have HB2 : Hid ((pre ++ P1 ++ (c.plans.take k).flatMap (fun p => p.flatMap numB)).length ≤ 100000) := by
        unfold Hid
        simp only [List.length_append]
        have h1 := hTL.out
        rw [← HP.out.2.1] at h1
        have := HL.out
        omega
      go_wp2_with fail
      refine (put_old HW.out ht.out.1.ext RN.out ht.out.1.wr (by have := HB2.out; have := hRl.out; omega)).mono ?_
      rintro e w5 ⟨rfl, hb, hw, hkk⟩
      have H5 := hid (ht.out.1.step HW.out hb hw hkk (by decide) (by decide))
      have K5 := hid (And.intro (ht.out.2.1.trans hb) (ht.out.2.2.trans hkk))
      clear hb hw hkk
      go_wp2_with fail
      go_roundw
      case rel => exact ⟨k + 1, by go_num, by omega, by unfold Hid; rw [hT.out]; have := H5.out; simp only [List.append_assoc] at this ⊢; exact ⟨this, K5.out.1, K5.out.2⟩⟩
      case measure => simp [intOf]; omega
    · obtain rfl : k = c.plans.length := by omega
      have hf := ht.out
      rw [List.take_length, ← HP.out.2.1] at hf
      have H4 := hid hf.1
      have K4 := hid (And.intro (K1.out.1.trans hf.2.1) (K1.out.2.trans hf.2.2))
      clear hf ht H1 K1
      have hbox := H4.out.box
      have k2 := blk_cell hbox 3
      simp only [List.getElem?_toArray, List.getElem?_cons_zero, List.getElem?_cons_succ] at k2
      clear hbox
      go_wp2_with fail
      clear k2
      have w4e : ∃ w4, w4 = wr := ⟨_, rfl⟩
      obtain ⟨w4, hw4⟩ := w4e
      have S4 : Hid (Below base w4 wr ∧ KW w4 wr) := by rw [hw4]; exact ⟨Below.refl _ _, Kw.refl _ _ _⟩
      rw [← hw4] at K4
      clear hw4
      go_loopw [35] (fun v35 wr => ∃ k : Nat, v35 = .int .i64 k ∧ k ≤ c.doms.length ∧ Hid (Wrs base b w.heap.size (.cells #[.int .i64 c.frame, .int .i64 c.epoch, .slice pp c.plans.length cp, .slice pd c.doms.length cd] 26 (0, 0)) (pre ++ P1 ++ P2 ++ (c.doms.take k).flatMap domBytes) W wr ∧ Below base w4 wr ∧ KW w4 wr)) (fun v35 _ => (c.doms.length - intOf v35).toNat)
      case atStart => exact ⟨0, rfl, by omega, by simpa using H4.out, S4.out.1, S4.out.2⟩
      case round =>
        clear hlt H4 S4 hk
        obtain ⟨k, rfl, hk, ht⟩ := hrel
        by_cases hlt : k < c.doms.length
        · obtain ⟨db, doff, rfl, vr, ve, D, DR, DE, hU⟩ := HC.out.doms.at k hlt
          obtain ⟨rp, rc, rfl, -, -⟩ := DR.shape
          obtain ⟨ep, ec, rfl, -, -⟩ := DE.shape
          have HDR := hid DR
          have HDE := hid DE
          obtain ⟨d0, d1, d2, d3, d4, d5, d6, d7, d8, d9⟩ := D.ext ht.out.1.ext
          have hdb : db < wr.heap.size := World.block_lt_of_cell? _ _ d0
          have hT : Hid ((c.doms.take (k + 1)).flatMap domBytes = (c.doms.take k).flatMap domBytes ++ domBytes c.doms[k]) := by
            unfold Hid
            rw [List.take_succ_eq_append_getElem hlt, List.flatMap_append, List.flatMap_singleton]
          have hTL := hid (flat_take_len domBytes c.doms (k + 1))
          have HDI := hid (HI.out.dom _ (List.getElem_mem hlt))
          have i1 : (k : Int) < c.doms.length := by omega
          clear D DR DE hU
          generalize c.doms[k] = d at *
          have HB2 : Hid ((pre ++ P1 ++ P2 ++ (c.doms.take k).flatMap domBytes).length + (domBytes d).length ≤ 100000) := by
            unfold Hid
            simp only [List.length_append]
            have h1 := hTL.out
            rw [hT.out, ← HP.out.2.2, List.length_append] at h1
            have := HL.out
            omega
          have X5 := hid (ht.out.1.more HW.out (Ext.alloc (Ext.refl wr) (domO d (.slice rp d.routes.length rc) (.slice ep d.release.length ec))))
          go_wp2_with fail
          refine (putDomain_any base b _ d _ _ W _ HW.out X5.out.ext HDR.out HDE.out HDI.out X5.out.wr HB2.out).mono ?_
          rintro e w5 ⟨rfl, hb, hw, hkk⟩
          have H5 := hid (X5.out.step HW.out hb hw hkk (by decide) (by decide))
          have K5 := hid (And.intro ((ht.out.2.1.alloc (by have := HX.out.2; have := HW.out; have := ht.out.1.ext.size; omega) _).trans hb) ((ht.out.2.2.trans (Kw.of_ext (Ext.alloc (Ext.refl wr) _))).trans hkk))
          clear hb hw hkk X5 d0 d1 d2 d3 d4 d5 d6 d7 d8 d9
          go_wp2_with fail
          go_roundw
          case rel => exact ⟨k + 1, by go_num, by omega, by unfold Hid; rw [hT.out]; have := H5.out; simp only [List.append_assoc] at this ⊢; exact ⟨this, K5.out.1, K5.out.2⟩⟩
          case measure => simp [intOf]; omega
        · obtain rfl : k = c.doms.length := by omega
          have hf := ht.out
          rw [List.take_length, ← HP.out.2.2] at hf
          have HF := hid hf
          clear hf ht
          go_wp2
          go_returns
          exact ⟨rfl, K4.out.1.trans HF.out.2.1, by simpa only [List.append_assoc] using HF.out.1.wr, K4.out.2.trans HF.out.2.2⟩
end Go.Proofs.Ytbllibgddiiboaa
