/- The document's own SameScript, as a walk. -/
import Derived.Test.YtmpgeabfogcblaaGreatRefScr2
import Derived.Test.YtmpgeabfogcblaaGreatSame
namespace Go.Proofs.YtmpgeabfogcblaaGreat
open Go.RowKit

theorem sameConf_to' {a b : Cnf} {r : Bool} (e : sameC a b = r) (w : World) (pa da pb db : Value) (ha : ConfV w a pa da) (hb : ConfV w b pb db) :
    Calls Tryz.prog 21 #[confV a pa da, confV b pb db] w (Yields w (.bool r)) := e ▸ sameConf_any w a b pa da pb db ha hb

set_option maxRecDepth 100000 in
set_option maxHeartbeats 3000000 in
theorem sameScr_any (w : World) (a b : Scr) (pa da sa va pb db sb vb : Value) (ha : ScrV w a pa da sa va) (hb : ScrV w b pb db sb vb) :
    Calls Tryz.prog 7 #[scrV a pa da sa va, scrV b pb db sb vb] w (Yields w (.bool (sameS a b))) := by
  obtain ⟨ppa, cpa, rfl, -, -⟩ := ha.conf.plans.shape
  obtain ⟨pda, cda, rfl, -, -⟩ := ha.conf.doms.shape
  obtain ⟨psa, csa, rfl, hsa1, hsa2⟩ := ha.streams.shape
  obtain ⟨pva, cva, rfl, hva1, hva2⟩ := ha.arrivals.shape
  obtain ⟨ppb, cpb, rfl, -, -⟩ := hb.conf.plans.shape
  obtain ⟨pdb, cdb, rfl, -, -⟩ := hb.conf.doms.shape
  obtain ⟨psb, csb, rfl, hsb1, hsb2⟩ := hb.streams.shape
  obtain ⟨pvb, cvb, rfl, hvb1, hvb2⟩ := hb.arrivals.shape
  unfold maxLen at hsa2 hva2 hsb2 hvb2
  have HA := hid ha
  have HB := hid hb
  clear ha hb
  cases h0 : sameC a.conf b.conf
  · have Q0 := hid h0
    clear h0
    go_enter Tryz.func7, Tryz.ntmps7
    go_wp2_with (go_at_call 21; (with_reducible refine (sameConf_to' Q0.out _ _ _ _ _ (HA.out.conf.ext (by repeat (first | exact Ext.refl _ | assumption | refine Ext.more ?_ _ | refine Ext.drew ?_ | refine Ext.drewN ?_ _ | refine Ext.alloc ?_ _ | refine Ext.setCell ?_ (by simp; try omega) _ | refine Ext.trans ?_ (by assumption)))) (HB.out.conf.ext (by repeat (first | exact Ext.refl _ | assumption | refine Ext.more ?_ _ | refine Ext.drew ?_ | refine Ext.drewN ?_ _ | refine Ext.alloc ?_ _ | refine Ext.setCell ?_ (by simp; try omega) _ | refine Ext.trans ?_ (by assumption))))).yields ?_); intro p1)
    go_returns
    exact ⟨by simp [sameS, Q0.out], (by repeat (first | exact Ext.refl _ | assumption | refine Ext.more ?_ _ | refine Ext.drew ?_ | refine Ext.drewN ?_ _ | refine Ext.alloc ?_ _ | refine Ext.setCell ?_ (by simp; try omega) _ | refine Ext.trans ?_ (by assumption)))⟩
  have Q0 := hid h0
  clear h0
  cases h1 : a.horizon == b.horizon
  · have n1 := ne_of_eqf h1
    go_enter Tryz.func7, Tryz.ntmps7
    go_wp2_with (go_at_call 21; (with_reducible refine (sameConf_to' Q0.out _ _ _ _ _ (HA.out.conf.ext (by repeat (first | exact Ext.refl _ | assumption | refine Ext.more ?_ _ | refine Ext.drew ?_ | refine Ext.drewN ?_ _ | refine Ext.alloc ?_ _ | refine Ext.setCell ?_ (by simp; try omega) _ | refine Ext.trans ?_ (by assumption)))) (HB.out.conf.ext (by repeat (first | exact Ext.refl _ | assumption | refine Ext.more ?_ _ | refine Ext.drew ?_ | refine Ext.drewN ?_ _ | refine Ext.alloc ?_ _ | refine Ext.setCell ?_ (by simp; try omega) _ | refine Ext.trans ?_ (by assumption))))).yields ?_); intro p1)
    go_returns
    exact ⟨by simp [sameS, h1], (by repeat (first | exact Ext.refl _ | assumption | refine Ext.more ?_ _ | refine Ext.drew ?_ | refine Ext.drewN ?_ _ | refine Ext.alloc ?_ _ | refine Ext.setCell ?_ (by simp; try omega) _ | refine Ext.trans ?_ (by assumption)))⟩
  have n1 := ne_of_eqt h1
  have Q1 := hid h1
  by_cases hl1 : a.streams.length = b.streams.length
  case neg =>
    have l1 : ((a.streams.length : Int) == (b.streams.length : Int)) = false := by simp; omega
    have l2 : ((a.streams.length : Int) != (b.streams.length : Int)) = true := by simp; omega
    have HF : Hid (sameS a b = false) := by
      unfold Hid sameS
      rw [decide_eq_false (show ¬ a.streams = b.streams from fun h => hl1 (by rw [h])), Bool.and_false, Bool.false_and]
    clear hl1
    go_enter Tryz.func7, Tryz.ntmps7
    go_wp2_with (go_at_call 21; (with_reducible refine (sameConf_to' Q0.out _ _ _ _ _ (HA.out.conf.ext (by repeat (first | exact Ext.refl _ | assumption | refine Ext.more ?_ _ | refine Ext.drew ?_ | refine Ext.drewN ?_ _ | refine Ext.alloc ?_ _ | refine Ext.setCell ?_ (by simp; try omega) _ | refine Ext.trans ?_ (by assumption)))) (HB.out.conf.ext (by repeat (first | exact Ext.refl _ | assumption | refine Ext.more ?_ _ | refine Ext.drew ?_ | refine Ext.drewN ?_ _ | refine Ext.alloc ?_ _ | refine Ext.setCell ?_ (by simp; try omega) _ | refine Ext.trans ?_ (by assumption))))).yields ?_); intro p1)
    go_returns
    exact ⟨by simp [HF.out], (by repeat (first | exact Ext.refl _ | assumption | refine Ext.more ?_ _ | refine Ext.drew ?_ | refine Ext.drewN ?_ _ | refine Ext.alloc ?_ _ | refine Ext.setCell ?_ (by simp; try omega) _ | refine Ext.trans ?_ (by assumption)))⟩
  have l1 : ((a.streams.length : Int) == (b.streams.length : Int)) = true := by simp; omega
  have l2 : ((a.streams.length : Int) != (b.streams.length : Int)) = false := by simp; omega
  by_cases hl2 : a.arrivals.length = b.arrivals.length
  case neg =>
    have l3 : ((a.arrivals.length : Int) == (b.arrivals.length : Int)) = false := by simp; omega
    have l4 : ((a.arrivals.length : Int) != (b.arrivals.length : Int)) = true := by simp; omega
    have HF : Hid (sameS a b = false) := by
      unfold Hid sameS
      rw [decide_eq_false (show ¬ a.arrivals = b.arrivals from fun h => hl2 (by rw [h])), Bool.and_false]
    clear hl1 hl2
    go_enter Tryz.func7, Tryz.ntmps7
    go_wp2_with (go_at_call 21; (with_reducible refine (sameConf_to' Q0.out _ _ _ _ _ (HA.out.conf.ext (by repeat (first | exact Ext.refl _ | assumption | refine Ext.more ?_ _ | refine Ext.drew ?_ | refine Ext.drewN ?_ _ | refine Ext.alloc ?_ _ | refine Ext.setCell ?_ (by simp; try omega) _ | refine Ext.trans ?_ (by assumption)))) (HB.out.conf.ext (by repeat (first | exact Ext.refl _ | assumption | refine Ext.more ?_ _ | refine Ext.drew ?_ | refine Ext.drewN ?_ _ | refine Ext.alloc ?_ _ | refine Ext.setCell ?_ (by simp; try omega) _ | refine Ext.trans ?_ (by assumption))))).yields ?_); intro p1)
    go_returns
    exact ⟨by simp [HF.out], (by repeat (first | exact Ext.refl _ | assumption | refine Ext.more ?_ _ | refine Ext.drew ?_ | refine Ext.drewN ?_ _ | refine Ext.alloc ?_ _ | refine Ext.setCell ?_ (by simp; try omega) _ | refine Ext.trans ?_ (by assumption)))⟩
  have l3 : ((a.arrivals.length : Int) == (b.arrivals.length : Int)) = true := by simp; omega
  have l4 : ((a.arrivals.length : Int) != (b.arrivals.length : Int)) = false := by simp; omega
  have HL := hid hl1
  have HM := hid hl2
  clear hl1 hl2
  go_enter Tryz.func7, Tryz.ntmps7
  go_wp2_with (go_at_call 21; (with_reducible refine (sameConf_to' Q0.out _ _ _ _ _ (HA.out.conf.ext (by repeat (first | exact Ext.refl _ | assumption | refine Ext.more ?_ _ | refine Ext.drew ?_ | refine Ext.drewN ?_ _ | refine Ext.alloc ?_ _ | refine Ext.setCell ?_ (by simp; try omega) _ | refine Ext.trans ?_ (by assumption)))) (HB.out.conf.ext (by repeat (first | exact Ext.refl _ | assumption | refine Ext.more ?_ _ | refine Ext.drew ?_ | refine Ext.drewN ?_ _ | refine Ext.alloc ?_ _ | refine Ext.setCell ?_ (by simp; try omega) _ | refine Ext.trans ?_ (by assumption))))).yields ?_); intro p1)
  have hbx := fun (w' : World) (h : Ext ((w.alloc (.cells #[.int .i64 a.conf.frame, .int .i64 a.conf.epoch, .slice ppa a.conf.plans.length cpa, .slice pda a.conf.doms.length cda, .int .i64 a.horizon, .slice psa a.streams.length csa, .slice pva a.arrivals.length cva] 30 (0, 0))).alloc (.cells #[.int .i64 b.conf.frame, .int .i64 b.conf.epoch, .slice ppb b.conf.plans.length cpb, .slice pdb b.conf.doms.length cdb, .int .i64 b.horizon, .slice psb b.streams.length csb, .slice pvb b.arrivals.length cvb] 30 (0, 0))) w') => And.intro (boxed (Ext.trans (Ext.alloc (Ext.refl _) _) h) 5 (by simp)) (And.intro (boxed (Ext.trans (Ext.alloc (Ext.refl _) _) h) 6 (by simp)) (And.intro (boxed h 5 (by simp)) (boxed h 6 (by simp))))
  have hx0 : Ext w ((w.alloc (.cells #[.int .i64 a.conf.frame, .int .i64 a.conf.epoch, .slice ppa a.conf.plans.length cpa, .slice pda a.conf.doms.length cda, .int .i64 a.horizon, .slice psa a.streams.length csa, .slice pva a.arrivals.length cva] 30 (0, 0))).alloc (.cells #[.int .i64 b.conf.frame, .int .i64 b.conf.epoch, .slice ppb b.conf.plans.length cpb, .slice pdb b.conf.doms.length cdb, .int .i64 b.horizon, .slice psb b.streams.length csb, .slice pvb b.arrivals.length cvb] 30 (0, 0))) := Ext.alloc (Ext.alloc (Ext.refl _) _) _
  generalize (w.alloc (.cells #[.int .i64 a.conf.frame, .int .i64 a.conf.epoch, .slice ppa a.conf.plans.length cpa, .slice pda a.conf.doms.length cda, .int .i64 a.horizon, .slice psa a.streams.length csa, .slice pva a.arrivals.length cva] 30 (0, 0))).alloc (.cells #[.int .i64 b.conf.frame, .int .i64 b.conf.epoch, .slice ppb b.conf.plans.length cpb, .slice pdb b.conf.doms.length cdb, .int .i64 b.horizon, .slice psb b.streams.length csb, .slice pvb b.arrivals.length cvb] 30 (0, 0)) = W1 at *
  simp only [List.getElem?_toArray, List.getElem?_cons_succ, List.getElem?_cons_zero, World.size_alloc] at hbx
  have HBX := hid hbx
  clear hbx
  go_loopw [5] (fun v wr => Ext W1 wr ∧ ∃ k : Nat, v = .int .i64 k ∧ k ≤ a.streams.length ∧ Hid (a.streams.take k = b.streams.take k)) (fun v _ => (a.streams.length - intOf v).toNat)
  case atStart => exact ⟨(by repeat (first | exact Ext.refl _ | refine Ext.more ?_ _)), 0, rfl, by omega, rfl⟩
  case round =>
    obtain ⟨hx, k, rfl, hk, ht⟩ := hrel
    obtain ⟨b1, b2, b3, b4⟩ := HBX.out _ hx
    have hw := hx0.trans hx
    have hbs : w.heap.size + 1 < wr.heap.size := World.block_lt_of_cell? _ _ b4
    have hbs' : w.heap.size < wr.heap.size := by omega
    by_cases hlt : k < a.streams.length
    · obtain ⟨ba, oa, rfl, ra, a0, na⟩ := HA.out.streams.at k hlt
      obtain ⟨bb, ob, rfl, rb, b0, nb⟩ := HB.out.streams.at k (by have := HL.out; omega)
      simp only [Nat.mul_one] at a0 b0
      have m0 := more_cell (hw.cell a0)
      have m1 := more_cell (hw.cell b0)
      have m2 := more_cell b1
      have m3 := more_cell b3
      have hs : Hid (a.streams[k] = b.streams[k]'(by have := HL.out; omega) → a.streams.take (k + 1) = b.streams.take (k + 1)) := fun h => by
        rw [List.take_succ_eq_append_getElem hlt, List.take_succ_eq_append_getElem (by have := HL.out; omega), ht.out, h]
      have hn : Hid (a.streams[k] ≠ b.streams[k]'(by have := HL.out; omega) → sameS a b = false) := fun h => by
        unfold sameS
        rw [decide_eq_false (show ¬ a.streams = b.streams from fun e => h (by simp [e])), Bool.and_false, Bool.false_and]
      have ea := hid (na.ext hw)
      have eb := hid (nb.ext hw)
      clear a0 b0 na nb
      generalize a.streams[k] = x at *
      generalize b.streams[k]'(by have := HL.out; omega) = y at *
      have i1 : (k : Int) < a.streams.length := by omega
      have i2 : (k : Int) < b.streams.length := by have := HL.out; omega
      by_cases he : x = y
      · have hsx := hs.out he
        have hd : Hid (decide (x = y) = true) := by simpa [Hid] using he
        clear hs he hn
        go_wp2_with fail
        ((first | refine wp_region_more (by kernel_rfl) (by kernel_rfl) ?_ | refine wp_region_ext (by kernel_rfl) (by kernel_rfl) ?_); (try dsimp only [append_cons', append_nil']); (repeat (go_big_quiet_step ((go_at_call 22; with_reducible refine Calls.more_of (sameStream_to hd.out _ _ _ (ea.out.ext (ext_more _ _)) (eb.out.ext (ext_more _ _))))))); refine wpQuiet_nil ?_; rintro _ ⟨pq, rfl⟩)
        go_wp2
        go_roundw
        case rel => exact ⟨hx.trans (ext_more _ _), k + 1, by go_num, by omega, hid hsx⟩
        case measure => simp [intOf]; omega
      · have hd : Hid (decide (x = y) = false) := by simpa [Hid] using he
        have hne := hid (hn.out he)
        clear hn he hs
        go_wp2_with fail
        ((first | refine wp_region_more (by kernel_rfl) (by kernel_rfl) ?_ | refine wp_region_ext (by kernel_rfl) (by kernel_rfl) ?_); (try dsimp only [append_cons', append_nil']); (repeat (go_big_quiet_step ((go_at_call 22; with_reducible refine Calls.more_of (sameStream_to hd.out _ _ _ (ea.out.ext (ext_more _ _)) (eb.out.ext (ext_more _ _))))))); refine wpQuiet_nil ?_; rintro _ ⟨pq, rfl⟩)
        go_wp2
        go_returns
        exact ⟨by simp [hne.out], hw.trans (ext_more _ _)⟩
    · obtain rfl : k = a.streams.length := by omega
      have he := ht.out
      rw [List.take_length, HL.out, List.take_length] at he
      have HE := hid he
      clear he ht
      go_wp2_with fail
      go_loopw [6] (fun v wr => Ext W1 wr ∧ ∃ k : Nat, v = .int .i64 k ∧ k ≤ a.arrivals.length ∧ Hid (a.arrivals.take k = b.arrivals.take k)) (fun v _ => (a.arrivals.length - intOf v).toNat)
      case atStart => exact ⟨hx, 0, rfl, by omega, rfl⟩
      case round =>
        clear hx hw hbs hbs' b1 b2 b3 b4
        obtain ⟨hx, k, rfl, hk, ht⟩ := hrel
        obtain ⟨b1, b2, b3, b4⟩ := HBX.out _ hx
        have hw := hx0.trans hx
        have hbs : w.heap.size + 1 < wr.heap.size := World.block_lt_of_cell? _ _ b4
        have hbs' : w.heap.size < wr.heap.size := by omega
        by_cases hlt : k < a.arrivals.length
        · obtain ⟨ba, oa, rfl, ra, a0, na⟩ := HA.out.arrivals.at k hlt
          obtain ⟨bb, ob, rfl, rb, b0, nb⟩ := HB.out.arrivals.at k (by have := HM.out; omega)
          simp only [Nat.mul_one] at a0 b0
          have m0 := more_cell (hw.cell a0)
          have m1 := more_cell (hw.cell b0)
          have m2 := more_cell b2
          have m3 := more_cell b4
          have hs : Hid (a.arrivals[k] = b.arrivals[k]'(by have := HM.out; omega) → a.arrivals.take (k + 1) = b.arrivals.take (k + 1)) := fun h => by
            rw [List.take_succ_eq_append_getElem hlt, List.take_succ_eq_append_getElem (by have := HM.out; omega), ht.out, h]
          have hn : Hid (a.arrivals[k] ≠ b.arrivals[k]'(by have := HM.out; omega) → sameS a b = false) := fun h => by
            unfold sameS
            rw [decide_eq_false (show ¬ a.arrivals = b.arrivals from fun e => h (by simp [e])), Bool.and_false]
          have ea := hid (na.ext hw)
          have eb := hid (nb.ext hw)
          clear a0 b0 na nb
          generalize a.arrivals[k] = x at *
          generalize b.arrivals[k]'(by have := HM.out; omega) = y at *
          have i1 : (k : Int) < a.arrivals.length := by omega
          have i2 : (k : Int) < b.arrivals.length := by have := HM.out; omega
          by_cases he : x = y
          · have hsx := hs.out he
            have hd : Hid (decide (x = y) = true) := by simpa [Hid] using he
            clear hs he hn
            go_wp2_with fail
            ((first | refine wp_region_more (by kernel_rfl) (by kernel_rfl) ?_ | refine wp_region_ext (by kernel_rfl) (by kernel_rfl) ?_); (try dsimp only [append_cons', append_nil']); (repeat (go_big_quiet_step ((go_at_call 23; with_reducible refine Calls.more_of (sameArr_to hd.out _ _ _ (ea.out.ext (ext_more _ _)) (eb.out.ext (ext_more _ _))))))); refine wpQuiet_nil ?_; rintro _ ⟨pq, rfl⟩)
            go_wp2
            go_roundw
            case rel => exact ⟨hx.trans (ext_more _ _), k + 1, by go_num, by omega, hid hsx⟩
            case measure => simp [intOf]; omega
          · have hd : Hid (decide (x = y) = false) := by simpa [Hid] using he
            have hne := hid (hn.out he)
            clear hn he hs
            go_wp2_with fail
            ((first | refine wp_region_more (by kernel_rfl) (by kernel_rfl) ?_ | refine wp_region_ext (by kernel_rfl) (by kernel_rfl) ?_); (try dsimp only [append_cons', append_nil']); (repeat (go_big_quiet_step ((go_at_call 23; with_reducible refine Calls.more_of (sameArr_to hd.out _ _ _ (ea.out.ext (ext_more _ _)) (eb.out.ext (ext_more _ _))))))); refine wpQuiet_nil ?_; rintro _ ⟨pq, rfl⟩)
            go_wp2
            go_returns
            exact ⟨by simp [hne.out], hw.trans (ext_more _ _)⟩
        · obtain rfl : k = a.arrivals.length := by omega
          have he := ht.out
          rw [List.take_length, HM.out, List.take_length] at he
          have HF := hid he
          clear he ht
          go_wp2
          go_returns
          exact ⟨by unfold sameS; rw [Q0.out, Q1.out, decide_eq_true HE.out, decide_eq_true HF.out]; rfl, hw⟩
theorem sameScr_to {a b : Scr} {r : Bool} (e : sameS a b = r) (w : World) (pa da sa va pb db sb vb : Value) (ha : ScrV w a pa da sa va) (hb : ScrV w b pb db sb vb) :
    Calls Tryz.prog 7 #[scrV a pa da sa va, scrV b pb db sb vb] w (Yields w (.bool r)) := e ▸ sameScr_any w a b pa da sa va pb db sb vb ha hb
end Go.Proofs.YtmpgeabfogcblaaGreat
