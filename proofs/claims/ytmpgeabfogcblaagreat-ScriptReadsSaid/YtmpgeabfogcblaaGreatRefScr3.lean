/- The document's own IsScript, as a walk. -/
import Derived.Test.YtmpgeabfogcblaaGreatRefScr2
namespace Go.Proofs.YtmpgeabfogcblaaGreat
open Go.RowKit

theorem arrB_drop {l : List Arv} {k : Nat} (t : Int) (h : k < l.length) : arrB t (l.drop k) = (withB l[k].tick 0 2000 && withB l[k].obj 0 3 && decide (t ≤ l[k].tick) && arrB l[k].tick (l.drop (k + 1))) := by
  rw [List.drop_eq_getElem_cons h]; rfl
theorem isScr_conf {s : Scr} {n : Nat} (h : isConf s.conf = n + 1) : isScr s = n + 1 := by rw [isScr, if_pos (by omega), h]
theorem isScr_large {s : Scr} (h : isConf s.conf = 0) (h2 : largeB s = false) : isScr s = 12 := by rw [isScr, if_neg (by omega), if_pos h2]
theorem isScr_form {s : Scr} (h : isConf s.conf = 0) (h2 : largeB s = true) (h3 : s.arrivals.all (arrB 0) = false) : isScr s = 10 := by rw [isScr, if_neg (by omega), if_neg (by simp [h2]), if_pos h3]
theorem isScr_good {s : Scr} (h : isConf s.conf = 0) (h2 : largeB s = true) (h3 : s.arrivals.all (arrB 0) = true) : isScr s = 0 := by rw [isScr, if_neg (by omega), if_neg (by simp [h2]), if_neg (by simp [h3])]

set_option maxRecDepth 100000 in
set_option maxHeartbeats 3000000 in
theorem rIsScr_any (w : World) (s : Scr) (pv dv sv av : Value) (hc : ScrV w s pv dv sv av) (hr : ∀ d ∈ s.conf.doms, ∀ r ∈ d.routes, r.length ≤ 300) :
    Calls Tryz.prog 19 #[scrV s pv dv sv av] w (Yields w (.int .i64 (isScr s))) := by
  obtain ⟨pp, cp, rfl, hp1, hp2⟩ := hc.conf.plans.shape
  obtain ⟨pd, cd, rfl, hd1, hd2⟩ := hc.conf.doms.shape
  obtain ⟨ps, cs, rfl, hs1, hs2⟩ := hc.streams.shape
  obtain ⟨pa, ca, rfl, ha1, ha2⟩ := hc.arrivals.shape
  unfold maxLen at hp2 hd2 hs2 ha2
  have HC := hid hc
  have HR := hid hr
  clear hc hr
  cases hn : isConf s.conf with
  | succ m =>
    have HN := hid hn
    have HI := hid (isScr_conf hn)
    clear hn
    have hm : (((m + 1 : Nat) : Int) == 0) = false := by simp; omega
    have hm' : (((m + 1 : Nat) : Int) != 0) = true := by simp; omega
    go_enter Tryz.func19, Tryz.ntmps19
    go_wp2_with (go_at_call 49; (with_reducible refine (isConf_to HN.out _ _ _ (HC.out.conf.ext (by repeat (first | exact Ext.refl _ | assumption | refine Ext.more ?_ _ | refine Ext.drew ?_ | refine Ext.drewN ?_ _ | refine Ext.alloc ?_ _ | refine Ext.setCell ?_ (by simp; try omega) _ | refine Ext.trans ?_ (by assumption)))) HR.out).yields ?_); intro p0)
    go_returns
    exact ⟨by rw [HI.out]; simp, (by repeat (first | exact Ext.refl _ | assumption | refine Ext.more ?_ _ | refine Ext.drew ?_ | refine Ext.drewN ?_ _ | refine Ext.alloc ?_ _ | refine Ext.setCell ?_ (by simp; try omega) _ | refine Ext.trans ?_ (by assumption)))⟩
  | zero =>
  have HN := hid hn
  clear hn
  have hm : (((0 : Nat) : Int) == 0) = true := by simp
  have hm' : (((0 : Nat) : Int) != 0) = false := by simp
  cases h0 : withB s.horizon 0 2000
  · have H0 := hid h0
    have HI := hid (isScr_large HN.out (by simp [largeB, h0]))
    clear h0
    go_enter Tryz.func19, Tryz.ntmps19
    go_wp2_with (first | (go_at_call 49; (with_reducible refine (isConf_to HN.out _ _ _ (HC.out.conf.ext (by repeat (first | exact Ext.refl _ | assumption | refine Ext.more ?_ _ | refine Ext.drew ?_ | refine Ext.drewN ?_ _ | refine Ext.alloc ?_ _ | refine Ext.setCell ?_ (by simp; try omega) _ | refine Ext.trans ?_ (by assumption)))) HR.out).yields ?_); intro p0) | (go_at_call 50; (with_reducible refine (within_to H0.out _).yields ?_); intro p1))
    go_returns
    exact ⟨by rw [HI.out]; rfl, (by repeat (first | exact Ext.refl _ | assumption | refine Ext.more ?_ _ | refine Ext.drew ?_ | refine Ext.drewN ?_ _ | refine Ext.alloc ?_ _ | refine Ext.setCell ?_ (by simp; try omega) _ | refine Ext.trans ?_ (by assumption)))⟩
  have H0 := hid h0
  by_cases hl1 : s.streams.length = s.conf.doms.length
  case neg =>
    have l1 : ((s.streams.length : Int) == (s.conf.doms.length : Int)) = false := by simp; omega
    have l2 : ((s.streams.length : Int) != (s.conf.doms.length : Int)) = true := by simp; omega
    have HI := hid (isScr_large HN.out (by simp [largeB, hl1]))
    clear h0 hl1
    go_enter Tryz.func19, Tryz.ntmps19
    go_wp2_with (first | (go_at_call 49; (with_reducible refine (isConf_to HN.out _ _ _ (HC.out.conf.ext (by repeat (first | exact Ext.refl _ | assumption | refine Ext.more ?_ _ | refine Ext.drew ?_ | refine Ext.drewN ?_ _ | refine Ext.alloc ?_ _ | refine Ext.setCell ?_ (by simp; try omega) _ | refine Ext.trans ?_ (by assumption)))) HR.out).yields ?_); intro p0) | (go_at_call 50; (with_reducible refine (within_to H0.out _).yields ?_); intro p1))
    go_returns
    exact ⟨by rw [HI.out]; rfl, (by repeat (first | exact Ext.refl _ | assumption | refine Ext.more ?_ _ | refine Ext.drew ?_ | refine Ext.drewN ?_ _ | refine Ext.alloc ?_ _ | refine Ext.setCell ?_ (by simp; try omega) _ | refine Ext.trans ?_ (by assumption)))⟩
  have l1 : ((s.streams.length : Int) == (s.conf.doms.length : Int)) = true := by simp; omega
  have l2 : ((s.streams.length : Int) != (s.conf.doms.length : Int)) = false := by simp; omega
  by_cases hl2 : s.arrivals.length = s.conf.doms.length
  case neg =>
    have l3 : ((s.arrivals.length : Int) == (s.conf.doms.length : Int)) = false := by simp; omega
    have l4 : ((s.arrivals.length : Int) != (s.conf.doms.length : Int)) = true := by simp; omega
    have HI := hid (isScr_large HN.out (by simp [largeB, hl2]))
    clear h0 hl1 hl2
    go_enter Tryz.func19, Tryz.ntmps19
    go_wp2_with (first | (go_at_call 49; (with_reducible refine (isConf_to HN.out _ _ _ (HC.out.conf.ext (by repeat (first | exact Ext.refl _ | assumption | refine Ext.more ?_ _ | refine Ext.drew ?_ | refine Ext.drewN ?_ _ | refine Ext.alloc ?_ _ | refine Ext.setCell ?_ (by simp; try omega) _ | refine Ext.trans ?_ (by assumption)))) HR.out).yields ?_); intro p0) | (go_at_call 50; (with_reducible refine (within_to H0.out _).yields ?_); intro p1))
    go_returns
    exact ⟨by rw [HI.out]; rfl, (by repeat (first | exact Ext.refl _ | assumption | refine Ext.more ?_ _ | refine Ext.drew ?_ | refine Ext.drewN ?_ _ | refine Ext.alloc ?_ _ | refine Ext.setCell ?_ (by simp; try omega) _ | refine Ext.trans ?_ (by assumption)))⟩
  have l3 : ((s.arrivals.length : Int) == (s.conf.doms.length : Int)) = true := by simp; omega
  have l4 : ((s.arrivals.length : Int) != (s.conf.doms.length : Int)) = false := by simp; omega
  have HL := hid hl1
  have HM := hid hl2
  have HBIG := hid (show s.streams.all streamB = true → s.arrivals.all (fun l => decide (l.length ≤ 100)) = true → largeB s = true from fun a b => by simp only [largeB, h0, a, b, hl1, hl2, Bool.and_true, beq_self_eq_true])
  have HSM1 := hid (show s.streams.all streamB = false → isScr s = 12 from fun a => isScr_large HN.out (by simp only [largeB, a, Bool.and_false, Bool.false_and]))
  have HSM2 := hid (show s.arrivals.all (fun l => decide (l.length ≤ 100)) = false → isScr s = 12 from fun a => isScr_large HN.out (by simp only [largeB, a, Bool.and_false]))
  clear h0 hl1 hl2
  go_enter Tryz.func19, Tryz.ntmps19
  go_wp2_with (first | (go_at_call 49; (with_reducible refine (isConf_to HN.out _ _ _ (HC.out.conf.ext (by repeat (first | exact Ext.refl _ | assumption | refine Ext.more ?_ _ | refine Ext.drew ?_ | refine Ext.drewN ?_ _ | refine Ext.alloc ?_ _ | refine Ext.setCell ?_ (by simp; try omega) _ | refine Ext.trans ?_ (by assumption)))) HR.out).yields ?_); intro p0) | (go_at_call 50; (with_reducible refine (within_to H0.out _).yields ?_); intro p1))
  have hbx : ∀ w' : World, Ext (w.alloc (.cells #[.int .i64 s.conf.frame, .int .i64 s.conf.epoch, .slice pp s.conf.plans.length cp, .slice pd s.conf.doms.length cd, .int .i64 s.horizon, .slice ps s.streams.length cs, .slice pa s.arrivals.length ca] 30 (0, 0))) w' → _ := fun w' h => And.intro (box_cells h 5 (by simp)) (box_cells h 6 (by simp))
  have hx0 : Ext w (w.alloc (.cells #[.int .i64 s.conf.frame, .int .i64 s.conf.epoch, .slice pp s.conf.plans.length cp, .slice pd s.conf.doms.length cd, .int .i64 s.horizon, .slice ps s.streams.length cs, .slice pa s.arrivals.length ca] 30 (0, 0))) := Ext.alloc (Ext.refl _) _
  generalize w.alloc (.cells #[.int .i64 s.conf.frame, .int .i64 s.conf.epoch, .slice pp s.conf.plans.length cp, .slice pd s.conf.doms.length cd, .int .i64 s.horizon, .slice ps s.streams.length cs, .slice pa s.arrivals.length ca] 30 (0, 0)) = W1 at *
  simp only [List.getElem?_toArray, List.getElem?_cons_succ, List.getElem?_cons_zero] at hbx
  have HBX := hid hbx
  clear hbx
  go_loopw [5] (fun v wr => Ext W1 wr ∧ ∃ k : Nat, v = .int .i64 k ∧ k ≤ s.conf.doms.length ∧ Hid ((s.streams.take k).all streamB = true) ∧ Hid ((s.arrivals.take k).all (fun l => decide (l.length ≤ 100)) = true)) (fun v _ => (s.conf.doms.length - intOf v).toNat)
  case atStart => exact ⟨(by repeat (first | exact Ext.refl _ | refine Ext.more ?_ _)), 0, rfl, by omega, rfl, rfl⟩
  case round =>
    obtain ⟨hx, k, rfl, hk, ht1, ht2⟩ := hrel
    obtain ⟨b5, b6⟩ := HBX.out _ hx
    have hw := hx0.trans hx
    have hbs : w.heap.size < wr.heap.size := World.block_lt_of_cell? _ _ b5
    by_cases hlt : k < s.conf.doms.length
    · have hlt1 : k < s.streams.length := by have := HL.out; omega
      have hlt2 : k < s.arrivals.length := by have := HM.out; omega
      obtain ⟨sb, so, rfl, rv, r0, rn⟩ := HC.out.streams.at k hlt1
      obtain ⟨ab, ao, rfl, qv, q0, qn⟩ := HC.out.arrivals.at k hlt2
      obtain ⟨qp, qc, rfl, -, hq2⟩ := qn.shape
      unfold maxLen at hq2
      simp only [Nat.mul_one] at r0 q0
      have e0 := hw.cell r0
      have e1 := hw.cell q0
      have hsb : sb < wr.heap.size := World.block_lt_of_cell? _ _ e0
      have hab : ab < wr.heap.size := World.block_lt_of_cell? _ _ e1
      have RN := hid (rn.ext hw)
      have hA1 := hid (all_take s.streams streamB k hlt1 ht1.out)
      have hB1 := hid (all_bad s.streams streamB k hlt1)
      have hA2 := hid (all_take s.arrivals (fun l => decide (l.length ≤ 100)) k hlt2 ht2.out)
      have hB2 := hid (all_bad s.arrivals (fun l => decide (l.length ≤ 100)) k hlt2)
      clear r0 q0 rn qn
      generalize s.streams[k] = x at *
      generalize s.arrivals[k] = y at *
      have i0 : (k : Int) < s.conf.doms.length := by omega
      have i1 : (k : Int) < s.streams.length := by omega
      have i2 : (k : Int) < s.arrivals.length := by omega
      cases hst : streamB x
      · have HST := hid hst
        clear hst
        go_wp2_with (first | (go_at_call 51; (with_reducible refine (rstream_to HST.out _ _ (RN.out.ext (by repeat (first | exact Ext.refl _ | assumption | refine Ext.more ?_ _ | refine Ext.drew ?_ | refine Ext.drewN ?_ _ | refine Ext.alloc ?_ _ | refine Ext.setCell ?_ (by simp; try omega) _ | refine Ext.trans ?_ (by assumption))))).yields ?_); intro p2))
        go_returns
        have h1 := HSM1.out (hB1.out HST.out)
        exact ⟨by rw [h1]; rfl, (by repeat (first | exact Ext.refl _ | assumption | refine Ext.more ?_ _ | refine Ext.drew ?_ | refine Ext.drewN ?_ _ | refine Ext.alloc ?_ _ | refine Ext.setCell ?_ (by simp; try omega) _ | refine Ext.trans ?_ (by assumption)))⟩
      have HST := hid hst
      clear hst
      by_cases h100 : y.length ≤ 100
      · have h100' : (y.length : Int) ≤ 100 := by omega
        have h100b : decide ((100 : Int) < (y.length : Int)) = false := by simpa using h100'
        go_wp2_with (first | (go_at_call 51; (with_reducible refine (rstream_to HST.out _ _ (RN.out.ext (by repeat (first | exact Ext.refl _ | assumption | refine Ext.more ?_ _ | refine Ext.drew ?_ | refine Ext.drewN ?_ _ | refine Ext.alloc ?_ _ | refine Ext.setCell ?_ (by simp; try omega) _ | refine Ext.trans ?_ (by assumption))))).yields ?_); intro p2))
        go_roundw
        case rel => exact ⟨(by repeat (first | exact Ext.refl _ | assumption | refine Ext.more ?_ _ | refine Ext.drew ?_ | refine Ext.drewN ?_ _ | refine Ext.alloc ?_ _ | refine Ext.setCell ?_ (by simp; try omega) _ | refine Ext.trans ?_ (by assumption))), k + 1, by go_num, by omega, by unfold Hid; rw [hA1.out]; exact HST.out, by unfold Hid; rw [hA2.out]; simpa using h100⟩
        case measure => simp [intOf]; omega
      · have h100' : (100 : Int) < (y.length : Int) := by omega
        go_wp2_with (first | (go_at_call 51; (with_reducible refine (rstream_to HST.out _ _ (RN.out.ext (by repeat (first | exact Ext.refl _ | assumption | refine Ext.more ?_ _ | refine Ext.drew ?_ | refine Ext.drewN ?_ _ | refine Ext.alloc ?_ _ | refine Ext.setCell ?_ (by simp; try omega) _ | refine Ext.trans ?_ (by assumption))))).yields ?_); intro p2))
        go_returns
        have h1 := HSM2.out (hB2.out (by simpa using h100))
        exact ⟨by rw [h1]; rfl, (by repeat (first | exact Ext.refl _ | assumption | refine Ext.more ?_ _ | refine Ext.drew ?_ | refine Ext.drewN ?_ _ | refine Ext.alloc ?_ _ | refine Ext.setCell ?_ (by simp; try omega) _ | refine Ext.trans ?_ (by assumption)))⟩
    · obtain rfl : k = s.conf.doms.length := by omega
      have e1 := ht1.out
      have e2 := ht2.out
      rw [← HL.out, List.take_length] at e1
      rw [← HM.out, List.take_length] at e2
      have HBIG2 := hid (HBIG.out e1 e2)
      clear e1 e2 ht1 ht2 HBIG HSM1 HSM2 b5 b6
      have HF := hid (isScr_form HN.out HBIG2.out)
      have HG := hid (isScr_good HN.out HBIG2.out)
      go_wp2_with fail
      go_loopw [6] (fun v wr => Ext W1 wr ∧ ∃ k : Nat, v = .int .i64 k ∧ k ≤ s.conf.doms.length ∧ Hid ((s.arrivals.take k).all (arrB 0) = true)) (fun v _ => (s.conf.doms.length - intOf v).toNat)
      case atStart => exact ⟨hx, 0, rfl, by omega, rfl⟩
      case round =>
        clear hw hx hbs
        obtain ⟨hx, k, rfl, hk, ht1⟩ := hrel
        obtain ⟨b5, b6⟩ := HBX.out _ hx
        have hw := hx0.trans hx
        have hbs : w.heap.size < wr.heap.size := World.block_lt_of_cell? _ _ b5
        by_cases hlt : k < s.conf.doms.length
        · have hlt2 : k < s.arrivals.length := by have := HM.out; omega
          obtain ⟨ab, ao, rfl, qv, q0, qn⟩ := HC.out.arrivals.at k hlt2
          obtain ⟨qp, qc, rfl, hq1, hq2⟩ := qn.shape
          unfold maxLen at hq2
          simp only [Nat.mul_one] at q0
          have e1 := hw.cell q0
          have hab : ab < wr.heap.size := World.block_lt_of_cell? _ _ e1
          have QN := hid qn
          have hA2 := hid (all_take s.arrivals (arrB 0) k hlt2 ht1.out)
          have hB2 := hid (all_bad s.arrivals (arrB 0) k hlt2)
          clear q0 qn ht1
          generalize s.arrivals[k] = y at *
          have i0 : (k : Int) < s.conf.doms.length := by omega
          have i2 : (k : Int) < s.arrivals.length := by omega
          go_wp2_with fail
          go_loopw [8] (fun v wr => Ext W1 wr ∧ ∃ i t : Int, v = .int .i64 i ∧ i ≤ y.length ∧ ((i = 0 ∧ Hid (arrB 0 y = arrB t (y.drop 0)) ∧ t = 0) ∨ ∃ j : Nat, ∃ hj : j < y.length, i = (j : Int) + 1 ∧ Hid (arrB 0 y = arrB t (y.drop (j + 1))) ∧ t = y[j].tick)) (fun v _ => (y.length - intOf v).toNat)
          case atStart => exact ⟨hx, 0, 0, rfl, by omega, Or.inl ⟨rfl, rfl, rfl⟩⟩
          case round =>
            clear hx hw hbs b5 b6 e1 hab
            obtain ⟨hx, i, t, rfl, hi, hcase⟩ := hrel
            have hw := hx0.trans hx
            rcases hcase with ⟨rfl, hd, rfl⟩ | ⟨j, hj, rfl, hd, rfl⟩
            · by_cases hy : 0 < y.length
              · obtain ⟨yb, yo, rfl, y0, y1⟩ := QN.out.at 0 hy
                have m0 := more_cell (hw.cell y0)
                have m1 := more_cell (hw.cell y1)
                simp only [Nat.zero_mul, Nat.add_zero] at m0 m1
                have hdr := hid (hd.out.trans (arrB_drop 0 hy))
                have hnx := hid (show (y[0]'hy) = (y[0]'hy) from rfl)
                clear y0 y1 hd
                have hgo := hid (fun (h1 : withB (y[0]'hy).tick 0 2000 = true) (h2 : withB (y[0]'hy).obj 0 3 = true) => hdr.out.trans (show _ = arrB (y[0]'hy).tick (y.drop (0 + 1)) by
                  rw [h1, h2, decide_eq_true ((withB_iff.mp h1).1)]; rfl))
                have hy' : (0 : Int) < y.length := by omega
                have hkeep : Hid (∃ hj : 0 < y.length, (y[0]'hy).tick = (y[0]'hj).tick) := ⟨hy, rfl⟩
                generalize (y[0]'hy) = x at *
                cases h1 : withB x.tick 0 2000
                · have H1 := hid h1
                  clear h1
                  have hf := hid (HF.out (hB2.out (by rw [hdr.out, H1.out]; rfl)))
                  go_wp2_with fail
                  ((first | refine wp_region_more (by kernel_rfl) (by kernel_rfl) ?_ | refine wp_region_ext (by kernel_rfl) (by kernel_rfl) ?_); (try dsimp only [append_cons', append_nil']); (repeat (go_big_quiet_step ((go_at_call 50; with_reducible refine Calls.more_of (within_to H1.out _))))); refine wpQuiet_nil ?_; rintro _ ⟨pq, rfl⟩)
                  go_wp2
                  go_returns
                  exact ⟨by rw [hf.out]; rfl, hw.trans (ext_more _ _)⟩
                have H1 := hid h1
                clear h1
                cases h2 : withB x.obj 0 3
                · have H2 := hid h2
                  clear h2
                  have hf := hid (HF.out (hB2.out (by rw [hdr.out, H2.out, Bool.and_false]; rfl)))
                  go_wp2_with fail
                  ((first | refine wp_region_more (by kernel_rfl) (by kernel_rfl) ?_ | refine wp_region_ext (by kernel_rfl) (by kernel_rfl) ?_); (try dsimp only [append_cons', append_nil']); (repeat (go_big_quiet_step ((first | (go_at_call 50; with_reducible refine Calls.more_of (within_to H1.out _)) | (go_at_call 50; with_reducible refine Calls.more_of (within_to H2.out _)))))); refine wpQuiet_nil ?_; rintro _ ⟨pq, rfl⟩)
                  go_wp2
                  go_returns
                  exact ⟨by rw [hf.out]; rfl, hw.trans (ext_more _ _)⟩
                have H2 := hid h2
                clear h2
                go_wp2_with fail
                ((first | refine wp_region_more (by kernel_rfl) (by kernel_rfl) ?_ | refine wp_region_ext (by kernel_rfl) (by kernel_rfl) ?_); (try dsimp only [append_cons', append_nil']); (repeat (go_big_quiet_step ((first | (go_at_call 50; with_reducible refine Calls.more_of (within_to H1.out _)) | (go_at_call 50; with_reducible refine Calls.more_of (within_to H2.out _)))))); refine wpQuiet_nil ?_; rintro _ ⟨pq, rfl⟩)
                go_wp2
                go_roundw
                case rel => exact ⟨hx.trans (ext_more _ _), 1, x.tick, rfl, by omega, Or.inr ⟨0, hkeep.out.1, rfl, hid (hgo.out H1.out H2.out), hkeep.out.2⟩⟩
                case measure => simp [intOf]; omega
              · have hall : arrB 0 y = true := by
                  have : y = [] := List.eq_nil_of_length_eq_zero (by omega)
                  rw [this]; rfl
                have hgd := hid (hA2.out.trans hall)
                go_wp2
                go_roundw
                case rel => exact ⟨hx, k + 1, by go_num, by omega, hgd⟩
                case measure => simp [intOf]; omega
            · by_cases hy : j + 1 < y.length
              · obtain ⟨yb, yo, rfl, y0, -⟩ := QN.out.at j hj
                obtain ⟨_, _, hpp, z0, z1⟩ := QN.out.at (j + 1) hy
                cases hpp
                have m0 := more_cell (hw.cell y0)
                have m1 := more_cell (hw.cell z0)
                have m2 := more_cell (hw.cell z1)
                have hdr := hid (hd.out.trans (arrB_drop _ hy))
                clear y0 z0 z1 hd
                have hgo := hid (fun (h1 : withB (y[j + 1]'hy).tick 0 2000 = true) (h2 : withB (y[j + 1]'hy).obj 0 3 = true) (h3 : (y[j]'hj).tick ≤ (y[j + 1]'hy).tick) => hdr.out.trans (show _ = arrB (y[j + 1]'hy).tick (y.drop (j + 1 + 1)) by
                  rw [h1, h2, decide_eq_true h3]; rfl))
                have hkeep : Hid (∃ hj : j + 1 < y.length, (y[j + 1]'hy).tick = (y[j + 1]'hj).tick) := ⟨hy, rfl⟩
                have i3 : (0 : Int) ≤ (j : Int) := by omega
                have i4 : (j : Int) < y.length := by omega
                have i5 : (j : Int) + 1 < y.length := by omega
                have i6 : (0 : Int) ≤ (j : Int) + 1 := by omega
                have i7 : ((j : Int) + 1).toNat = j + 1 := by omega
                have i8 : (0 : Int) < (j : Int) + 1 := by omega
                generalize (y[j + 1]'hy) = x at *
                generalize (y[j]'hj) = p at *
                cases h1 : withB x.tick 0 2000
                · have H1 := hid h1
                  clear h1
                  have hf := hid (HF.out (hB2.out (by rw [hdr.out, H1.out]; rfl)))
                  go_wp2_with fail
                  ((first | refine wp_region_more (by kernel_rfl) (by kernel_rfl) ?_ | refine wp_region_ext (by kernel_rfl) (by kernel_rfl) ?_); (try dsimp only [append_cons', append_nil']); (repeat (go_big_quiet_step ((go_at_call 50; with_reducible refine Calls.more_of (within_to H1.out _))))); refine wpQuiet_nil ?_; rintro _ ⟨pq, rfl⟩)
                  go_wp2
                  go_returns
                  exact ⟨by rw [hf.out]; rfl, hw.trans (ext_more _ _)⟩
                have H1 := hid h1
                clear h1
                cases h2 : withB x.obj 0 3
                · have H2 := hid h2
                  clear h2
                  have hf := hid (HF.out (hB2.out (by rw [hdr.out, H2.out, Bool.and_false]; rfl)))
                  go_wp2_with fail
                  ((first | refine wp_region_more (by kernel_rfl) (by kernel_rfl) ?_ | refine wp_region_ext (by kernel_rfl) (by kernel_rfl) ?_); (try dsimp only [append_cons', append_nil']); (repeat (go_big_quiet_step ((first | (go_at_call 50; with_reducible refine Calls.more_of (within_to H1.out _)) | (go_at_call 50; with_reducible refine Calls.more_of (within_to H2.out _)))))); refine wpQuiet_nil ?_; rintro _ ⟨pq, rfl⟩)
                  go_wp2
                  go_returns
                  exact ⟨by rw [hf.out]; rfl, hw.trans (ext_more _ _)⟩
                have H2 := hid h2
                clear h2
                by_cases h3 : p.tick ≤ x.tick
                · have h3b : decide (x.tick < p.tick) = false := by simpa using h3
                  have H3 := hid h3
                  go_wp2_with fail
                  ((first | refine wp_region_more (by kernel_rfl) (by kernel_rfl) ?_ | refine wp_region_ext (by kernel_rfl) (by kernel_rfl) ?_); (try dsimp only [append_cons', append_nil']); (repeat (go_big_quiet_step ((first | (go_at_call 50; with_reducible refine Calls.more_of (within_to H1.out _)) | (go_at_call 50; with_reducible refine Calls.more_of (within_to H2.out _)))))); refine wpQuiet_nil ?_; rintro _ ⟨pq, rfl⟩)
                  go_wp2
                  go_roundw
                  case rel => exact ⟨hx.trans (ext_more _ _), (j : Int) + 1 + 1, x.tick, rfl, by omega, Or.inr ⟨j + 1, hkeep.out.1, by go_num, hid (hgo.out H1.out H2.out H3.out), hkeep.out.2⟩⟩
                  case measure => simp [intOf]; omega
                · have h3' : x.tick < p.tick := by omega
                  have hf := hid (HF.out (hB2.out (by rw [hdr.out, decide_eq_false h3, Bool.and_false]; rfl)))
                  go_wp2_with fail
                  ((first | refine wp_region_more (by kernel_rfl) (by kernel_rfl) ?_ | refine wp_region_ext (by kernel_rfl) (by kernel_rfl) ?_); (try dsimp only [append_cons', append_nil']); (repeat (go_big_quiet_step ((first | (go_at_call 50; with_reducible refine Calls.more_of (within_to H1.out _)) | (go_at_call 50; with_reducible refine Calls.more_of (within_to H2.out _)))))); refine wpQuiet_nil ?_; rintro _ ⟨pq, rfl⟩)
                  go_wp2
                  go_returns
                  exact ⟨by rw [hf.out]; rfl, hw.trans (ext_more _ _)⟩
              · have hall : arrB 0 y = true := by
                  rw [hd.out, List.drop_eq_nil_of_le (by omega)]; rfl
                have e9 : j + 1 = y.length := by omega
                have i5 : ¬ ((j : Int) + 1 < y.length) := by omega
                have hgd := hid (hA2.out.trans hall)
                go_wp2
                go_roundw
                case rel => exact ⟨hx, k + 1, by go_num, by omega, hgd⟩
                case measure => simp [intOf]; omega
        · obtain rfl : k = s.conf.doms.length := by omega
          have e2 := ht1.out
          rw [← HM.out, List.take_length] at e2
          have HG2 := hid (HG.out e2)
          clear e2
          go_wp2
          go_returns
          exact ⟨by rw [HG2.out]; rfl, hw⟩
end Go.Proofs.YtmpgeabfogcblaaGreat
