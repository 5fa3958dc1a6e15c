/- The document's own Bytes, as a walk. -/
import Derived.Test.YtmpgeabfogcblaaGreatRefScr3
import Derived.Test.YtmpgeabfogcblaaGreatRefScr5
import Derived.Test.YtmpgeabfogcblaaGreatMath4c
namespace Go.Proofs.YtmpgeabfogcblaaGreat
open Go.RowKit

theorem rIsScr_to {s : Scr} {n : Nat} (e : isScr s = n) (w : World) (pv dv sv av : Value) (hc : ScrV w s pv dv sv av) (hr : ∀ d ∈ s.conf.doms, ∀ r ∈ d.routes, r.length ≤ 300) :
    Calls Tryz.prog 19 #[scrV s pv dv sv av] w (Yields w (.int .i64 n)) := e ▸ rIsScr_any w s pv dv sv av hc hr
theorem flat_take_le {α : Type} (g : α → List UInt8) (l : List α) (k : Nat) : ((l.take k).flatMap g).length ≤ (l.flatMap g).length := by
  have := congrArg List.length (List.flatMap_append (xs := l.take k) (ys := l.drop k) (f := g))
  rw [List.take_append_drop, List.length_append] at this
  omega

set_option maxRecDepth 100000 in
set_option maxHeartbeats 3000000 in
theorem rBytes_bad (w : World) (s : Scr) (pv dv sv av : Value) (hc : ScrV w s pv dv sv av) (hr : ∀ d ∈ s.conf.doms, ∀ r ∈ d.routes, r.length ≤ 300) {n : Nat} (hn : isScr s = n + 1) :
    Calls Tryz.prog 20 #[scrV s pv dv sv av] w (Yields w (.string (str []))) := by
  have HC := hid hc
  have HR := hid hr
  have HN := hid hn
  clear hc hr hn
  have hm : (((n + 1 : Nat) : Int) == 0) = false := by simp; omega
  have hm' : (((n + 1 : Nat) : Int) != 0) = true := by simp; omega
  go_enter Tryz.func20, Tryz.ntmps20
  go_wp2_with (go_at_call 19; (with_reducible refine (rIsScr_to HN.out _ _ _ _ _ (HC.out.ext (by repeat (first | exact Ext.refl _ | assumption | refine Ext.more ?_ _ | refine Ext.drew ?_ | refine Ext.drewN ?_ _ | refine Ext.alloc ?_ _ | refine Ext.setCell ?_ (by simp; try omega) _ | refine Ext.trans ?_ (by assumption)))) HR.out).yields ?_); intro p0)
  go_returns
  exact ⟨by simp [str_nil], (by repeat (first | exact Ext.refl _ | assumption | refine Ext.more ?_ _ | refine Ext.drew ?_ | refine Ext.drewN ?_ _ | refine Ext.alloc ?_ _ | refine Ext.setCell ?_ (by simp; try omega) _ | refine Ext.trans ?_ (by assumption)))⟩

set_option maxRecDepth 100000 in
set_option maxHeartbeats 6000000 in
theorem rBytes_good (w : World) (s : Scr) (pv dv sv av : Value) (hc : ScrV w s pv dv sv av) (hi : CnfIn s.conf) (hn : isScr s = 0) (hb : (allBytes s).length ≤ 40000) :
    Calls Tryz.prog 20 #[scrV s pv dv sv av] w (Yields w (.string (str (allBytes s)))) := by
  obtain ⟨pp, cp, rfl, hp1, hp2⟩ := hc.conf.plans.shape
  obtain ⟨pd, cd, rfl, hd1, hd2⟩ := hc.conf.doms.shape
  obtain ⟨ps, cs, rfl, hs1, hs2⟩ := hc.streams.shape
  obtain ⟨pa, ca, rfl, ha1, ha2⟩ := hc.arrivals.shape
  unfold maxLen at hp2 hd2 hs2 ha2
  have HC := hid hc
  have HR := hid (fun d hd r h => ((hi.dom d hd).route r h).1)
  have HI := hid hi
  have HN := hid hn
  have hbl : (headBytes s.conf).length + (plansBytes s.conf.plans).length + (s.conf.doms.flatMap domBytes).length + (numB s.horizon).length + (s.streams.flatMap streamBytes).length + (s.arrivals.flatMap arrBytes).length ≤ 40000 := by
    simp only [allBytes, confBytes, List.length_append] at hb
    omega
  have HB := hid hbl
  clear hc hi hn hb hbl
  have hm : (((0 : Nat) : Int) == 0) = true := by simp
  have hm' : (((0 : Nat) : Int) != 0) = false := by simp
  go_enter Tryz.func20, Tryz.ntmps20
  go_wp2_with (go_at_call 19; (with_reducible refine (rIsScr_to HN.out _ _ _ _ _ (HC.out.ext (by repeat (first | exact Ext.refl _ | assumption | refine Ext.more ?_ _ | refine Ext.drew ?_ | refine Ext.drewN ?_ _ | refine Ext.alloc ?_ _ | refine Ext.setCell ?_ (by simp; try omega) _ | refine Ext.trans ?_ (by assumption)))) HR.out).yields ?_); intro p0)
  have hbx := fun (w' : World) (h : Ext ((more (w.alloc (.cells #[.int .i64 s.conf.frame, .int .i64 s.conf.epoch, .slice pp s.conf.plans.length cp, .slice pd s.conf.doms.length cd, .int .i64 s.horizon, .slice ps s.streams.length cs, .slice pa s.arrivals.length ca] 30 (0, 0))) p0).alloc (.cells #[.int .i64 s.conf.frame, .int .i64 s.conf.epoch, .slice pp s.conf.plans.length cp, .slice pd s.conf.doms.length cd] 26 (0, 0))) w') => And.intro (box_cells h 0 (by simp)) (And.intro (box_cells h 1 (by simp)) (And.intro (box_cells h 2 (by simp)) (And.intro (box_cells h 3 (by simp)) (And.intro (box_cells (Ext.trans (Ext.alloc (ext_more _ _) _) h) 4 (by simp)) (And.intro (box_cells (Ext.trans (Ext.alloc (ext_more _ _) _) h) 5 (by simp)) (box_cells (Ext.trans (Ext.alloc (ext_more _ _) _) h) 6 (by simp)))))))
  have hx0 : Ext w ((more (w.alloc (.cells #[.int .i64 s.conf.frame, .int .i64 s.conf.epoch, .slice pp s.conf.plans.length cp, .slice pd s.conf.doms.length cd, .int .i64 s.horizon, .slice ps s.streams.length cs, .slice pa s.arrivals.length ca] 30 (0, 0))) p0).alloc (.cells #[.int .i64 s.conf.frame, .int .i64 s.conf.epoch, .slice pp s.conf.plans.length cp, .slice pd s.conf.doms.length cd] 26 (0, 0))) := Ext.alloc ((Ext.alloc (Ext.refl _) _).trans (ext_more _ _)) _
  have hsz : w.heap.size + 1 + p0.os.size < ((more (w.alloc (.cells #[.int .i64 s.conf.frame, .int .i64 s.conf.epoch, .slice pp s.conf.plans.length cp, .slice pd s.conf.doms.length cd, .int .i64 s.horizon, .slice ps s.streams.length cs, .slice pa s.arrivals.length ca] 30 (0, 0))) p0).alloc (.cells #[.int .i64 s.conf.frame, .int .i64 s.conf.epoch, .slice pp s.conf.plans.length cp, .slice pd s.conf.doms.length cd] 26 (0, 0))).heap.size := by simp only [World.size_alloc, more_size]; omega
  generalize ((more (w.alloc (.cells #[.int .i64 s.conf.frame, .int .i64 s.conf.epoch, .slice pp s.conf.plans.length cp, .slice pd s.conf.doms.length cd, .int .i64 s.horizon, .slice ps s.streams.length cs, .slice pa s.arrivals.length ca] 30 (0, 0))) p0).alloc (.cells #[.int .i64 s.conf.frame, .int .i64 s.conf.epoch, .slice pp s.conf.plans.length cp, .slice pd s.conf.doms.length cd] 26 (0, 0))) = W1 at *
  simp only [List.getElem?_toArray, List.getElem?_cons_succ, List.getElem?_cons_zero, World.size_alloc, more_size] at hbx
  have HBX := hid hbx
  clear hbx
  generalize hM : w.heap.size + 1 + p0.os.size = M at *
  clear hM
  obtain ⟨q0, q1, q2, q3, q4, q5, q6⟩ := HBX.out _ (Ext.refl _)
  have m0 := more_cell q0
  have m1 := more_cell q1
  have m2 := more_cell q2
  have m3 := more_cell q3
  have n0 := numB_length s.conf.frame
  have n1 := numB_length s.conf.epoch
  have n2 := numB_length s.conf.plans.length
  have n3 := numB_length s.conf.doms.length
  ((first | refine wp_region_more (by kernel_rfl) (by kernel_rfl) ?_ | refine wp_region_ext (by kernel_rfl) (by kernel_rfl) ?_); (try dsimp only [append_cons', append_nil']); (repeat (go_big_quiet_step ((go_at_call 52; with_reducible refine Calls.more_of (fnum_any _ _))))); refine wpQuiet_nil ?_; rintro _ ⟨pq, rfl⟩)
  go_wp2_with fail
  go_loopw [4, 5] (fun v4 v5 wr => Ext W1 wr ∧ ∃ (k : Nat) (pre : List UInt8), v4 = .string (str pre) ∧ v5 = .int .i64 k ∧ k ≤ s.conf.plans.length ∧ pre.length ≤ 40000 ∧ Hid (pre = headBytes s.conf ++ plansBytes (s.conf.plans.take k))) (fun _ v5 _ => (s.conf.plans.length - intOf v5).toNat)
  case atStart =>
    refine ⟨ext_more _ _, 0, headBytes s.conf, ?_, rfl, by omega, ?_, ?_⟩
    · simp only [headBytes, List.append_assoc]
    · have := HB.out; omega
    · simp [plansBytes, Hid]
  case round =>
    clear q0 q1 q2 q3 q4 q5 q6 m0 m1 m2 m3
    obtain ⟨hx, k, pre, rfl, rfl, hk, hp, ht⟩ := hrel
    obtain ⟨q0, q1, q2, q3, q4, q5, q6⟩ := HBX.out _ hx
    have hw := hx0.trans hx
    have hbs : M < wr.heap.size := World.block_lt_of_cell? _ _ q0
    by_cases hlt : k < s.conf.plans.length
    · obtain ⟨rb, ro, rfl, rv, r0, rn⟩ := HC.out.conf.plans.at k hlt
      obtain ⟨rp, rc, rfl, hrr1, hrr2⟩ := rn.shape
      unfold maxLen at hrr2
      simp only [Nat.mul_one] at r0
      have RN := hid rn
      have R0 := hid r0
      have hT := hid (take_flat (fun p : List Int => p.flatMap numB) hlt)
      have hTL := hid (flat_take_le (fun p : List Int => p.flatMap numB) s.conf.plans (k + 1))
      have i1 : (k : Int) < s.conf.plans.length := by omega
      clear r0 rn
      generalize s.conf.plans[k] = row at *
      go_wp2_with fail
      go_loopw [4, 6] (fun v4 v6 wr => Ext W1 wr ∧ ∃ (j : Nat) (pre' : List UInt8), v4 = .string (str pre') ∧ v6 = .int .i64 j ∧ j ≤ row.length ∧ pre'.length ≤ 40000 ∧ Hid (pre' = pre ++ (row.take j).flatMap numB)) (fun _ v6 _ => (row.length - intOf v6).toNat)
      case atStart => exact ⟨hx, 0, pre, rfl, rfl, by omega, hp, by simp [Hid]⟩
      case round =>
        clear q0 q1 q2 q3 q4 q5 q6 hbs hw hx
        obtain ⟨hx, j, pre', rfl, rfl, hj, hp', ht'⟩ := hrel
        obtain ⟨q0, q1, q2, q3, q4, q5, q6⟩ := HBX.out _ hx
        have hw := hx0.trans hx
        have hbs : M < wr.heap.size := World.block_lt_of_cell? _ _ q0
        have c0 := hw.cell R0.out
        have hrb : rb < wr.heap.size := World.block_lt_of_cell? _ _ c0
        by_cases hjl : j < row.length
        · obtain ⟨eb, eo, rfl, s0, _⟩ := RN.out.at j hjl
          simp only [Nat.mul_one] at s0
          have c1 := hw.cell s0
          have heb : eb < wr.heap.size := World.block_lt_of_cell? _ _ c1
          have hTj := hid (take_flat numB hjl)
          have hTLj := hid (flat_take_le numB row (j + 1))
          generalize row[j] = x at *
          have i2 : (j : Int) < row.length := by omega
          have hlen : (numB x).length ≤ 3 := numB_length x
          have hsum : pre'.length + (numB x).length ≤ 40003 := by omega
          clear s0
          go_wp2_with (go_at_call 52; (with_reducible refine (fnum_any _ _).yields ?_); intro p1)
          go_roundw
          case rel =>
            refine ⟨(by repeat (first | exact Ext.refl _ | assumption | refine Ext.more ?_ _ | refine Ext.drew ?_ | refine Ext.drewN ?_ _ | refine Ext.alloc ?_ _ | refine Ext.setCell ?_ (by simp; try omega) _ | refine Ext.trans ?_ (by assumption))), j + 1, pre' ++ numB x, rfl, by go_num, by omega, ?_, ?_⟩
            · have e1 := congrArg List.length (hTj.out)
              have e2 := congrArg List.length (hT.out)
              have e3 := congrArg List.length ht'.out
              have e4 := congrArg List.length ht.out
              have e5 := hTL.out
              have e6 := hTLj.out
              have e7 := HB.out
              simp only [List.length_append, plansBytes] at e1 e2 e3 e4 e7 ⊢
              omega
            · unfold Hid
              rw [hTj.out, ht'.out, List.append_assoc]
          case measure => simp [intOf]; omega
        · obtain rfl : j = row.length := by omega
          have he := ht'.out
          rw [List.take_length] at he
          have HE := hid he
          clear he
          go_wp2
          go_roundw
          case rel =>
            refine ⟨hx, k + 1, pre', rfl, by go_num, by omega, hp', ?_⟩
            unfold Hid plansBytes
            rw [hT.out, HE.out, ht.out, List.append_assoc]
            rfl
          case measure => simp [intOf]; omega
    · obtain rfl : k = s.conf.plans.length := by omega
      have he := ht.out
      rw [List.take_length] at he
      have HE := hid he
      clear he ht
      go_wp2_with fail
      go_loopw [4, 7] (fun v4 v7 wr => Ext W1 wr ∧ ∃ (k : Nat) (pre : List UInt8), v4 = .string (str pre) ∧ v7 = .int .i64 k ∧ k ≤ s.conf.doms.length ∧ pre.length ≤ 40000 ∧ Hid (pre = headBytes s.conf ++ plansBytes s.conf.plans ++ (s.conf.doms.take k).flatMap domBytes)) (fun _ v7 _ => (s.conf.doms.length - intOf v7).toNat)
      case atStart => exact ⟨hx, 0, pre, rfl, rfl, by omega, by have e1 := congrArg List.length HE.out; have e7 := HB.out; simp only [List.length_append] at e1; omega, by simp [Hid, HE.out]⟩
      case round =>
        clear q0 q1 q2 q3 q4 q5 q6 hbs hw hx HE hp
        obtain ⟨hx, k, pre, rfl, rfl, hk, hp, ht⟩ := hrel
        obtain ⟨q0, q1, q2, q3, q4, q5, q6⟩ := HBX.out _ hx
        have hw := hx0.trans hx
        have hbs : M < wr.heap.size := World.block_lt_of_cell? _ _ q0
        by_cases hlt : k < s.conf.doms.length
        · obtain ⟨db, doff, rfl, vr, ve, D, DR, DE, hcat, -⟩ := HC.out.conf.doms.at k hlt
          obtain ⟨rp, rc, rfl, hrr1, hrr2⟩ := DR.shape
          obtain ⟨ep, ec, rfl, -, -⟩ := DE.shape
          unfold maxLen at hrr2
          have HD := hid (HI.out.dom _ (List.getElem_mem hlt))
          have D' := D.ext hw
          have DRh := hid DR
          have DEh := hid DE
          have hT := hid (take_flat domBytes hlt)
          have hTL := hid (flat_take_le domBytes s.conf.doms (k + 1))
          have i1 : (k : Int) < s.conf.doms.length := by omega
          clear D DR DE
          generalize s.conf.doms[k] = d at *
          obtain ⟨c0, c1, c2, c3, c4, c5, c6, c7, c8, c9⟩ := D'
          have hdb : db < wr.heap.size := World.block_lt_of_cell? _ _ c0
          go_wp2_with fail
          have hdx := fun (w' : World) (h : Ext (wr.alloc (.cells #[.int .i64 d.level, .int .u64 d.cats, .slice rp d.routes.length rc, .slice ep d.release.length ec, .int .i64 d.to, .int .i64 d.threads, .int .i64 d.groups, .int .i64 d.ring, .int .i64 d.sends, .int .i64 d.box] 94 (0, 0))) w') => And.intro (box_cells h 0 (by simp)) (And.intro (box_cells h 1 (by simp)) (And.intro (box_cells h 2 (by simp)) (And.intro (box_cells h 3 (by simp)) (And.intro (box_cells h 4 (by simp)) (And.intro (box_cells h 5 (by simp)) (And.intro (box_cells h 6 (by simp)) (And.intro (box_cells h 7 (by simp)) (And.intro (box_cells h 8 (by simp)) (box_cells h 9 (by simp))))))))))
          have hy0 : Ext W1 (wr.alloc (.cells #[.int .i64 d.level, .int .u64 d.cats, .slice rp d.routes.length rc, .slice ep d.release.length ec, .int .i64 d.to, .int .i64 d.threads, .int .i64 d.groups, .int .i64 d.ring, .int .i64 d.sends, .int .i64 d.box] 94 (0, 0))) := hx.alloc _
          have hsz2 : wr.heap.size < (wr.alloc (.cells #[.int .i64 d.level, .int .u64 d.cats, .slice rp d.routes.length rc, .slice ep d.release.length ec, .int .i64 d.to, .int .i64 d.threads, .int .i64 d.groups, .int .i64 d.ring, .int .i64 d.sends, .int .i64 d.box] 94 (0, 0))).heap.size := by simp
          generalize (wr.alloc (.cells #[.int .i64 d.level, .int .u64 d.cats, .slice rp d.routes.length rc, .slice ep d.release.length ec, .int .i64 d.to, .int .i64 d.threads, .int .i64 d.groups, .int .i64 d.ring, .int .i64 d.sends, .int .i64 d.box] 94 (0, 0))) = W2 at *
          simp only [List.getElem?_toArray, List.getElem?_cons_succ, List.getElem?_cons_zero] at hdx
          generalize wr.heap.size = N at *
          have HDX := hid hdx
          clear hdx c0 c1 c2 c3 c4 c5 c6 c7 c8 c9 q0 q1 q2 q3 q4 q5 q6 hbs hw hx hdb
          obtain ⟨d0, d1, d2, d3, d4, d5, d6, d7, d8, d9⟩ := HDX.out _ (Ext.refl _)
          have m0 := more_cell d0
          have m1 := more_cell d1
          have m2 := more_cell d2
          have g0 := numB_length d.level
          have g1 := bitsB_length d.cats
          have g2 := numB_length d.routes.length
          ((first | refine wp_region_more (by kernel_rfl) (by kernel_rfl) ?_ | refine wp_region_ext (by kernel_rfl) (by kernel_rfl) ?_); (try dsimp only [append_cons', append_nil']); (repeat (go_big_quiet_step ((first | (go_at_call 52; with_reducible refine Calls.more_of (fnum_any _ _)) | (go_at_call 53; with_reducible refine Calls.more_of (fbits_any _ hcat _)))))); refine wpQuiet_nil ?_; rintro _ ⟨pq, rfl⟩)
          go_wp2_with fail
          have HCAT := hid hcat
          clear hcat d0 d1 d2 d3 d4 d5 d6 d7 d8 d9 m0 m1 m2
          go_loopw [4, 9] (fun v4 v9 wr => Ext W2 wr ∧ ∃ (j : Nat) (pre' : List UInt8), v4 = .string (str pre') ∧ v9 = .int .i64 j ∧ j ≤ d.routes.length ∧ pre'.length ≤ 40000 ∧ Hid (pre' = pre ++ (numB d.level ++ (bitsB d.cats ++ numB d.routes.length)) ++ (d.routes.take j).flatMap rowB)) (fun _ v9 _ => (d.routes.length - intOf v9).toNat)
          case atStart =>
            refine ⟨ext_more _ _, 0, _, rfl, rfl, by omega, ?_, by simp [Hid]⟩
            have e2 := congrArg List.length (hT.out)
            have e4 := congrArg List.length ht.out
            have e5 := hTL.out
            have e7 := HB.out
            simp only [List.length_append, domBytes] at e2 e4 e5 e7 ⊢
            omega
          case round =>
            obtain ⟨hx, j, pre', rfl, rfl, hj, hp', ht'⟩ := hrel
            obtain ⟨d0, d1, d2, d3, d4, d5, d6, d7, d8, d9⟩ := HDX.out _ hx
            have hN : N < wr.heap.size := World.block_lt_of_cell? _ _ d0
            have hw := (hx0.trans hy0).trans hx
            by_cases hjl : j < d.routes.length
            · obtain ⟨eb, eo, rfl, sv, s0, sn⟩ := DRh.out.at j hjl
              obtain ⟨sp, sc, rfl, -, -⟩ := sn.shape
              simp only [Nat.mul_one] at s0
              have f1 := hw.cell s0
              have heb : eb < wr.heap.size := World.block_lt_of_cell? _ _ f1
              have SN := hid (sn.ext hw)
              have hTj := hid (take_flat rowB hjl)
              have hTLj := hid (flat_take_le rowB d.routes (j + 1))
              have h300 : d.routes[j].length ≤ 300 := (HD.out.route _ (List.getElem_mem hjl)).1
              clear s0 sn
              generalize d.routes[j] = r at *
              have i2 : (j : Int) < d.routes.length := by omega
              have hlen : (rowB r).length ≤ 903 := by have := rowB_length h300; omega
              have hsum : pre'.length + (rowB r).length ≤ 40903 := by omega
              go_wp2_with (go_at_call 54; (with_reducible refine (rrow_any _ _ _ (SN.out.ext (by repeat (first | exact Ext.refl _ | assumption | refine Ext.more ?_ _ | refine Ext.drew ?_ | refine Ext.drewN ?_ _ | refine Ext.alloc ?_ _ | refine Ext.setCell ?_ (by simp; try omega) _ | refine Ext.trans ?_ (by assumption)))) (by omega)).yields ?_); intro p1)
              go_roundw
              case rel =>
                refine ⟨(by repeat (first | exact Ext.refl _ | assumption | refine Ext.more ?_ _ | refine Ext.drew ?_ | refine Ext.drewN ?_ _ | refine Ext.alloc ?_ _ | refine Ext.setCell ?_ (by simp; try omega) _ | refine Ext.trans ?_ (by assumption))), j + 1, pre' ++ rowB r, rfl, by go_num, by omega, ?_, ?_⟩
                · have e1 := congrArg List.length (hTj.out)
                  have e2 := congrArg List.length (hT.out)
                  have e3 := congrArg List.length ht'.out
                  have e4 := congrArg List.length ht.out
                  have e5 := hTL.out
                  have e6 := hTLj.out
                  have e7 := HB.out
                  simp only [List.length_append, domBytes] at e1 e2 e3 e4 e7 ⊢
                  omega
                · unfold Hid
                  rw [hTj.out, ht'.out]
                  simp only [List.append_assoc]
              case measure => simp [intOf]; omega
            · obtain rfl : j = d.routes.length := by omega
              have he := ht'.out
              rw [List.take_length] at he
              have HE := hid he
              clear he
              have m0 := more_cell d0
              have m3 := more_cell d3
              have m4 := more_cell d4
              have m5 := more_cell d5
              have m6 := more_cell d6
              have m7 := more_cell d7
              have m8 := more_cell d8
              have m9 := more_cell d9
              have DEx := hid (DEh.out.ext hw)
              have HREL := hid HD.out.release.1
              have hrel4 : (rowB d.release).length ≤ 15 := by have := rowB_length HREL.out; omega
              have k3 := numB_length d.to
              have k4 := numB_length d.threads
              have k5 := numB_length d.groups
              have k6 := numB_length d.ring
              have k7 := numB_length d.sends
              have k8 := numB_length d.box
              go_wp2_with fail
              ((first | refine wp_region_more (by kernel_rfl) (by kernel_rfl) ?_ | refine wp_region_ext (by kernel_rfl) (by kernel_rfl) ?_); (try dsimp only [append_cons', append_nil']); (repeat (go_big_quiet_step ((first | (go_at_call 52; with_reducible refine Calls.more_of (fnum_any _ _)) | (go_at_call 54; with_reducible refine Calls.more_of (rrow_any _ _ _ (DEx.out.ext (ext_more _ _)) (by have := HREL.out; omega))))))); refine wpQuiet_nil ?_; rintro _ ⟨pq, rfl⟩)
              go_wp2_with fail
              go_roundw
              case rel =>
                refine ⟨((hy0.trans hx).trans (ext_more _ _)), k + 1, _, rfl, by go_num, by omega, ?_, ?_⟩
                · have e2 := congrArg List.length (hT.out)
                  have e3 := congrArg List.length HE.out
                  have e4 := congrArg List.length ht.out
                  have e5 := hTL.out
                  have e7 := HB.out
                  simp only [List.length_append, domBytes] at e2 e3 e4 e5 e7 ⊢
                  omega
                · unfold Hid
                  rw [hT.out, HE.out, ht.out]
                  simp only [List.append_assoc, domBytes]
              case measure => simp [intOf]; omega
        · obtain rfl : k = s.conf.doms.length := by omega
          have he := ht.out
          rw [List.take_length] at he
          have HE := hid he
          clear he ht
          have nh := numB_length s.horizon
          have hsum : pre.length + (numB s.horizon).length ≤ 40003 := by omega
          have hbs2 : w.heap.size < wr.heap.size := World.block_lt_of_cell? _ _ q4
          go_wp2_with (go_at_call 52; (with_reducible refine (fnum_any _ _).yields ?_); intro p1)
          clear q0 q1 q2 q3 q4 q5 q6 hbs hbs2
          go_loopw [4, 10] (fun v4 vi wr => Ext W1 wr ∧ ∃ (k : Nat) (pre : List UInt8), v4 = .string (str pre) ∧ vi = .int .i64 k ∧ k ≤ s.streams.length ∧ pre.length ≤ 40000 ∧ Hid (pre = (headBytes s.conf ++ plansBytes s.conf.plans ++ s.conf.doms.flatMap domBytes ++ numB s.horizon) ++ (s.streams.take k).flatMap streamBytes)) (fun _ vi _ => (s.streams.length - intOf vi).toNat)
          case atStart => 
            refine ⟨hx.trans (ext_more _ _), 0, _, rfl, rfl, by omega, ?_, by simp [Hid, HE.out]⟩
            have e1 := congrArg List.length HE.out
            have e7 := HB.out
            simp only [List.length_append] at e1 ⊢
            omega
          case round =>
            clear hx hw
            obtain ⟨hx, k, pre, rfl, rfl, hk, hp, ht⟩ := hrel
            obtain ⟨-, -, -, -, q4, q5, q6⟩ := HBX.out _ hx
            have hw := hx0.trans hx
            have hbs : w.heap.size < wr.heap.size := World.block_lt_of_cell? _ _ q5
            by_cases hlt : k < s.streams.length
            · obtain ⟨rb, ro, rfl, rv, r0, rn⟩ := HC.out.streams.at k hlt
              obtain ⟨rp, rc, rfl, hrr1, hrr2⟩ := rn.shape
              unfold maxLen at hrr2
              simp only [Nat.mul_one] at r0
              have RN := hid rn
              have R0 := hid r0
              have e0 := hw.cell r0
              have hrb : rb < wr.heap.size := World.block_lt_of_cell? _ _ e0
              have hT := hid (take_flat streamBytes hlt)
              have hTL := hid (flat_take_le streamBytes s.streams (k + 1))
              have i1 : (k : Int) < s.streams.length := by omega
              clear r0 rn
              generalize s.streams[k] = row at *
              have n0 := numB_length row.length
              have hsum : pre.length + (numB (row.length : Int)).length ≤ 40003 := by omega
              go_wp2_with (go_at_call 52; (with_reducible refine (fnum_any _ _).yields ?_); intro p1)
              have hE := hid (show pre ++ numB row.length = pre ++ numB row.length from rfl)
              go_loopw [4, 11] (fun v4 vj wr => Ext W1 wr ∧ ∃ (j : Nat) (pre' : List UInt8), v4 = .string (str pre') ∧ vj = .int .i64 j ∧ j ≤ row.length ∧ pre'.length ≤ 40000 ∧ Hid (pre' = pre ++ numB row.length ++ (row.take j).flatMap axnBytes)) (fun _ vj _ => (row.length - intOf vj).toNat)
              case atStart =>
                refine ⟨hx.trans (ext_more _ _), 0, _, rfl, rfl, by omega, ?_, by simp [Hid]⟩
                have e2 := congrArg List.length (hT.out)
                have e4 := congrArg List.length ht.out
                have e5 := hTL.out
                have e7 := HB.out
                simp only [List.length_append, streamBytes] at e2 e4 e5 e7 ⊢
                omega
              case round =>
                clear hx hw hbs q4 q5 q6 e0 hrb
                obtain ⟨hx, j, pre', rfl, rfl, hj, hp', ht'⟩ := hrel
                obtain ⟨-, -, -, -, q4, q5, q6⟩ := HBX.out _ hx
                have hw := hx0.trans hx
                have hbs : w.heap.size < wr.heap.size := World.block_lt_of_cell? _ _ q5
                have e0 := hw.cell R0.out
                have hrb : rb < wr.heap.size := World.block_lt_of_cell? _ _ e0
                by_cases hjl : j < row.length
                · obtain ⟨eb, eo, rfl, s0, s1, s2⟩ := RN.out.at j hjl
                  have f0 := hw.cell s0
                  have f1 := hw.cell s1
                  have f2 := hw.cell s2
                  have heb : eb < wr.heap.size := World.block_lt_of_cell? _ _ f0
                  have hTj := hid (take_flat axnBytes hjl)
                  have hTLj := hid (flat_take_le axnBytes row (j + 1))
                  clear s0 s1 s2
                  generalize row[j] = x at *
                  have i2 : (j : Int) < row.length := by omega
                  have k0 := numB_length x.op
                  have k1 := numB_length x.a
                  have k2 := numB_length x.b
                  go_wp2_with fail
                  have z0 := box_cells (w := wr) (cs := #[.int .i64 x.op, .int .i64 x.a, .int .i64 x.b]) (T := 43) (Ext.refl _) 0 (by simp)
                  have z1 := box_cells (w := wr) (cs := #[.int .i64 x.op, .int .i64 x.a, .int .i64 x.b]) (T := 43) (Ext.refl _) 1 (by simp)
                  have z2 := box_cells (w := wr) (cs := #[.int .i64 x.op, .int .i64 x.a, .int .i64 x.b]) (T := 43) (Ext.refl _) 2 (by simp)
                  have hy : Ext W1 (wr.alloc (.cells #[.int .i64 x.op, .int .i64 x.a, .int .i64 x.b] 43 (0, 0))) := hx.alloc _
                  generalize (wr.alloc (.cells #[.int .i64 x.op, .int .i64 x.a, .int .i64 x.b] 43 (0, 0))) = W3 at *
                  simp only [List.getElem?_toArray, List.getElem?_cons_succ, List.getElem?_cons_zero] at z0 z1 z2
                  have m0 := more_cell z0
                  have m1 := more_cell z1
                  have m2 := more_cell z2
                  ((first | refine wp_region_more (by kernel_rfl) (by kernel_rfl) ?_ | refine wp_region_ext (by kernel_rfl) (by kernel_rfl) ?_); (try dsimp only [append_cons', append_nil']); (repeat (go_big_quiet_step ((go_at_call 52; with_reducible refine Calls.more_of (fnum_any _ _))))); refine wpQuiet_nil ?_; rintro _ ⟨pq, rfl⟩)
                  go_wp2_with fail
                  go_roundw
                  case rel =>
                    refine ⟨hy.trans (ext_more _ _), j + 1, _, rfl, by go_num, by omega, ?_, ?_⟩
                    · have e1 := congrArg List.length (hTj.out)
                      have e2 := congrArg List.length (hT.out)
                      have e3 := congrArg List.length ht'.out
                      have e4 := congrArg List.length ht.out
                      have e5 := hTL.out
                      have e6 := hTLj.out
                      have e7 := HB.out
                      simp only [List.length_append, streamBytes, axnBytes] at e1 e2 e3 e4 e5 e6 e7 ⊢
                      omega
                    · unfold Hid
                      rw [hTj.out, ht'.out]
                      simp only [List.append_assoc, axnBytes]
                  case measure => simp [intOf]; omega
                · obtain rfl : j = row.length := by omega
                  have he := ht'.out
                  rw [List.take_length] at he
                  have HE := hid he
                  clear he
                  go_wp2_with fail
                  go_roundw
                  case rel =>
                    refine ⟨hx, k + 1, pre', rfl, by go_num, by omega, hp', ?_⟩
                    unfold Hid
                    rw [hT.out, HE.out, ht.out]
                    simp only [List.append_assoc, streamBytes]
                  case measure => simp [intOf]; omega
            · obtain rfl : k = s.streams.length := by omega
              have he := ht.out
              rw [List.take_length] at he
              have HE := hid he
              clear he ht
              go_wp2_with fail
              clear q4 q5 q6 hbs
              go_loopw [4, 13] (fun v4 vi wr => Ext W1 wr ∧ ∃ (k : Nat) (pre : List UInt8), v4 = .string (str pre) ∧ vi = .int .i64 k ∧ k ≤ s.arrivals.length ∧ pre.length ≤ 40000 ∧ Hid (pre = ((headBytes s.conf ++ plansBytes s.conf.plans ++ s.conf.doms.flatMap domBytes ++ numB s.horizon) ++ s.streams.flatMap streamBytes) ++ (s.arrivals.take k).flatMap arrBytes)) (fun _ vi _ => (s.arrivals.length - intOf vi).toNat)
              case atStart => 
                refine ⟨hx, 0, pre, rfl, rfl, by omega, hp, by simp [Hid, HE.out]⟩
              case round =>
                clear hx hw
                obtain ⟨hx, k, pre, rfl, rfl, hk, hp, ht⟩ := hrel
                obtain ⟨-, -, -, -, q4, q5, q6⟩ := HBX.out _ hx
                have hw := hx0.trans hx
                have hbs : w.heap.size < wr.heap.size := World.block_lt_of_cell? _ _ q6
                by_cases hlt : k < s.arrivals.length
                · obtain ⟨rb, ro, rfl, rv, r0, rn⟩ := HC.out.arrivals.at k hlt
                  obtain ⟨rp, rc, rfl, hrr1, hrr2⟩ := rn.shape
                  unfold maxLen at hrr2
                  simp only [Nat.mul_one] at r0
                  have RN := hid rn
                  have R0 := hid r0
                  have e0 := hw.cell r0
                  have hrb : rb < wr.heap.size := World.block_lt_of_cell? _ _ e0
                  have hT := hid (take_flat arrBytes hlt)
                  have hTL := hid (flat_take_le arrBytes s.arrivals (k + 1))
                  have i1 : (k : Int) < s.arrivals.length := by omega
                  clear r0 rn
                  generalize s.arrivals[k] = row at *
                  have n0 := numB_length row.length
                  have hsum : pre.length + (numB (row.length : Int)).length ≤ 40003 := by omega
                  go_wp2_with (go_at_call 52; (with_reducible refine (fnum_any _ _).yields ?_); intro p1)
                  have hE := hid (show pre ++ numB row.length = pre ++ numB row.length from rfl)
                  go_loopw [4, 14] (fun v4 vj wr => Ext W1 wr ∧ ∃ (j : Nat) (pre' : List UInt8), v4 = .string (str pre') ∧ vj = .int .i64 j ∧ j ≤ row.length ∧ pre'.length ≤ 40000 ∧ Hid (pre' = pre ++ numB row.length ++ (row.take j).flatMap arvBytes)) (fun _ vj _ => (row.length - intOf vj).toNat)
                  case atStart =>
                    refine ⟨hx.trans (ext_more _ _), 0, _, rfl, rfl, by omega, ?_, by simp [Hid]⟩
                    have e2 := congrArg List.length (hT.out)
                    have e4 := congrArg List.length ht.out
                    have e5 := hTL.out
                    have e7 := HB.out
                    simp only [List.length_append, arrBytes] at e2 e4 e5 e7 ⊢
                    omega
                  case round =>
                    clear hx hw hbs q4 q5 q6 e0 hrb
                    obtain ⟨hx, j, pre', rfl, rfl, hj, hp', ht'⟩ := hrel
                    obtain ⟨-, -, -, -, q4, q5, q6⟩ := HBX.out _ hx
                    have hw := hx0.trans hx
                    have hbs : w.heap.size < wr.heap.size := World.block_lt_of_cell? _ _ q6
                    have e0 := hw.cell R0.out
                    have hrb : rb < wr.heap.size := World.block_lt_of_cell? _ _ e0
                    by_cases hjl : j < row.length
                    · obtain ⟨eb, eo, rfl, s0, s1⟩ := RN.out.at j hjl
                      have f0 := hw.cell s0
                      have f1 := hw.cell s1
                      have heb : eb < wr.heap.size := World.block_lt_of_cell? _ _ f0
                      have hTj := hid (take_flat arvBytes hjl)
                      have hTLj := hid (flat_take_le arvBytes row (j + 1))
                      clear s0 s1
                      generalize row[j] = x at *
                      have i2 : (j : Int) < row.length := by omega
                      have k0 := numB_length x.tick
                      have k1 := numB_length x.obj
                      have m0 := more_cell q6
                      have m1 := more_cell e0
                      have m2 := more_cell f0
                      have m3 := more_cell f1
                      go_wp2_with fail
                      ((first | refine wp_region_more (by kernel_rfl) (by kernel_rfl) ?_ | refine wp_region_ext (by kernel_rfl) (by kernel_rfl) ?_); (try dsimp only [append_cons', append_nil']); (repeat (go_big_quiet_step ((go_at_call 52; with_reducible refine Calls.more_of (fnum_any _ _))))); refine wpQuiet_nil ?_; rintro _ ⟨pq, rfl⟩)
                      go_wp2_with fail
                      go_roundw
                      case rel =>
                        refine ⟨hx.trans (ext_more _ _), j + 1, _, rfl, by go_num, by omega, ?_, ?_⟩
                        · have e1 := congrArg List.length (hTj.out)
                          have e2 := congrArg List.length (hT.out)
                          have e3 := congrArg List.length ht'.out
                          have e4 := congrArg List.length ht.out
                          have e5 := hTL.out
                          have e6 := hTLj.out
                          have e7 := HB.out
                          simp only [List.length_append, arrBytes, arvBytes] at e1 e2 e3 e4 e5 e6 e7 ⊢
                          omega
                        · unfold Hid
                          rw [hTj.out, ht'.out]
                          simp only [List.append_assoc, arvBytes]
                      case measure => simp [intOf]; omega
                    · obtain rfl : j = row.length := by omega
                      have he := ht'.out
                      rw [List.take_length] at he
                      have HE := hid he
                      clear he
                      go_wp2_with fail
                      go_roundw
                      case rel =>
                        refine ⟨hx, k + 1, pre', rfl, by go_num, by omega, hp', ?_⟩
                        unfold Hid
                        rw [hT.out, HE.out, ht.out]
                        simp only [List.append_assoc, arrBytes]
                      case measure => simp [intOf]; omega
                · obtain rfl : k = s.arrivals.length := by omega
                  have he := ht.out
                  rw [List.take_length] at he
                  have HE := hid he
                  clear he ht
                  go_wp2
                  go_returns
                  exact ⟨by rw [HE.out]; simp [allBytes, confBytes, List.append_assoc], hw⟩
theorem rBytes_any (w : World) (s : Scr) (pv dv sv av : Value) (hc : ScrV w s pv dv sv av) (hr : ∀ d ∈ s.conf.doms, ∀ r ∈ d.routes, r.length ≤ 300) (hi : isScr s = 0 → CnfIn s.conf) (hb : isScr s = 0 → (allBytes s).length ≤ 40000) :
    Calls Tryz.prog 20 #[scrV s pv dv sv av] w (Yields w (.string (str (scrBytes s)))) := by
  cases h : isScr s with
  | zero => rw [scrBytes_ok h]; exact rBytes_good w s pv dv sv av hc (hi h) h (hb h)
  | succ n => rw [scrBytes_bad (by omega)]; exact rBytes_bad w s pv dv sv av hc hr h
end Go.Proofs.YtmpgeabfogcblaaGreat
