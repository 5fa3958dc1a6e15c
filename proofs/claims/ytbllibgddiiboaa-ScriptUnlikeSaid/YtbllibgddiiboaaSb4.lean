/- What script.Bytes comes to. -/
import Derived.Test.YtbllibgddiiboaaSb3
namespace Go.Proofs.Ytbllibgddiiboaa
open Go.RowKit

theorem allBytes_eq (s : Scr) : allBytes s = ((confBytes s.conf ++ numB s.horizon) ++ s.streams.flatMap streamBytes) ++ s.arrivals.flatMap arrBytes := rfl
theorem axnBytes_eq (x : Axn) : axnBytes x = [x.op, x.a, x.b].flatMap numB := by simp [axnBytes]
theorem arvBytes_eq (x : Arv) : arvBytes x = [x.tick, x.obj].flatMap numB := by simp [arvBytes]
theorem streamBytes_eq (l : List Axn) : streamBytes l = numB l.length ++ l.flatMap axnBytes := rfl
theorem arrBytes_eq (l : List Arv) : arrBytes l = numB l.length ++ l.flatMap arvBytes := rfl

set_option maxRecDepth 100000 in
set_option maxHeartbeats 2000000 in
theorem scrBytes_no (w : World) (s : Scr) (pv dv sv av : Value) (hc : ScrV w s pv dv sv av) (hn : isScr s ≠ 0) :
    Calls Try.prog 9 #[scrV s pv dv sv av] w (Yields w (.string (str []))) := by
  have hI := scrIs_any w s pv dv sv av hc
  rw [errV_pos hn] at hI
  have HC := hid hc
  have HN := hid (errV_pos hn)
  clear hc hn hI
  have hne := fun v w => run_neq_iface_nil (P := Try.prog) w 34 v Try.underlying33
  go_enter Try.func9, Try.ntmps9
  go_wp2_with (go_at_call 7; refine (scrIs_any _ s _ _ _ _ (HC.out.ext (by repeat (first | exact Ext.refl _ | assumption | refine Ext.more ?_ _ | refine Ext.drew ?_ | refine Ext.drewN ?_ _ | refine Ext.alloc ?_ _ | refine Ext.setCell ?_ (by simp; try omega) _ | refine Ext.trans ?_ (by assumption))))).yields ?_; rw [HN.out]; intro p1)
  go_returns
  exact ⟨by simp [str_nil], (by repeat (first | exact Ext.refl _ | assumption | refine Ext.more ?_ _ | refine Ext.drew ?_ | refine Ext.drewN ?_ _ | refine Ext.alloc ?_ _ | refine Ext.setCell ?_ (by simp; try omega) _ | refine Ext.trans ?_ (by assumption)))⟩

set_option maxRecDepth 100000 in
set_option maxHeartbeats 8000000 in
theorem scrBytes_yes (w : World) (s : Scr) (pv dv sv av : Value) (hc : ScrV w s pv dv sv av) (hn : isScr s = 0) (hi : CnfIn s.conf) (hl : (allBytes s).length ≤ 80000) :
    Calls Try.prog 9 #[scrV s pv dv sv av] w (Yields w (.string (str (allBytes s)))) := by
  obtain ⟨pp, cp, rfl, -, -⟩ := hc.conf.plans.shape
  obtain ⟨pd, cd, rfl, -, -⟩ := hc.conf.doms.shape
  obtain ⟨ps, cs, rfl, hs1, hs2⟩ := hc.streams.shape
  obtain ⟨pa, ca, rfl, ha1, ha2⟩ := hc.arrivals.shape
  unfold maxLen at hs2 ha2
  have hI := scrIs_any w s _ _ _ _ hc
  rw [hn, errV_0] at hI
  have hp := isScr_parts hn
  have HSL : Hid ((∀ l ∈ s.streams, l.length ≤ 400) ∧ ∀ l ∈ s.arrivals, l.length ≤ 100) := ⟨fun l hl => by
    have := hp.2.2.2.2.1 l hl
    simp only [streamB, Bool.and_eq_true, decide_eq_true_eq] at this
    exact this.2, hp.2.2.2.2.2.1⟩
  rw [allBytes_eq] at hl ⊢
  obtain ⟨P1, p1⟩ : ∃ P, P = confBytes s.conf := ⟨_, rfl⟩
  obtain ⟨P2, p2⟩ : ∃ P, P = numB s.horizon := ⟨_, rfl⟩
  obtain ⟨P3, p3⟩ : ∃ P, P = s.streams.flatMap streamBytes := ⟨_, rfl⟩
  obtain ⟨P4, p4⟩ : ∃ P, P = s.arrivals.flatMap arrBytes := ⟨_, rfl⟩
  rw [← p1, ← p2, ← p3, ← p4] at hl ⊢
  simp only [List.length_append] at hl
  have HP := hid (And.intro p1 (And.intro p2 (And.intro p3 p4)))
  have HL := hid hl
  have HC := hid hc
  have HI := hid hi
  have HN := hid (show errV (isScr s) = .nilIface by rw [hn, errV_0])
  clear p1 p2 p3 p4 hl hc hi hn hI hp
  have hnn := fun w => run_neq_nil_nil' (P := Try.prog) w Try.underlying33
  go_enter Try.func9, Try.ntmps9
  go_wp2_with (go_at_call 7; refine (scrIs_any _ s _ _ _ _ (HC.out.ext (by repeat (first | exact Ext.refl _ | assumption | refine Ext.more ?_ _ | refine Ext.drew ?_ | refine Ext.drewN ?_ _ | refine Ext.alloc ?_ _ | refine Ext.setCell ?_ (by simp; try omega) _ | refine Ext.trans ?_ (by assumption))))).yields ?_; rw [HN.out]; intro p1)
  have hxW : Ext w (more (w.alloc (.cells #[.int .i64 s.conf.frame, .int .i64 s.conf.epoch, .slice pp s.conf.plans.length cp, .slice pd s.conf.doms.length cd, .int .i64 s.horizon, .slice ps s.streams.length cs, .slice pa s.arrivals.length ca] 30 (0, 0))) p1) := (by repeat (first | exact Ext.refl _ | assumption | refine Ext.more ?_ _ | refine Ext.drew ?_ | refine Ext.drewN ?_ _ | refine Ext.alloc ?_ _ | refine Ext.setCell ?_ (by simp; try omega) _ | refine Ext.trans ?_ (by assumption)))
  have hbW : (more (w.alloc (.cells #[.int .i64 s.conf.frame, .int .i64 s.conf.epoch, .slice pp s.conf.plans.length cp, .slice pd s.conf.doms.length cd, .int .i64 s.horizon, .slice ps s.streams.length cs, .slice pa s.arrivals.length ca] 30 (0, 0))) p1).heap[w.heap.size]? = some (.cells #[.int .i64 s.conf.frame, .int .i64 s.conf.epoch, .slice pp s.conf.plans.length cp, .slice pd s.conf.doms.length cd, .int .i64 s.horizon, .slice ps s.streams.length cs, .slice pa s.arrivals.length ca] 30 (0, 0)) := block_ext (ext_more _ _) (heap_alloc_new w _)
  refine calls_forget (fun v => Ext w v ∧ v.heap[w.heap.size]? = some (.cells #[.int .i64 s.conf.frame, .int .i64 s.conf.epoch, .slice pp s.conf.plans.length cp, .slice pd s.conf.doms.length cd, .int .i64 s.horizon, .slice ps s.streams.length cs, .slice pa s.arrivals.length ca] 30 (0, 0))) ⟨hxW, hbW⟩ ?_
  clear hxW hbW
  clear p1
  rintro W ⟨hxW, hbW⟩
  have HXW := hid hxW
  have HCW := hid (HC.out.ext hxW)
  refine (new_any W).mono ?_
  rintro e w0 ⟨rfl, rfl⟩
  have H0 : Hid (Wrs W.heap.size W.heap.size w.heap.size (.cells #[.int .i64 s.conf.frame, .int .i64 s.conf.epoch, .slice pp s.conf.plans.length cp, .slice pd s.conf.doms.length cd, .int .i64 s.horizon, .slice ps s.streams.length cs, .slice pa s.arrivals.length ca] 30 (0, 0)) [] W (W.alloc (.cells #[.slice none 0 0] 98 (0, 0)))) :=
    ⟨Wr.new W, Ext.alloc (Ext.refl _) _, (Ext.alloc (Ext.refl W) _).below, block_ext (Ext.alloc (Ext.refl _) _) hbW⟩
  clear hbW hxW HC
  generalize W.alloc (.cells #[.slice none 0 0] 98 (0, 0)) = w0 at *
  obtain ⟨base, hbase⟩ : ∃ n, n = W.heap.size := ⟨_, rfl⟩
  have HW : Hid (W.heap.size = base) := hbase.symm
  rw [← hbase] at H0 ⊢
  clear hbase
  obtain ⟨bx, hbx⟩ : ∃ bx : Array Value, bx = #[.int .i64 s.conf.frame, .int .i64 s.conf.epoch, .slice pp s.conf.plans.length cp, .slice pd s.conf.doms.length cd, .int .i64 s.horizon, .slice ps s.streams.length cs, .slice pa s.arrivals.length ca] := ⟨_, rfl⟩
  rw [← hbx] at H0
  have HBX := hid hbx
  have hbox := H0.out.box
  rw [hbx] at hbox
  clear hbx
  have k0 := blk_cell hbox 0
  have k1 := blk_cell hbox 1
  have k2 := blk_cell hbox 2
  have k3 := blk_cell hbox 3
  simp only [List.getElem?_toArray, List.getElem?_cons_zero, List.getElem?_cons_succ] at k0 k1 k2 k3
  clear hbox
  go_wp2_with fail
  refine (putConf_any base base [] s.conf _ _ W _ HW.out H0.out.ext HCW.out.conf HI.out H0.out.wr (by rw [← HP.out.1]; simp only [List.length_nil]; have := HL.out; omega)).mono ?_
  rintro e w1 ⟨rfl, hb, hw, hk⟩
  rw [List.nil_append, ← HP.out.1] at hw
  have H1 := hid (H0.out.step HW.out hb hw hk (by decide) (by decide))
  clear hb hw hk k0 k1 k2 k3 H0
  have k4 := blk_cell H1.out.box 4
  rw [HBX.out] at k4
  simp only [List.getElem?_toArray, List.getElem?_cons_zero, List.getElem?_cons_succ] at k4
  go_wp2_with fail
  refine (wnum_w s.horizon H1.out.wr (by have := HL.out; omega)).mono ?_
  rintro e w2 ⟨rfl, hb, hw, hk⟩
  rw [← HP.out.2.1] at hw
  have H2 := hid (H1.out.step HW.out hb hw hk (by decide) (by decide))
  clear hb hw hk k4 H1
  have k5 := blk_cell H2.out.box 5
  rw [HBX.out] at k5
  simp only [List.getElem?_toArray, List.getElem?_cons_zero, List.getElem?_cons_succ] at k5
  go_wp2_with fail
  clear k5
  go_loopw [27] (fun vo wr => ∃ k : Nat, vo = .int .i64 k ∧ k ≤ s.streams.length ∧ Hid (Wrs base base w.heap.size (.cells bx 30 (0, 0)) (P1 ++ P2 ++ (s.streams.take k).flatMap streamBytes) W wr)) (fun vo _ => (s.streams.length - intOf vo).toNat)
  case atStart => exact ⟨0, rfl, by omega, by unfold Hid; simpa using H2.out⟩
  case round =>
    obtain ⟨k, rfl, hk, ht⟩ := hrel
    by_cases hlt : k < s.streams.length
    · obtain ⟨rb, ro, rfl, rv, r0, rn⟩ := HCW.out.streams.at k hlt
      obtain ⟨rp, rc, rfl, hrr1, hrr2⟩ := rn.shape
      unfold maxLen at hrr2
      simp only [Nat.mul_one] at r0
      have RN := hid rn
      have e0 := ht.out.ext.cell r0
      have hrb : rb < wr.heap.size := World.block_lt_of_cell? _ _ e0
      have hT : Hid ((s.streams.take (k + 1)).flatMap streamBytes = (s.streams.take k).flatMap streamBytes ++ streamBytes s.streams[k]) := by
        unfold Hid
        rw [List.take_succ_eq_append_getElem hlt, List.flatMap_append, List.flatMap_singleton]
      have hTL := hid (flat_take_len streamBytes s.streams (k + 1))
      have hRl : Hid (s.streams[k].length ≤ 400) := HSL.out.1 _ (List.getElem_mem hlt)
      have i1 : (k : Int) < s.streams.length := by omega
      clear r0 rn
      generalize s.streams[k] = row at *
      have HB2 : Hid ((P1 ++ P2 ++ (s.streams.take k).flatMap streamBytes).length + (numB (row.length : Int)).length + (row.flatMap axnBytes).length ≤ 80000) := by
        unfold Hid
        simp only [List.length_append]
        have h1 := hTL.out
        rw [hT.out, ← HP.out.2.2.1, List.length_append, streamBytes_eq, List.length_append] at h1
        have := HL.out
        omega
      go_wp2_with fail
      refine (wnum_w row.length ht.out.wr (by have := HB2.out; omega)).mono ?_
      rintro e w4 ⟨rfl, hb, hw, hkk⟩
      have H4 := hid (ht.out.step HW.out hb hw hkk (by decide) (by decide))
      clear hb hw hkk
      go_wp2_with fail
      go_loopw [37] (fun vi wr => ∃ j : Nat, vi = .int .i64 j ∧ j ≤ row.length ∧ Hid (Wrs base base w.heap.size (.cells bx 30 (0, 0)) (P1 ++ P2 ++ (s.streams.take k).flatMap streamBytes ++ numB row.length ++ (row.take j).flatMap axnBytes) W wr)) (fun vi _ => (row.length - intOf vi).toNat)
      case atStart => exact ⟨0, rfl, by omega, by unfold Hid; simpa using H4.out⟩
      case round =>
        clear H4 e0 hrb
        obtain ⟨j, rfl, hj, ht'⟩ := hrel
        by_cases hjl : j < row.length
        · obtain ⟨eb, eo, rfl, s0, s1, s2⟩ := RN.out.at j hjl
          have f0 := ht'.out.ext.cell s0
          have f1 := ht'.out.ext.cell s1
          have f2 := ht'.out.ext.cell s2
          have heb : eb < wr.heap.size := World.block_lt_of_cell? _ _ f0
          have hTj : Hid ((row.take (j + 1)).flatMap axnBytes = (row.take j).flatMap axnBytes ++ axnBytes row[j]) := by
            unfold Hid
            rw [List.take_succ_eq_append_getElem hjl, List.flatMap_append, List.flatMap_singleton]
          have hTLj := hid (flat_take_len axnBytes row j)
          have i2 : (j : Int) < row.length := by omega
          clear s0 s1 s2
          generalize row[j] = x at *
          have HB3 : Hid ((P1 ++ P2 ++ (s.streams.take k).flatMap streamBytes ++ numB row.length ++ (row.take j).flatMap axnBytes).length ≤ 80000) := by
            unfold Hid
            rw [List.length_append, List.length_append]
            have h1 := hTLj.out
            have := HB2.out
            omega
          have X5 := hid ((ht'.out.more HW.out (Ext.alloc (Ext.refl wr) (.cells #[.int .i64 x.op, .int .i64 x.a, .int .i64 x.b] 38 (0, 0)))).more HW.out (Ext.alloc (Ext.refl _) (.cells #[.int .i64 x.op, .int .i64 x.a, .int .i64 x.b] 3 (0, 0))))
          go_wp2_with fail
          refine (put_new (l := [x.op, x.a, x.b]) (by have := heap_alloc_new (wr.alloc (.cells #[.int .i64 x.op, .int .i64 x.a, .int .i64 x.b] 38 (0, 0))) (.cells #[.int .i64 x.op, .int .i64 x.a, .int .i64 x.b] 3 (0, 0)); rw [World.size_alloc] at this; exact this) rfl X5.out.wr (by have := HB3.out; simp only [List.length_cons, List.length_nil]; omega)).mono ?_
          rintro e w5 ⟨rfl, hb, hw, hkk⟩
          have H5 := hid (X5.out.step HW.out hb hw hkk (by decide) (by decide))
          clear hb hw hkk X5 f0 f1 f2
          go_wp2_with fail
          go_roundw
          case rel => exact ⟨j + 1, by go_num, by omega, by unfold Hid; rw [hTj.out, axnBytes_eq]; have := H5.out; simp only [List.append_assoc] at this ⊢; exact this⟩
          case measure => simp [intOf]; omega
        · obtain rfl : j = row.length := by omega
          have hf := ht'.out
          rw [List.take_length] at hf
          have H6 := hid hf
          clear hf ht'
          go_wp2_with fail
          go_roundw
          case rel => exact ⟨k + 1, by go_num, by omega, by unfold Hid; rw [hT.out, streamBytes_eq]; have := H6.out; simp only [List.append_assoc] at this ⊢; exact this⟩
          case measure => simp [intOf]; omega
    · obtain rfl : k = s.streams.length := by omega
      have hf := ht.out
      rw [List.take_length, ← HP.out.2.2.1] at hf
      have H3 := hid hf
      clear hf ht
      have k6 := blk_cell H3.out.box 6
      rw [HBX.out] at k6
      simp only [List.getElem?_toArray, List.getElem?_cons_zero, List.getElem?_cons_succ] at k6
      go_wp2_with fail
      clear k6 hlt hk
      go_loopw [55] (fun vo wr => ∃ k : Nat, vo = .int .i64 k ∧ k ≤ s.arrivals.length ∧ Hid (Wrs base base w.heap.size (.cells bx 30 (0, 0)) (P1 ++ P2 ++ P3 ++ (s.arrivals.take k).flatMap arrBytes) W wr)) (fun vo _ => (s.arrivals.length - intOf vo).toNat)
      case atStart => exact ⟨0, rfl, by omega, by unfold Hid; simpa using H3.out⟩
      case round =>
        clear H3
        obtain ⟨k, rfl, hk, ht⟩ := hrel
        by_cases hlt : k < s.arrivals.length
        · obtain ⟨rb, ro, rfl, rv, r0, rn⟩ := HCW.out.arrivals.at k hlt
          obtain ⟨rp, rc, rfl, hrr1, hrr2⟩ := rn.shape
          unfold maxLen at hrr2
          simp only [Nat.mul_one] at r0
          have RN := hid rn
          have e0 := ht.out.ext.cell r0
          have hrb : rb < wr.heap.size := World.block_lt_of_cell? _ _ e0
          have hT : Hid ((s.arrivals.take (k + 1)).flatMap arrBytes = (s.arrivals.take k).flatMap arrBytes ++ arrBytes s.arrivals[k]) := by
            unfold Hid
            rw [List.take_succ_eq_append_getElem hlt, List.flatMap_append, List.flatMap_singleton]
          have hTL := hid (flat_take_len arrBytes s.arrivals (k + 1))
          have hRl : Hid (s.arrivals[k].length ≤ 100) := HSL.out.2 _ (List.getElem_mem hlt)
          have i1 : (k : Int) < s.arrivals.length := by omega
          clear r0 rn
          generalize s.arrivals[k] = row at *
          have HB2 : Hid ((P1 ++ P2 ++ P3 ++ (s.arrivals.take k).flatMap arrBytes).length + (numB (row.length : Int)).length + (row.flatMap arvBytes).length ≤ 80000) := by
            unfold Hid
            simp only [List.length_append]
            have h1 := hTL.out
            rw [hT.out, ← HP.out.2.2.2, List.length_append, arrBytes_eq, List.length_append] at h1
            have := HL.out
            omega
          go_wp2_with fail
          refine (wnum_w row.length ht.out.wr (by have := HB2.out; omega)).mono ?_
          rintro e w4 ⟨rfl, hb, hw, hkk⟩
          have H4 := hid (ht.out.step HW.out hb hw hkk (by decide) (by decide))
          clear hb hw hkk
          go_wp2_with fail
          go_loopw [65] (fun vi wr => ∃ j : Nat, vi = .int .i64 j ∧ j ≤ row.length ∧ Hid (Wrs base base w.heap.size (.cells bx 30 (0, 0)) (P1 ++ P2 ++ P3 ++ (s.arrivals.take k).flatMap arrBytes ++ numB row.length ++ (row.take j).flatMap arvBytes) W wr)) (fun vi _ => (row.length - intOf vi).toNat)
          case atStart => exact ⟨0, rfl, by omega, by unfold Hid; simpa using H4.out⟩
          case round =>
            clear H4 e0 hrb
            obtain ⟨j, rfl, hj, ht'⟩ := hrel
            by_cases hjl : j < row.length
            · obtain ⟨eb, eo, rfl, s0, s1⟩ := RN.out.at j hjl
              have f0 := ht'.out.ext.cell s0
              have f1 := ht'.out.ext.cell s1
              have heb : eb < wr.heap.size := World.block_lt_of_cell? _ _ f0
              have hTj : Hid ((row.take (j + 1)).flatMap arvBytes = (row.take j).flatMap arvBytes ++ arvBytes row[j]) := by
                unfold Hid
                rw [List.take_succ_eq_append_getElem hjl, List.flatMap_append, List.flatMap_singleton]
              have hTLj := hid (flat_take_len arvBytes row j)
              have i2 : (j : Int) < row.length := by omega
              clear s0 s1
              generalize row[j] = x at *
              have HB3 : Hid ((P1 ++ P2 ++ P3 ++ (s.arrivals.take k).flatMap arrBytes ++ numB row.length ++ (row.take j).flatMap arvBytes).length ≤ 80000) := by
                unfold Hid
                rw [List.length_append, List.length_append]
                have h1 := hTLj.out
                have := HB2.out
                omega
              have X5 := hid ((ht'.out.more HW.out (Ext.alloc (Ext.refl wr) (.cells #[.int .i64 x.tick, .int .i64 x.obj] 40 (0, 0)))).more HW.out (Ext.alloc (Ext.refl _) (.cells #[.int .i64 x.tick, .int .i64 x.obj] 3 (0, 0))))
              go_wp2_with fail
              refine (put_new (l := [x.tick, x.obj]) (by have := heap_alloc_new (wr.alloc (.cells #[.int .i64 x.tick, .int .i64 x.obj] 40 (0, 0))) (.cells #[.int .i64 x.tick, .int .i64 x.obj] 3 (0, 0)); rw [World.size_alloc] at this; exact this) rfl X5.out.wr (by have := HB3.out; simp only [List.length_cons, List.length_nil]; omega)).mono ?_
              rintro e w5 ⟨rfl, hb, hw, hkk⟩
              have H5 := hid (X5.out.step HW.out hb hw hkk (by decide) (by decide))
              clear hb hw hkk X5 f0 f1
              go_wp2_with fail
              go_roundw
              case rel => exact ⟨j + 1, by go_num, by omega, by unfold Hid; rw [hTj.out, arvBytes_eq]; have := H5.out; simp only [List.append_assoc] at this ⊢; exact this⟩
              case measure => simp [intOf]; omega
            · obtain rfl : j = row.length := by omega
              have hf := ht'.out
              rw [List.take_length] at hf
              have H6 := hid hf
              clear hf ht'
              go_wp2_with fail
              go_roundw
              case rel => exact ⟨k + 1, by go_num, by omega, by unfold Hid; rw [hT.out, arrBytes_eq]; have := H6.out; simp only [List.append_assoc] at this ⊢; exact this⟩
              case measure => simp [intOf]; omega
        · obtain rfl : k = s.arrivals.length := by omega
          have hf := ht.out
          rw [List.take_length, ← HP.out.2.2.2] at hf
          have H3 := hid hf
          clear hf ht
          go_wp2_with fail
          refine (wstr_any _ _ _ _ H3.out.wr).mono ?_
          rintro e w9 ⟨rfl, rfl⟩
          go_wp2_with fail
          go_returns
          exact ⟨by simp only [List.append_assoc]; rfl, HXW.out.trans H3.out.ext⟩

end Go.Proofs.Ytbllibgddiiboaa
