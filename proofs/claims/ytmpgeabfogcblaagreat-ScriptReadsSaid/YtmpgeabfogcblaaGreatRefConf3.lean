/- The document's own 'routes', as a walk. -/
import Derived.Test.YtmpgeabfogcblaaGreatRefConf2
import Derived.Test.YtmpgeabfogcblaaGreatLabel
import Derived.Test.YtmpgeabfogcblaaGreatPush
namespace Go.Proofs.YtmpgeabfogcblaaGreat
open Go.RowKit

def encLab (x : Int × Int) : List Value := [.int .i64 x.1, .int .u64 x.2]
theorem encLab_len (x : Int × Int) : (encLab x).length = 2 := rfl
theorem Tryz.infoLab : (Tryz.prog.info? 92).map (fun i => (i.zero, i.size, i.bytes)) = some (some (.agg #[.int .i64 0, .int .u64 0]), 2, 16) := by kernel_rfl
theorem labAt_u64 {w : World} {v : Value} {ds : List Dom} (h : DomsV w v ds) (n : Int) : U64 (labAt ds n).2 := by
  obtain ⟨p, c, rfl, _, _⟩ := h.shape
  unfold labAt
  by_cases hn : n.toNat < ds.length
  · obtain ⟨_, _, _, _, _, _, _, _, u1, u2⟩ := h.at n.toNat hn
    rw [List.getElem?_eq_getElem hn]
    exact ⟨u1, u2⟩
  · rw [List.getElem?_eq_none (by omega)]
    exact ⟨by decide, by decide⟩
theorem labels_of_owns {w : World} {base m : Nat} {v : Value} {l : List (Int × Int)} (h : w.ownsRow base 92 2 v m (l.flatMap encLab)) (hu : ∀ x ∈ l, U64 x.2) : m = l.length ∧ Labels w v l :=
  Slc.of_owns (by decide) encLab_len h fun b off x hx hc => ⟨by simpa [encLab] using hc 0 (by decide), by simpa [encLab] using hc 1 (by decide), hu x hx⟩

theorem rleq_to {a b c d : Int} {r : Bool} (e : leqB a b c d = r) (w : World) : Calls Tryz.prog 99 #[.agg #[.int .i64 a, .int .u64 b], .agg #[.int .i64 c, .int .u64 d]] w (Yields w (.bool r)) := e ▸ rleq_any a b c d w
theorem rchain_to {l : List (Int × Int)} {r : Bool} (e : chainB l = r) (w : World) (v : Value) (h : Labels w v l) : Calls Tryz.prog 98 #[v] w (Yields w (.bool r)) := e ▸ rchain_any w v l h

/-- What the early test of routes says. -/
def earlyB (n : Nat) (i : Nat) (d : Dom) : Bool := decide (d.routes.length ≤ 3) && decide (-1 ≤ d.to) && decide (d.to < n) && !(d.to == i) && !(d.to == -1 && !d.release.isEmpty)
theorem domB_early {c : Cnf} {i : Nat} {d : Dom} (h : earlyB c.doms.length i d = false) : domB c i d = false := by
  rw [Bool.eq_false_iff] at *
  intro hd
  apply h
  simp only [domB, giveB, Bool.and_eq_true, decide_eq_true_eq] at hd
  obtain ⟨⟨h1, _⟩, h2⟩ := hd
  split at h2
  · rename_i ht
    simp only [earlyB, Bool.and_eq_true, decide_eq_true_eq, ht, h2]
    refine ⟨⟨⟨⟨h1, by omega⟩, by omega⟩, ?_⟩, rfl⟩
    simp <;> omega
  · rename_i ht
    simp only [Bool.and_eq_true, withB_iff] at h2
    obtain ⟨⟨⟨⟨⟨h3, h4⟩, _⟩, _⟩, _⟩, _⟩ := h2
    simp only [earlyB, Bool.and_eq_true, decide_eq_true_eq]
    refine ⟨⟨⟨⟨h1, by omega⟩, by omega⟩, h4⟩, ?_⟩
    simp [ht]

set_option maxRecDepth 100000 in
set_option maxHeartbeats 4000000 in
theorem routes_early (w : World) (c : Cnf) (pv dv : Value) (hc : ConfV w c pv dv) (i : Nat) (hi : i < c.doms.length) (he : earlyB c.doms.length i c.doms[i] = false) :
    Calls Tryz.prog 86 #[confV c pv dv, .int .i64 i] w (Yields w (.bool (domB c i c.doms[i]))) := by
  rw [domB_early he]
  obtain ⟨pp, cp, rfl, hp1, hp2⟩ := hc.plans.shape
  obtain ⟨pd, cd, rfl, hd1, hd2⟩ := hc.doms.shape
  unfold maxLen at hp2 hd2
  obtain ⟨db, doff, rfl, vr, ve, D, DR, DE, u1, u2⟩ := hc.doms.at i hi
  obtain ⟨rp, rc, rfl, hrc1, hrc2⟩ := DR.shape
  obtain ⟨ep, ec, rfl, hec1, hec2⟩ := DE.shape
  unfold maxLen at hrc2 hec2
  clear hc DR DE
  obtain ⟨d0, d1, d2, d3, d4, d5, d6, d7, d8, d9⟩ := D
  have hdb : db < w.heap.size := World.block_lt_of_cell? w _ d0
  have i1 : (i : Int) < c.doms.length := by omega
  have HE := hid he
  clear he
  generalize hx : c.doms[i] = x at *
  go_enter Tryz.func86, Tryz.ntmps86
  go_wp2
  all_goals first
    | (go_returns; exact ⟨rfl, (by repeat (first | exact Ext.refl _ | assumption | refine Ext.more ?_ _ | refine Ext.drew ?_ | refine Ext.drewN ?_ _ | refine Ext.alloc ?_ _ | refine Ext.setCell ?_ (by simp; try omega) _ | refine Ext.trans ?_ (by assumption)))⟩)
    | (exfalso; have h := HE.out; simp [earlyB] at h; simp_all; try omega)

set_option maxRecDepth 100000 in
set_option maxHeartbeats 8000000 in
theorem routes_late (w : World) (c : Cnf) (pv dv : Value) (hc : ConfV w c pv dv) (i : Nat) (hi : i < c.doms.length) (he : earlyB c.doms.length i c.doms[i] = true) (hr : ∀ r ∈ c.doms[i].routes, r.length ≤ 300) :
    Calls Tryz.prog 86 #[confV c pv dv, .int .i64 i] w (Yields w (.bool (domB c i c.doms[i]))) := by
  obtain ⟨pp, cp, rfl, hp1, hp2⟩ := hc.plans.shape
  obtain ⟨pd, cd, rfl, hd1, hd2⟩ := hc.doms.shape
  unfold maxLen at hp2 hd2
  have HC := hid hc
  have HR := hid hr
  obtain ⟨db, doff, rfl, vr, ve, D, DR, DE, u1, u2⟩ := hc.doms.at i hi
  obtain ⟨rp, rc, rfl, hrc1, hrc2⟩ := DR.shape
  obtain ⟨ep, ec, rfl, hec1, hec2⟩ := DE.shape
  unfold maxLen at hrc2 hec2
  have DRh := hid DR
  have DEh := hid DE
  have HU := hid (labAt_u64 hc.doms)
  clear hc hr DR DE
  obtain ⟨d0, d1, d2, d3, d4, d5, d6, d7, d8, d9⟩ := D
  have hdb : db < w.heap.size := World.block_lt_of_cell? w _ d0
  have i1 : (i : Int) < c.doms.length := by omega
  have HXL : Hid (labAt c.doms i = (c.doms[i].level, c.doms[i].cats)) := by simp [Hid, labAt, List.getElem?_eq_getElem hi, Dom.lab]
  generalize hx : c.doms[i] = x at *
  have HX := hid hx
  clear hx
  simp only [earlyB, Bool.and_eq_true, decide_eq_true_eq] at he
  obtain ⟨⟨⟨⟨e1, e2⟩, e3⟩, e4⟩, e5⟩ := he
  have e1' : (x.routes.length : Int) ≤ 3 := by omega
  have e4' : (x.to == (i : Int)) = false := by simpa using e4
  have g1 : decide ((3 : Int) < (x.routes.length : Int)) = false := by simpa using e1'
  have g2 : decide (x.to < -1) = false := by simpa using e2
  have g3 : decide ((c.doms.length : Int) ≤ x.to) = false := by simpa using e3
  go_enter Tryz.func86, Tryz.ntmps86
  obtain ⟨bt, g4, hbt⟩ : ∃ bt : Bool, (x.to == (-1 : Int)) = bt ∧ Hid ((bt = true → x.to = -1 ∧ x.release = []) ∧ (bt = false → 0 ≤ x.to)) := by
    by_cases h : x.to = -1
    · refine ⟨true, by simp [h], hid ⟨fun _ => ⟨h, ?_⟩, (fun h => by cases h)⟩⟩
      rw [h] at e5
      simpa using e5
    · exact ⟨false, by simpa using h, hid ⟨(fun h => by cases h), fun _ => by omega⟩⟩
  have g5 : bt = true → decide ((0 : Int) < (x.release.length : Int)) = false ∧ decide (0 < x.release.length) = false ∧ (x.release.length : Int) ≤ 0 := fun h => by
    have := (hbt.out.1 h).2
    simp [this]
  have HE5 := hid e5
  clear e5 e4
  cases bt
  all_goals
    first | have HT := hid (hbt.out.1 rfl) | have HT := hid (hbt.out.2 rfl)
    clear hbt
    try simp only [forall_const, Bool.false_eq_true, false_implies] at g5
    try obtain ⟨g5, g6, g7⟩ := g5
    go_wp2_with fail
    have hbx := fun (w' : World) (h : Ext ((w.alloc (.cells #[.int .i64 c.frame, .int .i64 c.epoch, .slice pp c.plans.length cp, .slice (some ⟨db, doff, none⟩) c.doms.length cd] 26 (0, 0))).alloc (.cells #[.int .i64 x.level, .int .u64 x.cats, .slice rp x.routes.length rc, .slice ep x.release.length ec, .int .i64 x.to, .int .i64 x.threads, .int .i64 x.groups, .int .i64 x.ring, .int .i64 x.sends, .int .i64 x.box] 94 (0, 0))) w') =>
      And.intro (box_cells (Ext.trans (Ext.alloc (Ext.refl _) _) h) 0 (by simp)) (And.intro (box_cells (Ext.trans (Ext.alloc (Ext.refl _) _) h) 3 (by simp)) (And.intro (box_cells h 0 (by simp)) (And.intro (box_cells h 1 (by simp)) (And.intro (box_cells h 2 (by simp)) (And.intro (box_cells h 3 (by simp)) (box_cells h 4 (by simp)))))))
    have hx0 : Ext w ((w.alloc (.cells #[.int .i64 c.frame, .int .i64 c.epoch, .slice pp c.plans.length cp, .slice (some ⟨db, doff, none⟩) c.doms.length cd] 26 (0, 0))).alloc (.cells #[.int .i64 x.level, .int .u64 x.cats, .slice rp x.routes.length rc, .slice ep x.release.length ec, .int .i64 x.to, .int .i64 x.threads, .int .i64 x.groups, .int .i64 x.ring, .int .i64 x.sends, .int .i64 x.box] 94 (0, 0))) := Ext.alloc (Ext.alloc (Ext.refl _) _) _
    generalize (w.alloc (.cells #[.int .i64 c.frame, .int .i64 c.epoch, .slice pp c.plans.length cp, .slice (some ⟨db, doff, none⟩) c.doms.length cd] 26 (0, 0))).alloc (.cells #[.int .i64 x.level, .int .u64 x.cats, .slice rp x.routes.length rc, .slice ep x.release.length ec, .int .i64 x.to, .int .i64 x.threads, .int .i64 x.groups, .int .i64 x.ring, .int .i64 x.sends, .int .i64 x.box] 94 (0, 0)) = W1 at *
    simp only [List.getElem?_toArray, List.getElem?_cons_succ, List.getElem?_cons_zero, World.size_alloc] at hbx
    have HBX := hid hbx
    clear hbx
    go_loopw [6] (fun v6 wr => Ext W1 wr ∧ ∃ k : Nat, v6 = .int .i64 k ∧ k ≤ x.routes.length ∧ Hid ((x.routes.take k).all (routeB c.doms x.lab) = true)) (fun v6 _ => (x.routes.length - intOf v6).toNat)
    case atStart => exact ⟨Ext.refl _, 0, rfl, by omega, rfl⟩
    case round =>
      obtain ⟨hx, k, rfl, hk, ht⟩ := hrel
      obtain ⟨b0, b3, q0, q1, q2, q3, q4⟩ := HBX.out _ hx
      by_cases hlt : k < x.routes.length
      · obtain ⟨rb, ro, rfl, rv, r0, rn⟩ := DRh.out.at k hlt
        have hr300 := HR.out _ (List.getElem_mem hlt)
        have hgood := hid (fun (h : routeB c.doms x.lab x.routes[k] = true) => (all_take x.routes (routeB c.doms x.lab) k hlt ht.out).trans h)
        have hbad := hid (all_bad x.routes (routeB c.doms x.lab) k hlt)
        generalize x.routes[k] = row at *
        obtain ⟨np, nc, rfl, hn1, hn2⟩ := rn.shape
        unfold maxLen at hn2
        simp only [Nat.mul_one] at r0
        have RN := hid rn
        clear rn
        have i2 : (k : Int) < x.routes.length := by omega
        have e0 := (hx0.trans hx).cell r0
        have hlw : k < wr.heap.size ∨ True := .inr trivial
        have hrbs : rb < wr.heap.size := World.block_lt_of_cell? _ _ e0
        have hbs : w.heap.size + 1 < wr.heap.size := World.block_lt_of_cell? _ _ q0
        go_wp2_with fail
        have ho1 := owns_one wr W1.heap.size 92 2 (encLab x.lab) hx.size rfl
        have hx1 : Ext W1 (wr.alloc (.cells (encLab x.lab).toArray 92 (0, 0))) := hx.alloc _
        go_loopw [7, 8] (fun v7 v8 wr => Ext W1 wr ∧ ∃ (j : Nat) (p : Option Addr) (cap : Nat), v8 = .int .i64 j ∧ v7 = .slice p (j + 1) cap ∧ j ≤ row.length ∧ Hid ((row.take j).all (fun n => withB n 0 ((c.doms.length : Int) - 1)) = true) ∧ wr.ownsRow W1.heap.size 92 2 (.slice p (j + 1) cap) (j + 1) ((x.lab :: (row.take j).map (labAt c.doms)).flatMap encLab)) (fun _ v8 _ => (row.length - intOf v8).toNat)
        case atStart => exact ⟨hx1, 0, _, _, rfl, rfl, by omega, rfl, by simp only [List.take_zero, List.map_nil, List.flatMap_cons, List.flatMap_nil, List.append_nil]; exact ho1⟩
        case round =>
          obtain ⟨hx, j, lp, lc, rfl, rfl, hj, hall, hown⟩ := hrel
          obtain ⟨b0, b3, q0, q1, q2, q3, q4⟩ := HBX.out _ hx
          have e0 := (hx0.trans hx).cell r0
          by_cases hjl : j < row.length
          · obtain ⟨eb, eo, rfl, s0, _⟩ := RN.out.at j hjl
            simp only [Nat.mul_one] at s0
            have f0 := (hx0.trans hx).cell s0
            have hA := hid (all_take row (fun n => withB n 0 ((c.doms.length : Int) - 1)) j hjl hall.out)
            have hB := hid (all_bad row (fun n => withB n 0 ((c.doms.length : Int) - 1)) j hjl)
            have hT : Hid (row.take (j + 1) = row.take j ++ [row[j]]) := List.take_succ_eq_append_getElem hjl
            generalize row[j] = n at *
            have i3 : (j : Int) < row.length := by omega
            have i4 : (j : Int) ≤ 300 := by omega
            have m2 := more_cell e0
            have m3 := more_cell b3
            have m4 := more_cell f0
            cases hwx : withB n 0 ((c.doms.length : Int) - 1)
            · have HWX := hid hwx
              clear hwx
              go_wp2_with (go_at_call 50; refine (within_to HWX.out _).yields ?_; intro p1)
              go_returns
              refine ⟨?_, (hx0.trans hx).more _⟩
              have h1 := hB.out HWX.out
              have h2 : routeB c.doms x.lab row = false := by simp [routeB, h1]
              simp [domB, hbad.out h2]
            · have hw := withB_iff.1 hwx
              have HWX := hid hwx
              clear hwx
              obtain ⟨q, rfl⟩ := Int.eq_ofNat_of_zero_le hw.1
              have hq : q < c.doms.length := by omega
              obtain ⟨_, _, hpp, _, _, ⟨y0, y1, _⟩, _⟩ := HC.out.doms.at q hq
              cases hpp
              have hlab : Hid (labAt c.doms (q : Int) = (c.doms[q].level, c.doms[q].cats)) := by simp [Hid, labAt, List.getElem?_eq_getElem hq, Dom.lab]
              generalize c.doms[q] = y at *
              have z0 := more_cell ((hx0.trans hx).cell y0)
              have z1 := more_cell ((hx0.trans hx).cell y1)
              have i5 : (q : Int) < c.doms.length := by omega
              go_wp2_with (first | (go_at_call 50; refine (within_to HWX.out _).yields ?_; intro p1) | (at_builtin; refine wpList_push_own rfl (.tmp 90) (.tmp 97) 145 92 (.agg #[.int .i64 0, .int .u64 0]) 2 16 rfl Tryz.underlying145 Tryz.infoLab rfl (by decide) (owns_ext hown (ext_more _ _)) (news := [.int .i64 y.level, .int .u64 y.cats]) rfl (by intro u hu; simp at hu; rcases hu with rfl | rfl <;> rfl) (by unfold maxLen; omega) (by omega) (hx.more _).size rfl rfl (by simp [more_size]) ?_; intro lp' lc' w1 ho1 hb1))
              go_roundw
              case rel => exact ⟨⟨(hx.more _).below.trans hb1⟩, j + 1, lp', lc', by go_num, rfl, by omega, by unfold Hid; rw [hA.out]; exact HWX.out, by rw [hT.out, List.map_append, ← List.cons_append, List.flatMap_append]; simpa [encLab, hlab.out] using ho1⟩
              case measure => simp [intOf]; omega
          · obtain rfl : j = row.length := by omega
            have h1 := hall.out
            rw [List.take_length] at h1 hown
            have H1 := hid h1
            clear h1
            obtain ⟨-, hL⟩ := labels_of_owns hown (fun z hz => by
              rcases List.mem_cons.1 hz with rfl | hz
              · exact ⟨u1, u2⟩
              · obtain ⟨n, _, rfl⟩ := List.mem_map.1 hz
                exact HU.out n)
            have HL := hid hL
            clear hL
            by_cases hz : row.length = 0
            · have HZ := hid hz
              have z1 : ((row.length : Int) + 1 == 1) = true := by simp; omega
              clear hz
              go_wp2
              go_returns
              refine ⟨?_, hx0.trans hx⟩
              have h2 : routeB c.doms x.lab row = false := by
                have : row = [] := List.eq_nil_of_length_eq_zero HZ.out
                simp [routeB, this]
              simp [domB, hbad.out h2]
            · have z1 : ((row.length : Int) + 1 == 1) = false := by simp; omega
              have HZ := hid hz
              clear hz
              cases hch : chainB (x.lab :: row.map (labAt c.doms))
              · have HCH := hid hch
                clear hch
                go_wp2_with (go_at_call 98; refine (rchain_to HCH.out _ _ HL.out).yields ?_; intro p2)
                go_returns
                refine ⟨?_, (hx0.trans hx).more _⟩
                have h2 : routeB c.doms x.lab row = false := by simp [routeB, HCH.out]
                simp [domB, hbad.out h2]
              · have HCH := hid hch
                clear hch
                go_wp2_with (go_at_call 98; refine (rchain_to HCH.out _ _ HL.out).yields ?_; intro p2)
                go_roundw
                case rel => exact ⟨hx.more _, k + 1, by go_num, by omega, hid (hgood.out (by
                  have : row ≠ [] := fun h => HZ.out (by rw [h]; rfl)
                  simp [routeB, HCH.out, H1.out, this]))⟩
                case measure => simp [intOf]; omega
      · obtain rfl : k = x.routes.length := by omega
        have h1 := ht.out
        rw [List.take_length] at h1
        have H1 := hid h1
        clear h1
        first
          | (go_wp2
             go_returns
             refine ⟨?_, hx0.trans hx⟩
             obtain ⟨h1, h2⟩ := HT.out
             simp [domB, giveB, h1, h2, H1.out, e1]; done)
          | skip
        all_goals
          have ht0 : (0 : Int) ≤ x.to := HT.out
          go_wp2_with fail
          go_loopw [10] (fun v10 wr => Ext W1 wr ∧ ∃ k : Nat, v10 = .int .i64 k ∧ k ≤ x.release.length ∧ Hid ((x.release.take k).all (fun n => withB n 0 c.frame) = true)) (fun v10 _ => (x.release.length - intOf v10).toNat)
          case atStart => exact ⟨hx, 0, rfl, by omega, rfl⟩
          case round =>
            obtain ⟨hx, k, rfl, hk, ht⟩ := hrel
            obtain ⟨b0, b3, q0, q1, q2, q3, q4⟩ := HBX.out _ hx
            by_cases hlt : k < x.release.length
            · obtain ⟨eb, eo, rfl, s0, _⟩ := DEh.out.at k hlt
              simp only [Nat.mul_one] at s0
              have f0 := (hx0.trans hx).cell s0
              have hA := hid (all_take x.release (fun n => withB n 0 c.frame) k hlt ht.out)
              have hB := hid (all_bad x.release (fun n => withB n 0 c.frame) k hlt)
              generalize x.release[k] = n at *
              have i3 : (k : Int) < x.release.length := by omega
              have m0 := more_cell b0
              have m2 := more_cell q3
              have m3 := more_cell f0
              cases hwx : withB n 0 c.frame
              · have HWX := hid hwx
                clear hwx
                go_wp2_with fail
                ((first | refine wp_region_more (by kernel_rfl) (by kernel_rfl) ?_ | refine wp_region_ext (by kernel_rfl) (by kernel_rfl) ?_); (try dsimp only [append_cons', append_nil']); (repeat (go_big_quiet_step ((go_at_call 50; refine Calls.more_of (within_to HWX.out _))))); refine wpQuiet_nil ?_; rintro _ ⟨pq, rfl⟩)
                go_wp2
                go_returns
                refine ⟨?_, (hx0.trans hx).trans (ext_more _ _)⟩
                have h1 := hB.out HWX.out
                simp [domB, giveB, h1, show ¬ x.to = -1 by omega]
              · have HWX := hid hwx
                clear hwx
                go_wp2_with fail
                ((first | refine wp_region_more (by kernel_rfl) (by kernel_rfl) ?_ | refine wp_region_ext (by kernel_rfl) (by kernel_rfl) ?_); (try dsimp only [append_cons', append_nil']); (repeat (go_big_quiet_step ((go_at_call 50; refine Calls.more_of (within_to HWX.out _))))); refine wpQuiet_nil ?_; rintro _ ⟨pq, rfl⟩)
                go_wp2
                go_roundw
                case rel => exact ⟨hx.trans (ext_more _ _), k + 1, by go_num, by omega, by unfold Hid; rw [hA.out]; exact HWX.out⟩
                case measure => simp [intOf]; omega
            · obtain rfl : k = x.release.length := by omega
              have h2 := ht.out
              rw [List.take_length] at h2
              have H2 := hid h2
              clear h2
              obtain ⟨_, _, hpp, _, _, ⟨y0, y1, _⟩, _⟩ := HC.out.doms.at x.to.toNat (by omega)
              cases hpp
              have hlab : Hid (labAt c.doms x.to = (c.doms[x.to.toNat].level, c.doms[x.to.toNat].cats)) := by
                have : x.to.toNat < c.doms.length := by omega
                simp [Hid, labAt, List.getElem?_eq_getElem this, Dom.lab]
              generalize c.doms[x.to.toNat] = y at *
              have z0 := (hx0.trans hx).cell y0
              have z1 := (hx0.trans hx).cell y1
              have hzb : db < wr.heap.size := World.block_lt_of_cell? _ _ z0
              have hqb : w.heap.size + 1 < wr.heap.size := World.block_lt_of_cell? _ _ q0
              have hqc : w.heap.size < wr.heap.size := by omega
              have hne : Hid (¬ x.to = -1) := by unfold Hid; omega
              cases hw1 : withB x.release.length 1 4 <;> cases hl1 : leqB y.level y.cats x.level x.cats <;> cases hq1 : eqB y.level y.cats x.level x.cats
              all_goals
                have HW1 := hid hw1
                have HL1 := hid hl1
                clear hw1 hl1
                go_wp2_with (first
                  | (go_at_call 50; refine (within_to HW1.out _).yields ?_; intro p1)
                  | (go_at_call 99; refine (rleq_to HL1.out _).yields ?_; intro p2))
                go_returns
                refine ⟨?_, (by repeat (first | exact Ext.refl _ | assumption | refine Ext.more ?_ _ | refine Ext.drew ?_ | refine Ext.drewN ?_ _ | refine Ext.alloc ?_ _ | refine Ext.setCell ?_ (by simp; try omega) _ | refine Ext.trans ?_ (by assumption)))⟩
                have h0 : withB x.to 0 ((c.doms.length : Int) - 1) = true := withB_iff.2 ⟨ht0, by omega⟩
                simp [domB, giveB, hne.out, H1.out, H2.out, e1, HW1.out, hlab.out, HL1.out, hq1, h0, e4']

theorem routes_any (w : World) (c : Cnf) (pv dv : Value) (hc : ConfV w c pv dv) (i : Nat) (hi : i < c.doms.length) (hr : ∀ r ∈ c.doms[i].routes, r.length ≤ 300) :
    Calls Tryz.prog 86 #[confV c pv dv, .int .i64 i] w (Yields w (.bool (domB c i c.doms[i]))) := by
  cases he : earlyB c.doms.length i c.doms[i]
  · exact routes_early w c pv dv hc i hi he
  · exact routes_late w c pv dv hc i hi he hr
end Go.Proofs.YtmpgeabfogcblaaGreat
