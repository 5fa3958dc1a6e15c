/- The document's own 'shares', as a walk. -/
import Derived.Test.YtmpgeabfogcblaaGreatRefConf
namespace Go.Proofs.YtmpgeabfogcblaaGreat
open Go.RowKit

theorem all_take {α : Type} (l : List α) (f : α → Bool) (k : Nat) (h : k < l.length) (ht : (l.take k).all f = true) : (l.take (k + 1)).all f = f l[k] := by
  rw [List.take_succ_eq_append_getElem h, List.all_append, ht]; simp
theorem all_bad {α : Type} (l : List α) (f : α → Bool) (k : Nat) (h : k < l.length) (hf : f l[k] = false) : l.all f = false := by
  rw [List.all_eq_false]
  exact ⟨l[k], List.getElem_mem h, by simp [hf]⟩
theorem any_take {α : Type} (l : List α) (f : α → Bool) (k : Nat) (h : k < l.length) : (l.take (k + 1)).any f = ((l.take k).any f || f l[k]) := by
  rw [List.take_succ_eq_append_getElem h, List.any_append]; simp
theorem within_to {n a b : Int} {r : Bool} (e : withB n a b = r) (w : World) : Calls Tryz.prog 50 #[.int .i64 n, .int .i64 a, .int .i64 b] w (Yields w (.bool r)) := e ▸ within_any n a b w

/-- What is known of a struct's box. -/
theorem blk_cell' {w : World} {b : Nat} {cs : Array Value} {T : TypeId} (h : w.heap[b]? = some (.cells cs T (0, 0))) {j : Nat} : w.cell? ⟨b, j, none⟩ = cs[j]? := by simp [World.cell?, h]
theorem box_cells {w w' : World} {cs : Array Value} {T : TypeId} (h : Ext (w.alloc (.cells cs T (0, 0))) w') (j : Nat) (hj : j < cs.size) : w'.cell? ⟨w.heap.size, j, none⟩ = cs[j]? := by
  obtain ⟨v, hv⟩ : ∃ v, cs[j]? = some v := ⟨_, Array.getElem?_eq_getElem hj⟩
  rw [hv]
  exact h.cell (by rw [blk_cell' (heap_alloc_new w _)]; exact hv)
set_option maxRecDepth 100000 in
set_option maxHeartbeats 2000000 in
theorem shares_any (w : World) (c : Cnf) (pv dv : Value) (hc : ConfV w c pv dv) :
    Calls Tryz.prog 85 #[confV c pv dv] w (Yields w (.bool (sharesB c))) := by
  obtain ⟨pp, cp, rfl, hp1, hp2⟩ := hc.plans.shape
  obtain ⟨pd, cd, rfl, hd1, hd2⟩ := hc.doms.shape
  unfold maxLen at hp2 hd2
  have HC := hid hc
  clear hc
  obtain ⟨fr, ep, plans, doms⟩ := c
  simp only at HC hp1 hp2 hd1 hd2
  go_enter Tryz.func85, Tryz.ntmps85
  by_cases hlen : withB plans.length 1 3 = true
  · have hw := withB_iff.1 hlen
    go_wp2_with (go_at_call 50; refine (within_to hlen _).yields ?_; intro p0)
    have hbx := fun (w' : World) (h : Ext (w.alloc (.cells #[.int .i64 fr, .int .i64 ep, .slice pp plans.length cp, .slice pd doms.length cd] 26 (0, 0))) w') => And.intro (box_cells h 2 (by simp)) (box_cells h 3 (by simp))
    have hx0 : Ext w (w.alloc (.cells #[.int .i64 fr, .int .i64 ep, .slice pp plans.length cp, .slice pd doms.length cd] 26 (0, 0))) := Ext.alloc (Ext.refl _) _
    generalize w.alloc (.cells #[.int .i64 fr, .int .i64 ep, .slice pp plans.length cp, .slice pd doms.length cd] 26 (0, 0)) = W1 at *
    simp only [List.getElem?_toArray, List.getElem?_cons_succ, List.getElem?_cons_zero] at hbx
    have HBX := hid hbx
    clear hbx
    have hx1 := ext_more W1 p0
    generalize more W1 p0 = W2 at *
    have HLEN := hid hlen
    clear hlen
    go_loopw [3] (fun v3 wr => Ext W1 wr ∧ ∃ k : Nat, v3 = .int .i64 k ∧ k ≤ plans.length ∧ Hid ((plans.take k).all (planB doms.length) = true)) (fun v3 _ => (plans.length - intOf v3).toNat)
    case atStart => exact ⟨hx1, 0, rfl, by omega, rfl⟩
    case round =>
      obtain ⟨hx, k, rfl, hk, ht⟩ := hrel
      obtain ⟨a2, a3⟩ := HBX.out _ hx
      by_cases hlt : k < plans.length
      · obtain ⟨pb, po, rfl, rv, r0, rn⟩ := HC.out.plans.at k hlt
        have hgood := hid (fun (h : planB doms.length plans[k] = true) => (all_take plans (planB doms.length) k hlt ht.out).trans h)
        have hbad := hid (all_bad plans (planB doms.length) k hlt)
        generalize plans[k] = row at *
        obtain ⟨rp, rc, rfl, hr1, hr2⟩ := rn.shape
        unfold maxLen at hr2
        simp only [Nat.mul_one] at r0
        have RN := hid rn
        clear rn
        have i1 : (k : Int) < plans.length := by omega
        have e0 := (hx0.trans hx).cell r0
        go_wp2_with fail
        go_loopw [4, 5] (fun v4 v5 wr => Ext W1 wr ∧ ∃ (j : Nat) (sb : Bool), v5 = .int .i64 j ∧ v4 = .bool sb ∧ j ≤ row.length ∧ Hid ((row.take j).all (fun s => withB s 0 1000) = true) ∧ Hid (sb = (row.take j).any (fun s => decide (0 < s)))) (fun _ v5 _ => (row.length - intOf v5).toNat)
        case atStart => exact ⟨hx, 0, false, rfl, rfl, by omega, rfl, rfl⟩
        case round =>
          obtain ⟨hx, j, sb, rfl, rfl, hj, hall, hany⟩ := hrel
          obtain ⟨a2, a3⟩ := HBX.out _ hx
          have e0 := (hx0.trans hx).cell r0
          by_cases hjl : j < row.length
          · obtain ⟨eb, eo, rfl, s0, _⟩ := RN.out.at j hjl
            simp only [Nat.mul_one] at s0
            have f0 := (hx0.trans hx).cell s0
            have hA := hid (all_take row (fun s => withB s 0 1000) j hjl hall.out)
            have hN := hid (any_take row (fun s => decide (0 < s)) j hjl)
            have hB := hid (all_bad row (fun s => withB s 0 1000) j hjl)
            generalize row[j] = x at *
            have i2 : (j : Int) < row.length := by omega
            have m2 := more_cell a2
            have m0 := more_cell e0
            have m1 := more_cell f0
            cases hwx : withB x 0 1000
            · have HWX := hid hwx
              clear hwx
              go_wp2_with (go_at_call 50; refine (within_to HWX.out _).yields ?_; intro p1)
              go_returns
              refine ⟨?_, (hx0.trans hx).more _⟩
              have h1 := hB.out HWX.out
              have h2 : planB doms.length row = false := by simp [planB, h1]
              simp [sharesB, hbad.out h2]
            · have HWX := hid hwx
              clear hwx
              cases sb <;> rcases (show 0 < x ∨ x ≤ 0 from by omega) with hpos | hpos
              all_goals
                go_wp2_with (go_at_call 50; refine (within_to HWX.out _).yields ?_; intro p1)
                go_roundw
                case rel => exact ⟨hx.more _, j + 1, _, by go_num, rfl, by omega, by unfold Hid; rw [hA.out]; exact HWX.out, by unfold Hid; rw [hN.out, ← hany.out]; simp [hpos]; try omega⟩
                case measure => simp [intOf]; omega
          · obtain rfl : j = row.length := by omega
            have h1 := hall.out
            have h2 := hany.out
            rw [List.take_length] at h1 h2
            have H1 := hid h1
            have H2 := hid h2
            clear h1 h2
            have m2 := more_cell a2
            have m3 := more_cell a3
            have m0 := more_cell e0
            by_cases hll : row.length = doms.length
            · have l1 : ((row.length : Int) == (doms.length : Int)) = true := by simp; omega
              have l2 : ((row.length : Int) != (doms.length : Int)) = false := by simp; omega
              have l3 : (row.length == doms.length) = true := by simp; omega
              have l4 : (row.length != doms.length) = false := by simp; omega
              have HLL := hid hll
              clear hll
              cases sb
              · go_wp2
                ((first | refine wp_region_more (by kernel_rfl) (by kernel_rfl) ?_ | refine wp_region_ext (by kernel_rfl) (by kernel_rfl) ?_); (try dsimp only [append_cons', append_nil']); (repeat (go_big_quiet_step ((fail)))); refine wpQuiet_nil ?_; rintro _ ⟨pq, rfl⟩)
                go_wp2
                go_returns
                refine ⟨?_, (hx0.trans hx).trans (ext_more _ _)⟩
                have h2 : planB doms.length row = false := by simp [planB, ← H2.out]
                simp [sharesB, hbad.out h2]
              · go_wp2
                ((first | refine wp_region_more (by kernel_rfl) (by kernel_rfl) ?_ | refine wp_region_ext (by kernel_rfl) (by kernel_rfl) ?_); (try dsimp only [append_cons', append_nil']); (repeat (go_big_quiet_step ((fail)))); refine wpQuiet_nil ?_; rintro _ ⟨pq, rfl⟩)
                go_wp2
                go_roundw
                case rel => exact ⟨hx.trans (ext_more _ _), k + 1, by go_num, by omega, hid (hgood.out (by simp [planB, H1.out, ← H2.out, HLL.out]))⟩
                case measure => simp [intOf]; omega
            · have l1 : ((row.length : Int) == (doms.length : Int)) = false := by simp; omega
              have l2 : ((row.length : Int) != (doms.length : Int)) = true := by simp; omega
              have l3 : (row.length == doms.length) = false := by simp; omega
              have l4 : (row.length != doms.length) = true := by simp; omega
              have HLL := hid hll
              clear hll
              go_wp2
              ((first | refine wp_region_more (by kernel_rfl) (by kernel_rfl) ?_ | refine wp_region_ext (by kernel_rfl) (by kernel_rfl) ?_); (try dsimp only [append_cons', append_nil']); (repeat (go_big_quiet_step ((fail)))); refine wpQuiet_nil ?_; rintro _ ⟨pq, rfl⟩)
              go_wp2
              go_returns
              refine ⟨?_, (hx0.trans hx).trans (ext_more _ _)⟩
              have h2 : planB doms.length row = false := by simp [planB, HLL.out]
              simp [sharesB, hbad.out h2]
      · obtain rfl : k = plans.length := by omega
        go_wp2
        go_returns
        have h1 := ht.out
        rw [List.take_length] at h1
        exact ⟨by simp [sharesB, h1, HLEN.out], hx0.trans hx⟩
  · have hlen' : withB plans.length 1 3 = false := by simpa using hlen
    go_wp2_with (go_at_call 50; refine (within_to hlen' _).yields ?_; intro p0)
    go_returns
    exact ⟨by simp [sharesB, hlen'], (by repeat (first | exact Ext.refl _ | assumption | refine Ext.more ?_ _ | refine Ext.drew ?_ | refine Ext.drewN ?_ _ | refine Ext.alloc ?_ _ | refine Ext.setCell ?_ (by simp; try omega) _ | refine Ext.trans ?_ (by assumption)))⟩
end Go.Proofs.YtmpgeabfogcblaaGreat
