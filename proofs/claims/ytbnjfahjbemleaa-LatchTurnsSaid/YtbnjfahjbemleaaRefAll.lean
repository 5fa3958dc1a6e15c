/- The document's own Ticks; how wide a configuration is. -/
import Derived.Test.YtbnjfahjbemleaaRows
import Derived.Test.YtbnjfahjbemleaaConf
import Derived.WalkKit
import Derived.WalkSpells
import Derived.WalkLawsBesides
import Derived.Deep.QuietTactic
import Derived.BigQuiet
import Derived.Handy
import Derived.Test.YtbnjfahjbemleaaLabel
import Derived.Test.YtbnjfahjbemleaaPush
namespace Go.Proofs.Ytbnjfahjbemleaa
open Go.RowKit

set_option maxHeartbeats 400000 in
theorem within_any (n a b : Int) (w : World) : Calls Try.prog 19 #[.int .i64 n, .int .i64 a, .int .i64 b] w (Yields w (.bool (withB n a b))) := by
  by_cases h : a ≤ n <;>
  · go_enter Try.func19, Try.ntmps19
    go_wp2
    go_ret
    exact ⟨by simp [withB]; try omega, ext_by⟩

set_option maxRecDepth 100000 in
set_option maxHeartbeats 1000000 in
theorem sameInts_any (w : World) (va vb : Value) (la lb : List Int) (ha : Nums .i64 w va la) (hb : Nums .i64 w vb lb) :
    Calls Try.prog 12 #[va, vb] w (Yields w (.bool (decide (la = lb)))) := by
  obtain ⟨pa, ca, rfl, hca, hma⟩ := ha.shape
  obtain ⟨pb, cb, rfl, hcb, hmb⟩ := hb.shape
  unfold maxLen at hma hmb
  have HA := hid ha
  have HB := hid hb
  clear ha hb
  by_cases hl : la.length = lb.length
  · have l1 : (la.length : Int) ≤ lb.length := by omega
    have l2 : (lb.length : Int) ≤ la.length := by omega
    have l3 : ((la.length : Int) == (lb.length : Int)) = true := by simp; omega
    have HL := hid hl
    clear hl
    go_enter Try.func12, Try.ntmps12
    go_wp2
    go_loopw [5] (fun v5 wr => Ext w wr ∧ ∃ k : Nat, v5 = .int .i64 k ∧ k ≤ la.length ∧ Hid (la.take k = lb.take k)) (fun v5 _ => (la.length - intOf v5).toNat)
    case atStart => exact ⟨Ext.refl _, 0, rfl, by omega, rfl⟩
    case round =>
      obtain ⟨hx, k, rfl, hk, ht⟩ := hrel
      by_cases hlt : k < la.length
      · obtain ⟨ba, oa, rfl, a0, _⟩ := HA.out.at k hlt
        obtain ⟨bb, ob, rfl, b0, _⟩ := HB.out.at k (by have := HL.out; omega)
        have m0 := more_cell (hx.cell a0)
        have m1 := more_cell (hx.cell b0)
        simp only [Nat.mul_one] at m0 m1
        have hs : Hid (la[k] = lb[k]'(by have := HL.out; omega) → la.take (k + 1) = lb.take (k + 1)) := fun h => by
          rw [List.take_succ_eq_append_getElem hlt, List.take_succ_eq_append_getElem (by have := HL.out; omega), ht.out, h]
        have hn : Hid (la[k] ≠ lb[k]'(by have := HL.out; omega) → la ≠ lb) := fun h e => h (by subst e; rfl)
        clear a0 b0
        generalize la[k] = x at *
        generalize lb[k]'(by have := HL.out; omega) = y at *
        have i1 : (k : Int) < la.length := by omega
        have i2 : (k : Int) < lb.length := by omega
        rcases (show x = y ∨ x ≠ y from by omega) with he | he
        · subst he
          have hsx := hs.out rfl
          clear hs
          go_wp2
          ((first | refine wp_region_more (by kernel_rfl) (by kernel_rfl) ?_ | refine wp_region_ext (by kernel_rfl) (by kernel_rfl) ?_); (try dsimp only [append_cons', append_nil']); (repeat (go_big_quiet_step ((fail)))); refine wpQuiet_nil ?_; rintro _ ⟨pq, rfl⟩)
          go_wp2
          go_roundw
          case rel => exact ⟨hx.trans (ext_more _ _), k + 1, by go_num, by omega, hid hsx⟩
          case measure => simp [intOf]; omega
        · have hb : (x == y) = false := by simpa using he
          go_wp2
          ((first | refine wp_region_more (by kernel_rfl) (by kernel_rfl) ?_ | refine wp_region_ext (by kernel_rfl) (by kernel_rfl) ?_); (try dsimp only [append_cons', append_nil']); (repeat (go_big_quiet_step ((fail)))); refine wpQuiet_nil ?_; rintro _ ⟨pq, rfl⟩)
          go_wp2
          go_returns
          exact ⟨by simp [hn.out he], hx.trans (ext_more _ _)⟩
      · obtain rfl : k = la.length := by omega
        have he := ht.out
        rw [List.take_length, HL.out, List.take_length] at he
        have HE := hid he
        clear he
        go_wp2
        go_returns
        exact ⟨by simp [HE.out], hx⟩
  · have hne : la ≠ lb := fun h => hl (by rw [h])
    have hl' : ((la.length : Int) == (lb.length : Int)) = false := by simp; omega
    go_enter Try.func12, Try.ntmps12
    go_wp2
    go_returns
    exact ⟨by simp [hne], ext_by⟩
theorem sameInts_to {la lb : List Int} {r : Bool} (e : decide (la = lb) = r) (w : World) (va vb : Value) (ha : Nums .i64 w va la) (hb : Nums .i64 w vb lb) :
    Calls Try.prog 12 #[va, vb] w (Yields w (.bool r)) := e ▸ sameInts_any w va vb la lb ha hb

end Go.Proofs.Ytbnjfahjbemleaa

namespace Go.Proofs.Ytbnjfahjbemleaa
open Go.RowKit

theorem all_take {α : Type} (l : List α) (f : α → Bool) (k : Nat) (h : k < l.length) (ht : (l.take k).all f = true) : (l.take (k + 1)).all f = f l[k] := by
  rw [List.take_succ_eq_append_getElem h, List.all_append, ht]; simp
theorem all_bad {α : Type} (l : List α) (f : α → Bool) (k : Nat) (h : k < l.length) (hf : f l[k] = false) : l.all f = false := by
  rw [List.all_eq_false]
  exact ⟨l[k], List.getElem_mem h, by simp [hf]⟩
theorem any_take {α : Type} (l : List α) (f : α → Bool) (k : Nat) (h : k < l.length) : (l.take (k + 1)).any f = ((l.take k).any f || f l[k]) := by
  rw [List.take_succ_eq_append_getElem h, List.any_append]; simp
theorem within_to {n a b : Int} {r : Bool} (e : withB n a b = r) (w : World) : Calls Try.prog 19 #[.int .i64 n, .int .i64 a, .int .i64 b] w (Yields w (.bool r)) := e ▸ within_any n a b w

/-- What is known of a struct's box. -/
theorem blk_cell' {w : World} {b : Nat} {cs : Array Value} {T : TypeId} (h : w.heap[b]? = some (.cells cs T (0, 0))) {j : Nat} : w.cell? ⟨b, j, none⟩ = cs[j]? := by simp [World.cell?, h]
theorem box_cells {w w' : World} {cs : Array Value} {T : TypeId} (h : Ext (w.alloc (.cells cs T (0, 0))) w') (j : Nat) (hj : j < cs.size) : w'.cell? ⟨w.heap.size, j, none⟩ = cs[j]? := by
  obtain ⟨v, hv⟩ : ∃ v, cs[j]? = some v := ⟨_, Array.getElem?_eq_getElem hj⟩
  rw [hv]
  exact h.cell (by rw [blk_cell' (heap_alloc_new w _)]; exact hv)
set_option maxRecDepth 100000 in
set_option maxHeartbeats 2000000 in
theorem shares_any (w : World) (c : Cnf) (pv dv : Value) (hc : ConfV w c pv dv) :
    Calls Try.prog 21 #[confV c pv dv] w (Yields w (.bool (sharesB c))) := by
  obtain ⟨pp, cp, rfl, hp1, hp2⟩ := hc.plans.shape
  obtain ⟨pd, cd, rfl, hd1, hd2⟩ := hc.doms.shape
  unfold maxLen at hp2 hd2
  have HC := hid hc
  clear hc
  obtain ⟨fr, ep, plans, doms⟩ := c
  simp only at HC hp1 hp2 hd1 hd2
  go_enter Try.func21, Try.ntmps21
  by_cases hlen : withB plans.length 1 3 = true
  · have hw := withB_iff.1 hlen
    go_wp2_with (go_at_call 19; refine (within_to hlen _).yields ?_; intro p0)
    have hbx := fun (w' : World) (h : Ext (w.alloc (.cells #[.int .i64 fr, .int .i64 ep, .slice pp plans.length cp, .slice pd doms.length cd] 29 (0, 0))) w') => And.intro (box_cells h 2 (by simp)) (box_cells h 3 (by simp))
    have hx0 : Ext w (w.alloc (.cells #[.int .i64 fr, .int .i64 ep, .slice pp plans.length cp, .slice pd doms.length cd] 29 (0, 0))) := Ext.alloc (Ext.refl _) _
    generalize w.alloc (.cells #[.int .i64 fr, .int .i64 ep, .slice pp plans.length cp, .slice pd doms.length cd] 29 (0, 0)) = W1 at *
    simp only [List.getElem?_toArray, List.getElem?_cons_succ, List.getElem?_cons_zero] at hbx
    have HBX := hid hbx
    clear hbx
    have hx1 := ext_more W1 p0
    generalize more W1 p0 = W2 at *
    have HLEN := hid hlen
    clear hlen
    go_loopw [3] (fun v3 wr => Ext W1 wr ∧ ∃ k : Nat, v3 = .int .i64 k ∧ k ≤ plans.length ∧ Hid ((plans.take k).all (planB doms.length) = true)) (fun v3 _ => (plans.length - intOf v3).toNat)
    case atStart => exact ⟨hx1, 0, rfl, by omega, rfl⟩
    case round =>
      obtain ⟨hx, k, rfl, hk, ht⟩ := hrel
      obtain ⟨a2, a3⟩ := HBX.out _ hx
      by_cases hlt : k < plans.length
      · obtain ⟨pb, po, rfl, rv, r0, rn⟩ := HC.out.plans.at k hlt
        have hgood := hid (fun (h : planB doms.length plans[k] = true) => (all_take plans (planB doms.length) k hlt ht.out).trans h)
        have hbad := hid (all_bad plans (planB doms.length) k hlt)
        generalize plans[k] = row at *
        obtain ⟨rp, rc, rfl, hr1, hr2⟩ := rn.shape
        unfold maxLen at hr2
        simp only [Nat.mul_one] at r0
        have RN := hid rn
        clear rn
        have i1 : (k : Int) < plans.length := by omega
        have e0 := (hx0.trans hx).cell r0
        go_wp2_with fail
        go_loopw [4, 5] (fun v4 v5 wr => Ext W1 wr ∧ ∃ (j : Nat) (sb : Bool), v5 = .int .i64 j ∧ v4 = .bool sb ∧ j ≤ row.length ∧ Hid ((row.take j).all (fun s => withB s 0 1000) = true) ∧ Hid (sb = (row.take j).any (fun s => decide (0 < s)))) (fun _ v5 _ => (row.length - intOf v5).toNat)
        case atStart => exact ⟨hx, 0, false, rfl, rfl, by omega, rfl, rfl⟩
        case round =>
          obtain ⟨hx, j, sb, rfl, rfl, hj, hall, hany⟩ := hrel
          obtain ⟨a2, a3⟩ := HBX.out _ hx
          have e0 := (hx0.trans hx).cell r0
          by_cases hjl : j < row.length
          · obtain ⟨eb, eo, rfl, s0, _⟩ := RN.out.at j hjl
            simp only [Nat.mul_one] at s0
            have f0 := (hx0.trans hx).cell s0
            have hA := hid (all_take row (fun s => withB s 0 1000) j hjl hall.out)
            have hN := hid (any_take row (fun s => decide (0 < s)) j hjl)
            have hB := hid (all_bad row (fun s => withB s 0 1000) j hjl)
            generalize row[j] = x at *
            have i2 : (j : Int) < row.length := by omega
            have m2 := more_cell a2
            have m0 := more_cell e0
            have m1 := more_cell f0
            cases hwx : withB x 0 1000
            · have HWX := hid hwx
              clear hwx
              go_wp2_with (go_at_call 19; refine (within_to HWX.out _).yields ?_; intro p1)
              go_returns
              refine ⟨?_, (hx0.trans hx).more _⟩
              have h1 := hB.out HWX.out
              have h2 : planB doms.length row = false := by simp [planB, h1]
              simp [sharesB, hbad.out h2]
            · have HWX := hid hwx
              clear hwx
              cases sb <;> rcases (show 0 < x ∨ x ≤ 0 from by omega) with hpos | hpos
              all_goals
                go_wp2_with (go_at_call 19; refine (within_to HWX.out _).yields ?_; intro p1)
                go_roundw
                case rel => exact ⟨hx.more _, j + 1, _, by go_num, rfl, by omega, by unfold Hid; rw [hA.out]; exact HWX.out, by unfold Hid; rw [hN.out, ← hany.out]; simp [hpos]; try omega⟩
                case measure => simp [intOf]; omega
          · obtain rfl : j = row.length := by omega
            have h1 := hall.out
            have h2 := hany.out
            rw [List.take_length] at h1 h2
            have H1 := hid h1
            have H2 := hid h2
            clear h1 h2
            have m2 := more_cell a2
            have m3 := more_cell a3
            have m0 := more_cell e0
            by_cases hll : row.length = doms.length
            · have l1 : ((row.length : Int) == (doms.length : Int)) = true := by simp; omega
              have l2 : ((row.length : Int) != (doms.length : Int)) = false := by simp; omega
              have l3 : (row.length == doms.length) = true := by simp; omega
              have l4 : (row.length != doms.length) = false := by simp; omega
              have HLL := hid hll
              clear hll
              cases sb
              · go_wp2
                ((first | refine wp_region_more (by kernel_rfl) (by kernel_rfl) ?_ | refine wp_region_ext (by kernel_rfl) (by kernel_rfl) ?_); (try dsimp only [append_cons', append_nil']); (repeat (go_big_quiet_step ((fail)))); refine wpQuiet_nil ?_; rintro _ ⟨pq, rfl⟩)
                go_wp2
                go_returns
                refine ⟨?_, (hx0.trans hx).trans (ext_more _ _)⟩
                have h2 : planB doms.length row = false := by simp [planB, ← H2.out]
                simp [sharesB, hbad.out h2]
              · go_wp2
                ((first | refine wp_region_more (by kernel_rfl) (by kernel_rfl) ?_ | refine wp_region_ext (by kernel_rfl) (by kernel_rfl) ?_); (try dsimp only [append_cons', append_nil']); (repeat (go_big_quiet_step ((fail)))); refine wpQuiet_nil ?_; rintro _ ⟨pq, rfl⟩)
                go_wp2
                go_roundw
                case rel => exact ⟨hx.trans (ext_more _ _), k + 1, by go_num, by omega, hid (hgood.out (by simp [planB, H1.out, ← H2.out, HLL.out]))⟩
                case measure => simp [intOf]; omega
            · have l1 : ((row.length : Int) == (doms.length : Int)) = false := by simp; omega
              have l2 : ((row.length : Int) != (doms.length : Int)) = true := by simp; omega
              have l3 : (row.length == doms.length) = false := by simp; omega
              have l4 : (row.length != doms.length) = true := by simp; omega
              have HLL := hid hll
              clear hll
              go_wp2
              ((first | refine wp_region_more (by kernel_rfl) (by kernel_rfl) ?_ | refine wp_region_ext (by kernel_rfl) (by kernel_rfl) ?_); (try dsimp only [append_cons', append_nil']); (repeat (go_big_quiet_step ((fail)))); refine wpQuiet_nil ?_; rintro _ ⟨pq, rfl⟩)
              go_wp2
              go_returns
              refine ⟨?_, (hx0.trans hx).trans (ext_more _ _)⟩
              have h2 : planB doms.length row = false := by simp [planB, HLL.out]
              simp [sharesB, hbad.out h2]
      · obtain rfl : k = plans.length := by omega
        go_wp2
        go_returns
        have h1 := ht.out
        rw [List.take_length] at h1
        exact ⟨by simp [sharesB, h1, HLEN.out], hx0.trans hx⟩
  · have hlen' : withB plans.length 1 3 = false := by simpa using hlen
    go_wp2_with (go_at_call 19; refine (within_to hlen' _).yields ?_; intro p0)
    go_returns
    exact ⟨by simp [sharesB, hlen'], ext_by⟩
end Go.Proofs.Ytbnjfahjbemleaa

namespace Go.Proofs.Ytbnjfahjbemleaa
open Go.RowKit

def encLab (x : Int × Int) : List Value := [.int .i64 x.1, .int .u64 x.2]
theorem encLab_len (x : Int × Int) : (encLab x).length = 2 := rfl
theorem Try.infoLab : (Try.prog.info? 56).map (fun i => (i.zero, i.size, i.bytes)) = some (some (.agg #[.int .i64 0, .int .u64 0]), 2, 16) := by kernel_rfl
theorem labAt_u64 {w : World} {v : Value} {ds : List Dom} (h : DomsV w v ds) (n : Int) : U64 (labAt ds n).2 := by
  obtain ⟨p, c, rfl, _, _⟩ := h.shape
  unfold labAt
  by_cases hn : n.toNat < ds.length
  · obtain ⟨_, _, _, _, _, _, _, _, u1, u2⟩ := h.at n.toNat hn
    rw [List.getElem?_eq_getElem hn]
    exact ⟨u1, u2⟩
  · rw [List.getElem?_eq_none (by omega)]
    exact ⟨by decide, by decide⟩
theorem labels_of_owns {w : World} {base m : Nat} {v : Value} {l : List (Int × Int)} (h : w.ownsRow base 56 2 v m (l.flatMap encLab)) (hu : ∀ x ∈ l, U64 x.2) : m = l.length ∧ Labels w v l :=
  Slc.of_owns (by decide) encLab_len h fun b off x hx hc => ⟨by simpa [encLab] using hc 0 (by decide), by simpa [encLab] using hc 1 (by decide), hu x hx⟩

theorem rleq_to {a b c d : Int} {r : Bool} (e : leqB a b c d = r) (w : World) : Calls Try.prog 30 #[.agg #[.int .i64 a, .int .u64 b], .agg #[.int .i64 c, .int .u64 d]] w (Yields w (.bool r)) := e ▸ rleq_any a b c d w
theorem rchain_to {l : List (Int × Int)} {r : Bool} (e : chainB l = r) (w : World) (v : Value) (h : Labels w v l) : Calls Try.prog 29 #[v] w (Yields w (.bool r)) := e ▸ rchain_any w v l h

/-- What the early test of routes says. -/
def earlyB (n : Nat) (i : Nat) (d : Dom) : Bool := decide (d.routes.length ≤ 3) && decide (-1 ≤ d.to) && decide (d.to < n) && !(d.to == i) && !(d.to == -1 && !d.release.isEmpty)
theorem domB_early {c : Cnf} {i : Nat} {d : Dom} (h : earlyB c.doms.length i d = false) : domB c i d = false := by
  rw [Bool.eq_false_iff] at *
  intro hd
  apply h
  simp only [domB, giveB, Bool.and_eq_true, decide_eq_true_eq] at hd
  obtain ⟨⟨h1, _⟩, h2⟩ := hd
  split at h2
  · rename_i ht
    simp only [earlyB, Bool.and_eq_true, decide_eq_true_eq, ht, h2]
    refine ⟨⟨⟨⟨h1, by omega⟩, by omega⟩, ?_⟩, rfl⟩
    simp <;> omega
  · rename_i ht
    simp only [Bool.and_eq_true, withB_iff] at h2
    obtain ⟨⟨⟨⟨⟨h3, h4⟩, _⟩, _⟩, _⟩, _⟩ := h2
    simp only [earlyB, Bool.and_eq_true, decide_eq_true_eq]
    refine ⟨⟨⟨⟨h1, by omega⟩, by omega⟩, h4⟩, ?_⟩
    simp [ht]

set_option maxRecDepth 100000 in
set_option maxHeartbeats 4000000 in
theorem routes_early (w : World) (c : Cnf) (pv dv : Value) (hc : ConfV w c pv dv) (i : Nat) (hi : i < c.doms.length) (he : earlyB c.doms.length i c.doms[i] = false) :
    Calls Try.prog 22 #[confV c pv dv, .int .i64 i] w (Yields w (.bool (domB c i c.doms[i]))) := by
  rw [domB_early he]
  obtain ⟨pp, cp, rfl, hp1, hp2⟩ := hc.plans.shape
  obtain ⟨pd, cd, rfl, hd1, hd2⟩ := hc.doms.shape
  unfold maxLen at hp2 hd2
  obtain ⟨db, doff, rfl, vr, ve, D, DR, DE, u1, u2⟩ := hc.doms.at i hi
  obtain ⟨rp, rc, rfl, hrc1, hrc2⟩ := DR.shape
  obtain ⟨ep, ec, rfl, hec1, hec2⟩ := DE.shape
  unfold maxLen at hrc2 hec2
  clear hc DR DE
  obtain ⟨d0, d1, d2, d3, d4, d5, d6, d7, d8, d9⟩ := D
  have hdb : db < w.heap.size := World.block_lt_of_cell? w _ d0
  have i1 : (i : Int) < c.doms.length := by omega
  have HE := hid he
  clear he
  generalize hx : c.doms[i] = x at *
  go_enter Try.func22, Try.ntmps22
  go_wp2
  all_goals first
    | (go_returns; exact ⟨rfl, ext_by⟩)
    | (exfalso; have h := HE.out; simp [earlyB] at h; simp_all; try omega)

set_option maxRecDepth 100000 in
set_option maxHeartbeats 8000000 in
theorem routes_late (w : World) (c : Cnf) (pv dv : Value) (hc : ConfV w c pv dv) (i : Nat) (hi : i < c.doms.length) (he : earlyB c.doms.length i c.doms[i] = true) (hr : ∀ r ∈ c.doms[i].routes, r.length ≤ 300) :
    Calls Try.prog 22 #[confV c pv dv, .int .i64 i] w (Yields w (.bool (domB c i c.doms[i]))) := by
  obtain ⟨pp, cp, rfl, hp1, hp2⟩ := hc.plans.shape
  obtain ⟨pd, cd, rfl, hd1, hd2⟩ := hc.doms.shape
  unfold maxLen at hp2 hd2
  have HC := hid hc
  have HR := hid hr
  obtain ⟨db, doff, rfl, vr, ve, D, DR, DE, u1, u2⟩ := hc.doms.at i hi
  obtain ⟨rp, rc, rfl, hrc1, hrc2⟩ := DR.shape
  obtain ⟨ep, ec, rfl, hec1, hec2⟩ := DE.shape
  unfold maxLen at hrc2 hec2
  have DRh := hid DR
  have DEh := hid DE
  have HU := hid (labAt_u64 hc.doms)
  clear hc hr DR DE
  obtain ⟨d0, d1, d2, d3, d4, d5, d6, d7, d8, d9⟩ := D
  have hdb : db < w.heap.size := World.block_lt_of_cell? w _ d0
  have i1 : (i : Int) < c.doms.length := by omega
  have HXL : Hid (labAt c.doms i = (c.doms[i].level, c.doms[i].cats)) := by simp [Hid, labAt, List.getElem?_eq_getElem hi, Dom.lab]
  generalize hx : c.doms[i] = x at *
  have HX := hid hx
  clear hx
  simp only [earlyB, Bool.and_eq_true, decide_eq_true_eq] at he
  obtain ⟨⟨⟨⟨e1, e2⟩, e3⟩, e4⟩, e5⟩ := he
  have e1' : (x.routes.length : Int) ≤ 3 := by omega
  have e4' : (x.to == (i : Int)) = false := by simpa using e4
  have g1 : decide ((3 : Int) < (x.routes.length : Int)) = false := by simpa using e1'
  have g2 : decide (x.to < -1) = false := by simpa using e2
  have g3 : decide ((c.doms.length : Int) ≤ x.to) = false := by simpa using e3
  go_enter Try.func22, Try.ntmps22
  obtain ⟨bt, g4, hbt⟩ : ∃ bt : Bool, (x.to == (-1 : Int)) = bt ∧ Hid ((bt = true → x.to = -1 ∧ x.release = []) ∧ (bt = false → 0 ≤ x.to)) := by
    by_cases h : x.to = -1
    · refine ⟨true, by simp [h], hid ⟨fun _ => ⟨h, ?_⟩, (fun h => by cases h)⟩⟩
      rw [h] at e5
      simpa using e5
    · exact ⟨false, by simpa using h, hid ⟨(fun h => by cases h), fun _ => by omega⟩⟩
  have g5 : bt = true → decide ((0 : Int) < (x.release.length : Int)) = false ∧ decide (0 < x.release.length) = false ∧ (x.release.length : Int) ≤ 0 := fun h => by
    have := (hbt.out.1 h).2
    simp [this]
  have HE5 := hid e5
  clear e5 e4
  cases bt
  all_goals
    first | have HT := hid (hbt.out.1 rfl) | have HT := hid (hbt.out.2 rfl)
    clear hbt
    try simp only [forall_const, Bool.false_eq_true, false_implies] at g5
    try obtain ⟨g5, g6, g7⟩ := g5
    go_wp2_with fail
    have hbx := fun (w' : World) (h : Ext ((w.alloc (.cells #[.int .i64 c.frame, .int .i64 c.epoch, .slice pp c.plans.length cp, .slice (some ⟨db, doff, none⟩) c.doms.length cd] 29 (0, 0))).alloc (.cells #[.int .i64 x.level, .int .u64 x.cats, .slice rp x.routes.length rc, .slice ep x.release.length ec, .int .i64 x.to, .int .i64 x.threads, .int .i64 x.groups, .int .i64 x.ring, .int .i64 x.sends, .int .i64 x.box] 58 (0, 0))) w') =>
      And.intro (box_cells (Ext.trans (Ext.alloc (Ext.refl _) _) h) 0 (by simp)) (And.intro (box_cells (Ext.trans (Ext.alloc (Ext.refl _) _) h) 3 (by simp)) (And.intro (box_cells h 0 (by simp)) (And.intro (box_cells h 1 (by simp)) (And.intro (box_cells h 2 (by simp)) (And.intro (box_cells h 3 (by simp)) (box_cells h 4 (by simp)))))))
    have hx0 : Ext w ((w.alloc (.cells #[.int .i64 c.frame, .int .i64 c.epoch, .slice pp c.plans.length cp, .slice (some ⟨db, doff, none⟩) c.doms.length cd] 29 (0, 0))).alloc (.cells #[.int .i64 x.level, .int .u64 x.cats, .slice rp x.routes.length rc, .slice ep x.release.length ec, .int .i64 x.to, .int .i64 x.threads, .int .i64 x.groups, .int .i64 x.ring, .int .i64 x.sends, .int .i64 x.box] 58 (0, 0))) := Ext.alloc (Ext.alloc (Ext.refl _) _) _
    generalize (w.alloc (.cells #[.int .i64 c.frame, .int .i64 c.epoch, .slice pp c.plans.length cp, .slice (some ⟨db, doff, none⟩) c.doms.length cd] 29 (0, 0))).alloc (.cells #[.int .i64 x.level, .int .u64 x.cats, .slice rp x.routes.length rc, .slice ep x.release.length ec, .int .i64 x.to, .int .i64 x.threads, .int .i64 x.groups, .int .i64 x.ring, .int .i64 x.sends, .int .i64 x.box] 58 (0, 0)) = W1 at *
    simp only [List.getElem?_toArray, List.getElem?_cons_succ, List.getElem?_cons_zero, World.size_alloc] at hbx
    have HBX := hid hbx
    clear hbx
    go_loopw [6] (fun v6 wr => Ext W1 wr ∧ ∃ k : Nat, v6 = .int .i64 k ∧ k ≤ x.routes.length ∧ Hid ((x.routes.take k).all (routeB c.doms x.lab) = true)) (fun v6 _ => (x.routes.length - intOf v6).toNat)
    case atStart => exact ⟨Ext.refl _, 0, rfl, by omega, rfl⟩
    case round =>
      obtain ⟨hx, k, rfl, hk, ht⟩ := hrel
      obtain ⟨b0, b3, q0, q1, q2, q3, q4⟩ := HBX.out _ hx
      by_cases hlt : k < x.routes.length
      · obtain ⟨rb, ro, rfl, rv, r0, rn⟩ := DRh.out.at k hlt
        have hr300 := HR.out _ (List.getElem_mem hlt)
        have hgood := hid (fun (h : routeB c.doms x.lab x.routes[k] = true) => (all_take x.routes (routeB c.doms x.lab) k hlt ht.out).trans h)
        have hbad := hid (all_bad x.routes (routeB c.doms x.lab) k hlt)
        generalize x.routes[k] = row at *
        obtain ⟨np, nc, rfl, hn1, hn2⟩ := rn.shape
        unfold maxLen at hn2
        simp only [Nat.mul_one] at r0
        have RN := hid rn
        clear rn
        have i2 : (k : Int) < x.routes.length := by omega
        have e0 := (hx0.trans hx).cell r0
        have hlw : k < wr.heap.size ∨ True := .inr trivial
        have hrbs : rb < wr.heap.size := World.block_lt_of_cell? _ _ e0
        have hbs : w.heap.size + 1 < wr.heap.size := World.block_lt_of_cell? _ _ q0
        go_wp2_with fail
        have ho1 := owns_one wr W1.heap.size 56 2 (encLab x.lab) hx.size rfl
        have hx1 : Ext W1 (wr.alloc (.cells (encLab x.lab).toArray 56 (0, 0))) := hx.alloc _
        go_loopw [7, 8] (fun v7 v8 wr => Ext W1 wr ∧ ∃ (j : Nat) (p : Option Addr) (cap : Nat), v8 = .int .i64 j ∧ v7 = .slice p (j + 1) cap ∧ j ≤ row.length ∧ Hid ((row.take j).all (fun n => withB n 0 ((c.doms.length : Int) - 1)) = true) ∧ wr.ownsRow W1.heap.size 56 2 (.slice p (j + 1) cap) (j + 1) ((x.lab :: (row.take j).map (labAt c.doms)).flatMap encLab)) (fun _ v8 _ => (row.length - intOf v8).toNat)
        case atStart => exact ⟨hx1, 0, _, _, rfl, rfl, by omega, rfl, by simp only [List.take_zero, List.map_nil, List.flatMap_cons, List.flatMap_nil, List.append_nil]; exact ho1⟩
        case round =>
          obtain ⟨hx, j, lp, lc, rfl, rfl, hj, hall, hown⟩ := hrel
          obtain ⟨b0, b3, q0, q1, q2, q3, q4⟩ := HBX.out _ hx
          have e0 := (hx0.trans hx).cell r0
          by_cases hjl : j < row.length
          · obtain ⟨eb, eo, rfl, s0, _⟩ := RN.out.at j hjl
            simp only [Nat.mul_one] at s0
            have f0 := (hx0.trans hx).cell s0
            have hA := hid (all_take row (fun n => withB n 0 ((c.doms.length : Int) - 1)) j hjl hall.out)
            have hB := hid (all_bad row (fun n => withB n 0 ((c.doms.length : Int) - 1)) j hjl)
            have hT : Hid (row.take (j + 1) = row.take j ++ [row[j]]) := List.take_succ_eq_append_getElem hjl
            generalize row[j] = n at *
            have i3 : (j : Int) < row.length := by omega
            have i4 : (j : Int) ≤ 300 := by omega
            have m2 := more_cell e0
            have m3 := more_cell b3
            have m4 := more_cell f0
            cases hwx : withB n 0 ((c.doms.length : Int) - 1)
            · have HWX := hid hwx
              clear hwx
              go_wp2_with (go_at_call 19; refine (within_to HWX.out _).yields ?_; intro p1)
              go_returns
              refine ⟨?_, (hx0.trans hx).more _⟩
              have h1 := hB.out HWX.out
              have h2 : routeB c.doms x.lab row = false := by simp [routeB, h1]
              simp [domB, hbad.out h2]
            · have hw := withB_iff.1 hwx
              have HWX := hid hwx
              clear hwx
              obtain ⟨q, rfl⟩ := Int.eq_ofNat_of_zero_le hw.1
              have hq : q < c.doms.length := by omega
              obtain ⟨_, _, hpp, _, _, ⟨y0, y1, _⟩, _⟩ := HC.out.doms.at q hq
              cases hpp
              have hlab : Hid (labAt c.doms (q : Int) = (c.doms[q].level, c.doms[q].cats)) := by simp [Hid, labAt, List.getElem?_eq_getElem hq, Dom.lab]
              generalize c.doms[q] = y at *
              have z0 := more_cell ((hx0.trans hx).cell y0)
              have z1 := more_cell ((hx0.trans hx).cell y1)
              have i5 : (q : Int) < c.doms.length := by omega
              go_wp2_with (first | (go_at_call 19; refine (within_to HWX.out _).yields ?_; intro p1) | (at_builtin; refine wpList_push_own rfl (.tmp 90) (.tmp 97) 67 56 (.agg #[.int .i64 0, .int .u64 0]) 2 16 rfl Try.underlying67 Try.infoLab rfl (by decide) (owns_ext hown (ext_more _ _)) (news := [.int .i64 y.level, .int .u64 y.cats]) rfl (by intro u hu; simp at hu; rcases hu with rfl | rfl <;> rfl) (by unfold maxLen; omega) (by omega) (hx.more _).size rfl rfl (by simp [more_size]) ?_; intro lp' lc' w1 ho1 hb1))
              go_roundw
              case rel => exact ⟨⟨(hx.more _).below.trans hb1⟩, j + 1, lp', lc', by go_num, rfl, by omega, by unfold Hid; rw [hA.out]; exact HWX.out, by rw [hT.out, List.map_append, ← List.cons_append, List.flatMap_append]; simpa [encLab, hlab.out] using ho1⟩
              case measure => simp [intOf]; omega
          · obtain rfl : j = row.length := by omega
            have h1 := hall.out
            rw [List.take_length] at h1 hown
            have H1 := hid h1
            clear h1
            obtain ⟨-, hL⟩ := labels_of_owns hown (fun z hz => by
              rcases List.mem_cons.1 hz with rfl | hz
              · exact ⟨u1, u2⟩
              · obtain ⟨n, _, rfl⟩ := List.mem_map.1 hz
                exact HU.out n)
            have HL := hid hL
            clear hL
            by_cases hz : row.length = 0
            · have HZ := hid hz
              have z1 : ((row.length : Int) + 1 == 1) = true := by simp; omega
              clear hz
              go_wp2
              go_returns
              refine ⟨?_, hx0.trans hx⟩
              have h2 : routeB c.doms x.lab row = false := by
                have : row = [] := List.eq_nil_of_length_eq_zero HZ.out
                simp [routeB, this]
              simp [domB, hbad.out h2]
            · have z1 : ((row.length : Int) + 1 == 1) = false := by simp; omega
              have HZ := hid hz
              clear hz
              cases hch : chainB (x.lab :: row.map (labAt c.doms))
              · have HCH := hid hch
                clear hch
                go_wp2_with (go_at_call 29; refine (rchain_to HCH.out _ _ HL.out).yields ?_; intro p2)
                go_returns
                refine ⟨?_, (hx0.trans hx).more _⟩
                have h2 : routeB c.doms x.lab row = false := by simp [routeB, HCH.out]
                simp [domB, hbad.out h2]
              · have HCH := hid hch
                clear hch
                go_wp2_with (go_at_call 29; refine (rchain_to HCH.out _ _ HL.out).yields ?_; intro p2)
                go_roundw
                case rel => exact ⟨hx.more _, k + 1, by go_num, by omega, hid (hgood.out (by
                  have : row ≠ [] := fun h => HZ.out (by rw [h]; rfl)
                  simp [routeB, HCH.out, H1.out, this]))⟩
                case measure => simp [intOf]; omega
      · obtain rfl : k = x.routes.length := by omega
        have h1 := ht.out
        rw [List.take_length] at h1
        have H1 := hid h1
        clear h1
        first
          | (go_wp2
             go_returns
             refine ⟨?_, hx0.trans hx⟩
             obtain ⟨h1, h2⟩ := HT.out
             simp [domB, giveB, h1, h2, H1.out, e1]; done)
          | skip
        all_goals
          have ht0 : (0 : Int) ≤ x.to := HT.out
          go_wp2_with fail
          go_loopw [10] (fun v10 wr => Ext W1 wr ∧ ∃ k : Nat, v10 = .int .i64 k ∧ k ≤ x.release.length ∧ Hid ((x.release.take k).all (fun n => withB n 0 c.frame) = true)) (fun v10 _ => (x.release.length - intOf v10).toNat)
          case atStart => exact ⟨hx, 0, rfl, by omega, rfl⟩
          case round =>
            obtain ⟨hx, k, rfl, hk, ht⟩ := hrel
            obtain ⟨b0, b3, q0, q1, q2, q3, q4⟩ := HBX.out _ hx
            by_cases hlt : k < x.release.length
            · obtain ⟨eb, eo, rfl, s0, _⟩ := DEh.out.at k hlt
              simp only [Nat.mul_one] at s0
              have f0 := (hx0.trans hx).cell s0
              have hA := hid (all_take x.release (fun n => withB n 0 c.frame) k hlt ht.out)
              have hB := hid (all_bad x.release (fun n => withB n 0 c.frame) k hlt)
              generalize x.release[k] = n at *
              have i3 : (k : Int) < x.release.length := by omega
              have m0 := more_cell b0
              have m2 := more_cell q3
              have m3 := more_cell f0
              cases hwx : withB n 0 c.frame
              · have HWX := hid hwx
                clear hwx
                go_wp2_with fail
                ((first | refine wp_region_more (by kernel_rfl) (by kernel_rfl) ?_ | refine wp_region_ext (by kernel_rfl) (by kernel_rfl) ?_); (try dsimp only [append_cons', append_nil']); (repeat (go_big_quiet_step ((go_at_call 19; refine Calls.more_of (within_to HWX.out _))))); refine wpQuiet_nil ?_; rintro _ ⟨pq, rfl⟩)
                go_wp2
                go_returns
                refine ⟨?_, (hx0.trans hx).trans (ext_more _ _)⟩
                have h1 := hB.out HWX.out
                simp [domB, giveB, h1, show ¬ x.to = -1 by omega]
              · have HWX := hid hwx
                clear hwx
                go_wp2_with fail
                ((first | refine wp_region_more (by kernel_rfl) (by kernel_rfl) ?_ | refine wp_region_ext (by kernel_rfl) (by kernel_rfl) ?_); (try dsimp only [append_cons', append_nil']); (repeat (go_big_quiet_step ((go_at_call 19; refine Calls.more_of (within_to HWX.out _))))); refine wpQuiet_nil ?_; rintro _ ⟨pq, rfl⟩)
                go_wp2
                go_roundw
                case rel => exact ⟨hx.trans (ext_more _ _), k + 1, by go_num, by omega, by unfold Hid; rw [hA.out]; exact HWX.out⟩
                case measure => simp [intOf]; omega
            · obtain rfl : k = x.release.length := by omega
              have h2 := ht.out
              rw [List.take_length] at h2
              have H2 := hid h2
              clear h2
              obtain ⟨_, _, hpp, _, _, ⟨y0, y1, _⟩, _⟩ := HC.out.doms.at x.to.toNat (by omega)
              cases hpp
              have hlab : Hid (labAt c.doms x.to = (c.doms[x.to.toNat].level, c.doms[x.to.toNat].cats)) := by
                have : x.to.toNat < c.doms.length := by omega
                simp [Hid, labAt, List.getElem?_eq_getElem this, Dom.lab]
              generalize c.doms[x.to.toNat] = y at *
              have z0 := (hx0.trans hx).cell y0
              have z1 := (hx0.trans hx).cell y1
              have hzb : db < wr.heap.size := World.block_lt_of_cell? _ _ z0
              have hqb : w.heap.size + 1 < wr.heap.size := World.block_lt_of_cell? _ _ q0
              have hqc : w.heap.size < wr.heap.size := by omega
              have hne : Hid (¬ x.to = -1) := by unfold Hid; omega
              cases hw1 : withB x.release.length 1 4 <;> cases hl1 : leqB y.level y.cats x.level x.cats <;> cases hq1 : eqB y.level y.cats x.level x.cats
              all_goals
                have HW1 := hid hw1
                have HL1 := hid hl1
                clear hw1 hl1
                go_wp2_with (first
                  | (go_at_call 19; refine (within_to HW1.out _).yields ?_; intro p1)
                  | (go_at_call 30; refine (rleq_to HL1.out _).yields ?_; intro p2))
                go_returns
                refine ⟨?_, ext_by⟩
                have h0 : withB x.to 0 ((c.doms.length : Int) - 1) = true := withB_iff.2 ⟨ht0, by omega⟩
                simp [domB, giveB, hne.out, H1.out, H2.out, e1, HW1.out, hlab.out, HL1.out, hq1, h0, e4']

theorem routes_any (w : World) (c : Cnf) (pv dv : Value) (hc : ConfV w c pv dv) (i : Nat) (hi : i < c.doms.length) (hr : ∀ r ∈ c.doms[i].routes, r.length ≤ 300) :
    Calls Try.prog 22 #[confV c pv dv, .int .i64 i] w (Yields w (.bool (domB c i c.doms[i]))) := by
  cases he : earlyB c.doms.length i c.doms[i]
  · exact routes_early w c pv dv hc i hi he
  · exact routes_late w c pv dv hc i hi he hr
end Go.Proofs.Ytbnjfahjbemleaa

namespace Go.Proofs.Ytbnjfahjbemleaa
open Go.RowKit

theorem ris_to {a b : Int} {r : Bool} (e : isB a = r) (w : World) : Calls Try.prog 20 #[.agg #[.int .i64 a, .int .u64 b]] w (Yields w (.bool r)) := e ▸ ris_any a b w
theorem shares_to {c : Cnf} {r : Bool} (e : sharesB c = r) (w : World) (pv dv : Value) (h : ConfV w c pv dv) : Calls Try.prog 21 #[confV c pv dv] w (Yields w (.bool r)) := e ▸ shares_any w c pv dv h
theorem routes_to {c : Cnf} {i : Nat} (hi : i < c.doms.length) {r : Bool} (e : domB c i c.doms[i] = r) (w : World) (pv dv : Value) (h : ConfV w c pv dv) (hr : ∀ r ∈ c.doms[i].routes, r.length ≤ 300) :
    Calls Try.prog 22 #[confV c pv dv, .int .i64 i] w (Yields w (.bool r)) := e ▸ routes_any w c pv dv h i hi hr
theorem domsB_drop (c : Cnf) : ∀ (l : List Dom) (i : Nat), c.doms.drop i = l → domsB c i l = true ∨ ∃ k, ∃ hk : k < c.doms.length, i ≤ k ∧ domB c k c.doms[k] = false
  | [], _, _ => .inl rfl
  | d :: l, i, h => by
    have hi : i < c.doms.length := by
      rcases Nat.lt_or_ge i c.doms.length with h' | h'
      · exact h'
      · rw [List.drop_eq_nil_of_le h'] at h; cases h
    rw [List.drop_eq_getElem_cons hi] at h
    injection h with h1 h2
    subst h1
    cases hd : domB c i c.doms[i]
    · exact .inr ⟨i, hi, Nat.le_refl _, hd⟩
    · rcases domsB_drop c l (i + 1) h2 with h | ⟨k, hk, hik, hb⟩
      · exact .inl (by simp [domsB, hd, h])
      · exact .inr ⟨k, hk, by omega, hb⟩
theorem domsB_all (c : Cnf) : ∀ (l : List Dom) (i : Nat), c.doms.drop i = l → (∀ k (hk : k < c.doms.length), i ≤ k → domB c k c.doms[k] = true) → domsB c i l = true
  | l, i, h, ha => by
    rcases domsB_drop c l i h with h1 | ⟨k, hk, hik, hb⟩
    · exact h1
    · rw [ha k hk hik] at hb; cases hb
theorem domsB_bad (c : Cnf) : ∀ (l : List Dom) (i : Nat), c.doms.drop i = l → ∀ k (hk : k < c.doms.length), i ≤ k → domB c k c.doms[k] = false → domsB c i l = false
  | [], i, h, k, hk, hik, _ => by
    have := congrArg List.length h
    rw [List.length_drop] at this
    simp at this; omega
  | d :: l, i, h, k, hk, hik, hb => by
    have hi : i < c.doms.length := by omega
    rw [List.drop_eq_getElem_cons hi] at h
    injection h with h1 h2
    subst h1
    by_cases he : i = k
    · subst he; simp [domsB, hb]
    · simp [domsB, domsB_bad c l (i + 1) h2 k hk (by omega) hb]

set_option maxRecDepth 100000 in
set_option maxHeartbeats 8000000 in
theorem isConf_any (w : World) (c : Cnf) (pv dv : Value) (hc : ConfV w c pv dv) (hr : ∀ d ∈ c.doms, ∀ r ∈ d.routes, r.length ≤ 300) :
    Calls Try.prog 15 #[confV c pv dv] w (Yields w (.int .i64 (isConf c))) := by
  obtain ⟨pp, cp, rfl, hp1, hp2⟩ := hc.plans.shape
  obtain ⟨pd, cd, rfl, hd1, hd2⟩ := hc.doms.shape
  unfold maxLen at hp2 hd2
  have HC := hid hc
  have HR := hid hr
  clear hc hr
  go_enter Try.func15, Try.ntmps15
  cases hf1 : withB c.frame 1 64
  · have H1 := hid hf1
    clear hf1
    go_wp2_with (go_at_call 19; (with_reducible refine (within_to H1.out _).yields ?_); intro p1)
    go_returns
    exact ⟨by simp [isConf, formB, H1.out], ext_by⟩
  have H1 := hid hf1
  clear hf1
  cases hf2 : withB c.epoch 1 8
  · have H2 := hid hf2
    clear hf2
    go_wp2_with (first | (go_at_call 19; (with_reducible refine (within_to H1.out _).yields ?_); intro p1) | (go_at_call 19; (with_reducible refine (within_to H2.out _).yields ?_); intro p2))
    go_returns
    exact ⟨by simp [isConf, formB, H2.out], ext_by⟩
  have H2 := hid hf2
  clear hf2
  cases hf3 : withB c.doms.length 1 6
  · have H3 := hid hf3
    clear hf3
    go_wp2_with (first | (go_at_call 19; (with_reducible refine (within_to H1.out _).yields ?_); intro p1) | (go_at_call 19; (with_reducible refine (within_to H2.out _).yields ?_); intro p2) | (go_at_call 19; (with_reducible refine (within_to H3.out _).yields ?_); intro p3))
    go_returns
    exact ⟨by simp [isConf, formB, H3.out], ext_by⟩
  have H3 := hid hf3
  clear hf3
  go_wp2_with (first | (go_at_call 19; (with_reducible refine (within_to H1.out _).yields ?_); intro p1) | (go_at_call 19; (with_reducible refine (within_to H2.out _).yields ?_); intro p2) | (go_at_call 19; (with_reducible refine (within_to H3.out _).yields ?_); intro p3))
  have hbx := fun (w' : World) (h : Ext (w.alloc (.cells #[.int .i64 c.frame, .int .i64 c.epoch, .slice pp c.plans.length cp, .slice pd c.doms.length cd] 29 (0, 0))) w') =>
    And.intro (box_cells h 0 (by simp)) (And.intro (box_cells h 1 (by simp)) (And.intro (box_cells h 2 (by simp)) (box_cells h 3 (by simp))))
  have hx0 : Ext w (w.alloc (.cells #[.int .i64 c.frame, .int .i64 c.epoch, .slice pp c.plans.length cp, .slice pd c.doms.length cd] 29 (0, 0))) := Ext.alloc (Ext.refl _) _
  generalize w.alloc (.cells #[.int .i64 c.frame, .int .i64 c.epoch, .slice pp c.plans.length cp, .slice pd c.doms.length cd] 29 (0, 0)) = W1 at *
  simp only [List.getElem?_toArray, List.getElem?_cons_succ, List.getElem?_cons_zero] at hbx
  have HBX := hid hbx
  clear hbx
  go_loopw [4] (fun v4 wr => Ext W1 wr ∧ ∃ k : Nat, v4 = .int .i64 k ∧ k ≤ c.doms.length ∧ Hid ((c.doms.take k).all (fun d => isB d.level) = true)) (fun v4 _ => (c.doms.length - intOf v4).toNat)
  case atStart => exact ⟨(by repeat (first | exact Ext.refl _ | refine Ext.more ?_ _)), 0, rfl, by omega, rfl⟩
  case round =>
    obtain ⟨hx, k, rfl, hk, ht⟩ := hrel
    obtain ⟨b0, b1, b2, b3⟩ := HBX.out _ hx
    by_cases hlt : k < c.doms.length
    · obtain ⟨db, doff, rfl, vr, ve, ⟨d0, d1, _⟩, _⟩ := HC.out.doms.at k hlt
      have hgood := hid (fun (h : isB c.doms[k].level = true) => (all_take c.doms (fun d => isB d.level) k hlt ht.out).trans h)
      have hbad := hid (all_bad c.doms (fun d => isB d.level) k hlt)
      have f0 := (hx0.trans hx).cell d0
      have f1 := (hx0.trans hx).cell d1
      clear d0 d1
      generalize c.doms[k] = d at *
      have i1 : (k : Int) < c.doms.length := by omega
      cases hl : isB d.level
      · have HL := hid hl
        clear hl
        go_wp2_with (go_at_call 20; refine (ris_to HL.out _).yields ?_; intro p4)
        go_returns
        exact ⟨by simp [isConf, formB, hbad.out HL.out], (hx0.trans hx).more _⟩
      · have HL := hid hl
        clear hl
        go_wp2_with (go_at_call 20; refine (ris_to HL.out _).yields ?_; intro p4)
        go_roundw
        case rel => exact ⟨hx.more _, k + 1, by go_num, by omega, hid (hgood.out HL.out)⟩
        case measure => simp [intOf]; omega
    · obtain rfl : k = c.doms.length := by omega
      have HF : Hid (formB c = true) := by
        have h1 := ht.out
        rw [List.take_length] at h1
        simp [Hid, formB, H1.out, H2.out, H3.out, h1]
      clear ht
      have hsv := hid (HC.out.ext (hx0.trans hx))
      cases hs : sharesB c
      · have HSH := hid hs
        clear hs
        go_wp2_with (go_at_call 21; refine (shares_to HSH.out _ _ _ hsv.out).yields ?_; intro p4)
        go_returns
        exact ⟨by simp [isConf, HF.out, HSH.out], (hx0.trans hx).more _⟩
      · have HSH := hid hs
        clear hs
        go_wp2_with (go_at_call 21; refine (shares_to HSH.out _ _ _ hsv.out).yields ?_; intro p4)
        have hx' : Ext W1 (more wr p4) := hx.more _
        clear b0 b1 b2 b3 hsv hx
        go_loopw [5] (fun v5 wr => Ext W1 wr ∧ ∃ k : Nat, v5 = .int .i64 k ∧ k ≤ c.doms.length ∧ Hid ((c.doms.take k).all quotaB = true)) (fun v5 _ => (c.doms.length - intOf v5).toNat)
        case atStart => exact ⟨hx', 0, rfl, by omega, rfl⟩
        case round =>
          obtain ⟨hx, k, rfl, hk, ht⟩ := hrel
          obtain ⟨b0, b1, b2, b3⟩ := HBX.out _ hx
          by_cases hlt : k < c.doms.length
          · obtain ⟨db, doff, rfl, vr, ve, D, DR, DE, _⟩ := HC.out.doms.at k hlt
            obtain ⟨rp, rc, rfl, -, -⟩ := DR.shape
            obtain ⟨ep, ec, rfl, -, -⟩ := DE.shape
            clear DR DE
            have hgood := hid (fun (h : quotaB c.doms[k] = true) => (all_take c.doms quotaB k hlt ht.out).trans h)
            have hbad := hid (all_bad c.doms quotaB k hlt)
            obtain ⟨d0, d1, d2, d3, d4, d5, d6, d7, d8, d9⟩ := D.ext (hx0.trans hx)
            have hdb : db < wr.heap.size := World.block_lt_of_cell? _ _ d0
            clear D
            generalize c.doms[k] = d at *
            have i1 : (k : Int) < c.doms.length := by omega
            cases hq0 : withB d.threads 1 8
            · have Q0 := hid hq0
              clear hq0
              go_wp2_with (first | (go_at_call 19; (with_reducible refine (within_to Q0.out _).yields ?_); intro p0))
              go_returns
              refine ⟨?_, by repeat (first | exact hx0.trans hx | refine Ext.more ?_ _ | refine Ext.alloc ?_ _)⟩
              have h1 : quotaB d = false := by simp [quotaB, Q0.out]
              simp [isConf, HF.out, HSH.out, hbad.out h1]
            have Q0 := hid hq0
            clear hq0
            cases hq1 : withB d.groups 0 4
            · have Q1 := hid hq1
              clear hq1
              go_wp2_with (first | (go_at_call 19; (with_reducible refine (within_to Q0.out _).yields ?_); intro p0) | (go_at_call 19; (with_reducible refine (within_to Q1.out _).yields ?_); intro p1))
              go_returns
              refine ⟨?_, by repeat (first | exact hx0.trans hx | refine Ext.more ?_ _ | refine Ext.alloc ?_ _)⟩
              have h1 : quotaB d = false := by simp [quotaB, Q0.out, Q1.out]
              simp [isConf, HF.out, HSH.out, hbad.out h1]
            have Q1 := hid hq1
            clear hq1
            cases hq2 : withB d.ring 1 16
            · have Q2 := hid hq2
              clear hq2
              go_wp2_with (first | (go_at_call 19; (with_reducible refine (within_to Q0.out _).yields ?_); intro p0) | (go_at_call 19; (with_reducible refine (within_to Q1.out _).yields ?_); intro p1) | (go_at_call 19; (with_reducible refine (within_to Q2.out _).yields ?_); intro p2))
              go_returns
              refine ⟨?_, by repeat (first | exact hx0.trans hx | refine Ext.more ?_ _ | refine Ext.alloc ?_ _)⟩
              have h1 : quotaB d = false := by simp [quotaB, Q0.out, Q1.out, Q2.out]
              simp [isConf, HF.out, HSH.out, hbad.out h1]
            have Q2 := hid hq2
            clear hq2
            cases hq3 : withB d.sends 0 8
            · have Q3 := hid hq3
              clear hq3
              go_wp2_with (first | (go_at_call 19; (with_reducible refine (within_to Q0.out _).yields ?_); intro p0) | (go_at_call 19; (with_reducible refine (within_to Q1.out _).yields ?_); intro p1) | (go_at_call 19; (with_reducible refine (within_to Q2.out _).yields ?_); intro p2) | (go_at_call 19; (with_reducible refine (within_to Q3.out _).yields ?_); intro p3))
              go_returns
              refine ⟨?_, by repeat (first | exact hx0.trans hx | refine Ext.more ?_ _ | refine Ext.alloc ?_ _)⟩
              have h1 : quotaB d = false := by simp [quotaB, Q0.out, Q1.out, Q2.out, Q3.out]
              simp [isConf, HF.out, HSH.out, hbad.out h1]
            have Q3 := hid hq3
            clear hq3
            cases hq4 : withB d.box 1 8
            · have Q4 := hid hq4
              clear hq4
              go_wp2_with (first | (go_at_call 19; (with_reducible refine (within_to Q0.out _).yields ?_); intro p0) | (go_at_call 19; (with_reducible refine (within_to Q1.out _).yields ?_); intro p1) | (go_at_call 19; (with_reducible refine (within_to Q2.out _).yields ?_); intro p2) | (go_at_call 19; (with_reducible refine (within_to Q3.out _).yields ?_); intro p3) | (go_at_call 19; (with_reducible refine (within_to Q4.out _).yields ?_); intro p4))
              go_returns
              refine ⟨?_, by repeat (first | exact hx0.trans hx | refine Ext.more ?_ _ | refine Ext.alloc ?_ _)⟩
              have h1 : quotaB d = false := by simp [quotaB, Q0.out, Q1.out, Q2.out, Q3.out, Q4.out]
              simp [isConf, HF.out, HSH.out, hbad.out h1]
            have Q4 := hid hq4
            clear hq4
            go_wp2_with (first | (go_at_call 19; (with_reducible refine (within_to Q0.out _).yields ?_); intro p0) | (go_at_call 19; (with_reducible refine (within_to Q1.out _).yields ?_); intro p1) | (go_at_call 19; (with_reducible refine (within_to Q2.out _).yields ?_); intro p2) | (go_at_call 19; (with_reducible refine (within_to Q3.out _).yields ?_); intro p3) | (go_at_call 19; (with_reducible refine (within_to Q4.out _).yields ?_); intro p4))
            go_roundw
            case rel => exact ⟨by repeat (first | exact hx | refine Ext.more ?_ _ | refine Ext.alloc ?_ _), k + 1, by go_num, by omega, hid (hgood.out (by simp [quotaB, Q0.out, Q1.out, Q2.out, Q3.out, Q4.out]))⟩
            case measure => simp [intOf]; omega
          · obtain rfl : k = c.doms.length := by omega
            have HQ : Hid (c.doms.all quotaB = true) := by
              have h1 := ht.out
              rwa [List.take_length] at h1
            clear ht
            go_wp2_with fail
            go_loopw [7] (fun v7 wr => Ext W1 wr ∧ ∃ k : Nat, v7 = .int .i64 k ∧ k ≤ c.doms.length ∧ Hid (∀ j (hj : j < c.doms.length), j < k → domB c j c.doms[j] = true)) (fun v7 _ => (c.doms.length - intOf v7).toNat)
            case atStart => exact ⟨hx, 0, rfl, by omega, fun j hj h => by omega⟩
            case round =>
              obtain ⟨hx, k, rfl, hk, ht⟩ := hrel
              obtain ⟨b0, b1, b2, b3⟩ := HBX.out _ hx
              by_cases hlt : k < c.doms.length
              · have hsv := hid (HC.out.ext (hx0.trans hx))
                have hrr := hid (HR.out _ (List.getElem_mem hlt))
                cases hdb : domB c k c.doms[k]
                · have HD := hid hdb
                  clear hdb
                  have i1 : (k : Int) < c.doms.length := by omega
                  go_wp2_with (go_at_call 22; refine (routes_to hlt HD.out _ _ _ hsv.out hrr.out).yields ?_; intro p5)
                  go_returns
                  refine ⟨?_, (hx0.trans hx).more _⟩
                  have h1 := domsB_bad c c.doms 0 rfl k hlt (Nat.zero_le _) HD.out
                  simp [isConf, HF.out, HSH.out, HQ.out, h1]
                · have HD := hid hdb
                  clear hdb
                  have i1 : (k : Int) < c.doms.length := by omega
                  go_wp2_with (go_at_call 22; refine (routes_to hlt HD.out _ _ _ hsv.out hrr.out).yields ?_; intro p5)
                  go_roundw
                  case rel => exact ⟨hx.more _, k + 1, by go_num, by omega, fun j hj h => by
                    by_cases he : j = k
                    · subst he; exact HD.out
                    · exact ht.out j hj (by omega)⟩
                  case measure => simp [intOf]; omega
              · obtain rfl : k = c.doms.length := by omega
                go_wp2
                go_returns
                refine ⟨?_, hx0.trans hx⟩
                have h1 := domsB_all c c.doms 0 rfl (fun j hj _ => ht.out j hj hj)
                simp [isConf, HF.out, HSH.out, HQ.out, h1]
end Go.Proofs.Ytbnjfahjbemleaa

namespace Go.Proofs.Ytbnjfahjbemleaa
open Go.RowKit

theorem isConf_0 {c : Cnf} (h : isConf c = 0) : formB c = true ∧ sharesB c = true ∧ c.doms.all quotaB = true ∧ domsB c 0 c.doms = true := by
  unfold isConf at h
  cases h1 : formB c <;> cases h2 : sharesB c <;> cases h3 : c.doms.all quotaB <;> cases h4 : domsB c 0 c.doms <;> simp [h1, h2, h3, h4] at h ⊢
theorem isConf_small {c : Cnf} (h : isConf c = 0) : 1 ≤ c.frame ∧ c.frame ≤ 64 ∧ 1 ≤ c.epoch ∧ c.epoch ≤ 8 := by
  have := (isConf_0 h).1
  simp only [formB, Bool.and_eq_true, withB_iff] at this
  omega
theorem isConf_to {c : Cnf} {n : Nat} (e : isConf c = n) (w : World) (pv dv : Value) (hc : ConfV w c pv dv) (hr : ∀ d ∈ c.doms, ∀ r ∈ d.routes, r.length ≤ 300) :
    Calls Try.prog 15 #[confV c pv dv] w (Yields w (.int .i64 n)) := e ▸ isConf_any w c pv dv hc hr

end Go.Proofs.Ytbnjfahjbemleaa
