/- The document's own SameStream, SameArrivals, stream, as walks. -/
import Derived.Test.YtmpgeabfogcblaaGreatRefConf2
import Derived.Test.YtmpgeabfogcblaaGreatScr
import Derived.Test.YtmpgeabfogcblaaGreatEqS
namespace Go.Proofs.YtmpgeabfogcblaaGreat
open Go.RowKit

set_option maxRecDepth 100000 in
set_option maxHeartbeats 1000000 in
theorem sameStream_any (w : World) (va vb : Value) (la lb : List Axn) (ha : AxnsV w va la) (hb : AxnsV w vb lb) :
    Calls Tryz.prog 22 #[va, vb] w (Yields w (.bool (decide (la = lb)))) := by
  obtain ⟨pa, ca, rfl, hca, hma⟩ := ha.shape
  obtain ⟨pb, cb, rfl, hcb, hmb⟩ := hb.shape
  unfold maxLen at hma hmb
  have HA := hid ha
  have HB := hid hb
  clear ha hb
  by_cases hl : la.length = lb.length
  · have l1 : (la.length : Int) ≤ lb.length := by omega
    have l2 : (lb.length : Int) ≤ la.length := by omega
    have l3 : ((la.length : Int) == (lb.length : Int)) = true := by simp; omega
    have HL := hid hl
    clear hl
    go_enter Tryz.func22, Tryz.ntmps22
    go_wp2
    go_loopw [5] (fun v5 wr => Ext w wr ∧ ∃ k : Nat, v5 = .int .i64 k ∧ k ≤ la.length ∧ Hid (la.take k = lb.take k)) (fun v5 _ => (la.length - intOf v5).toNat)
    case atStart => exact ⟨Ext.refl _, 0, rfl, by omega, rfl⟩
    case round =>
      obtain ⟨hx, k, rfl, hk, ht⟩ := hrel
      by_cases hlt : k < la.length
      · obtain ⟨ba, oa, rfl, a0, a1, a2⟩ := HA.out.at k hlt
        obtain ⟨bb, ob, rfl, b0, b1, b2⟩ := HB.out.at k (by have := HL.out; omega)
        have m0 := more_cell (hx.cell a0)
        have m1 := more_cell (hx.cell a1)
        have m2 := more_cell (hx.cell a2)
        have m3 := more_cell (hx.cell b0)
        have m4 := more_cell (hx.cell b1)
        have m5 := more_cell (hx.cell b2)
        have hs : Hid (la[k] = lb[k]'(by have := HL.out; omega) → la.take (k + 1) = lb.take (k + 1)) := fun h => by
          rw [List.take_succ_eq_append_getElem hlt, List.take_succ_eq_append_getElem (by have := HL.out; omega), ht.out, h]
        have hn : Hid (la[k] ≠ lb[k]'(by have := HL.out; omega) → la ≠ lb) := fun h e => h (by subst e; rfl)
        clear a0 b0 a1 a2 b1 b2
        generalize la[k] = x at *
        generalize lb[k]'(by have := HL.out; omega) = y at *
        have i1 : (k : Int) < la.length := by omega
        have i2 : (k : Int) < lb.length := by omega
        by_cases he : x = y
        · have hsx := hs.out he
          have hb : eq3 x.op x.a x.b y.op y.a y.b = true := by rw [eq3_axn]; simpa using he
          clear hs hn he
          go_wp2
          ((first | refine wp_region_more (by kernel_rfl) (by kernel_rfl) ?_ | refine wp_region_ext (by kernel_rfl) (by kernel_rfl) ?_); (try dsimp only [append_cons', append_nil']); (repeat (go_big_quiet_step ((fail)))); refine wpQuiet_nil ?_; rintro _ ⟨pq, rfl⟩)
          go_wp2
          go_roundw
          case rel => exact ⟨hx.trans (ext_more _ _), k + 1, by go_num, by omega, hid hsx⟩
          case measure => simp [intOf]; omega
        · have hb : eq3 x.op x.a x.b y.op y.a y.b = false := by rw [eq3_axn]; simpa using he
          have hne := hid (hn.out he)
          clear hs hn he
          go_wp2
          ((first | refine wp_region_more (by kernel_rfl) (by kernel_rfl) ?_ | refine wp_region_ext (by kernel_rfl) (by kernel_rfl) ?_); (try dsimp only [append_cons', append_nil']); (repeat (go_big_quiet_step ((fail)))); refine wpQuiet_nil ?_; rintro _ ⟨pq, rfl⟩)
          go_wp2
          go_returns
          exact ⟨by simp [hne.out], hx.trans (ext_more _ _)⟩
      · obtain rfl : k = la.length := by omega
        have he := ht.out
        rw [List.take_length, HL.out, List.take_length] at he
        have HE := hid he
        clear he
        go_wp2
        go_returns
        exact ⟨by simp [HE.out], hx⟩
  · have hne : la ≠ lb := fun h => hl (by rw [h])
    have hl' : ((la.length : Int) == (lb.length : Int)) = false := by simp; omega
    go_enter Tryz.func22, Tryz.ntmps22
    go_wp2
    go_returns
    exact ⟨by simp [hne], (by repeat (first | exact Ext.refl _ | assumption | refine Ext.more ?_ _ | refine Ext.drew ?_ | refine Ext.drewN ?_ _ | refine Ext.alloc ?_ _ | refine Ext.setCell ?_ (by simp; try omega) _ | refine Ext.trans ?_ (by assumption)))⟩
theorem sameStream_to {la lb : List Axn} {r : Bool} (e : decide (la = lb) = r) (w : World) (va vb : Value) (ha : AxnsV w va la) (hb : AxnsV w vb lb) :
    Calls Tryz.prog 22 #[va, vb] w (Yields w (.bool r)) := e ▸ sameStream_any w va vb la lb ha hb

set_option maxRecDepth 100000 in
set_option maxHeartbeats 1000000 in
theorem sameArr_any (w : World) (va vb : Value) (la lb : List Arv) (ha : ArvsV w va la) (hb : ArvsV w vb lb) :
    Calls Tryz.prog 23 #[va, vb] w (Yields w (.bool (decide (la = lb)))) := by
  obtain ⟨pa, ca, rfl, hca, hma⟩ := ha.shape
  obtain ⟨pb, cb, rfl, hcb, hmb⟩ := hb.shape
  unfold maxLen at hma hmb
  have HA := hid ha
  have HB := hid hb
  clear ha hb
  by_cases hl : la.length = lb.length
  · have l1 : (la.length : Int) ≤ lb.length := by omega
    have l2 : (lb.length : Int) ≤ la.length := by omega
    have l3 : ((la.length : Int) == (lb.length : Int)) = true := by simp; omega
    have HL := hid hl
    clear hl
    go_enter Tryz.func23, Tryz.ntmps23
    go_wp2
    go_loopw [5] (fun v5 wr => Ext w wr ∧ ∃ k : Nat, v5 = .int .i64 k ∧ k ≤ la.length ∧ Hid (la.take k = lb.take k)) (fun v5 _ => (la.length - intOf v5).toNat)
    case atStart => exact ⟨Ext.refl _, 0, rfl, by omega, rfl⟩
    case round =>
      obtain ⟨hx, k, rfl, hk, ht⟩ := hrel
      by_cases hlt : k < la.length
      · obtain ⟨ba, oa, rfl, a0, a1⟩ := HA.out.at k hlt
        obtain ⟨bb, ob, rfl, b0, b1⟩ := HB.out.at k (by have := HL.out; omega)
        have m0 := more_cell (hx.cell a0)
        have m1 := more_cell (hx.cell a1)
        have m3 := more_cell (hx.cell b0)
        have m4 := more_cell (hx.cell b1)
        have hs : Hid (la[k] = lb[k]'(by have := HL.out; omega) → la.take (k + 1) = lb.take (k + 1)) := fun h => by
          rw [List.take_succ_eq_append_getElem hlt, List.take_succ_eq_append_getElem (by have := HL.out; omega), ht.out, h]
        have hn : Hid (la[k] ≠ lb[k]'(by have := HL.out; omega) → la ≠ lb) := fun h e => h (by subst e; rfl)
        clear a0 b0 a1 b1
        generalize la[k] = x at *
        generalize lb[k]'(by have := HL.out; omega) = y at *
        have i1 : (k : Int) < la.length := by omega
        have i2 : (k : Int) < lb.length := by omega
        by_cases he : x = y
        · have hsx := hs.out he
          have hb : eq2 x.tick x.obj y.tick y.obj = true := by rw [eq2_arv]; simpa using he
          clear hs hn he
          go_wp2
          ((first | refine wp_region_more (by kernel_rfl) (by kernel_rfl) ?_ | refine wp_region_ext (by kernel_rfl) (by kernel_rfl) ?_); (try dsimp only [append_cons', append_nil']); (repeat (go_big_quiet_step ((fail)))); refine wpQuiet_nil ?_; rintro _ ⟨pq, rfl⟩)
          go_wp2
          go_roundw
          case rel => exact ⟨hx.trans (ext_more _ _), k + 1, by go_num, by omega, hid hsx⟩
          case measure => simp [intOf]; omega
        · have hb : eq2 x.tick x.obj y.tick y.obj = false := by rw [eq2_arv]; simpa using he
          have hne := hid (hn.out he)
          clear hs hn he
          go_wp2
          ((first | refine wp_region_more (by kernel_rfl) (by kernel_rfl) ?_ | refine wp_region_ext (by kernel_rfl) (by kernel_rfl) ?_); (try dsimp only [append_cons', append_nil']); (repeat (go_big_quiet_step ((fail)))); refine wpQuiet_nil ?_; rintro _ ⟨pq, rfl⟩)
          go_wp2
          go_returns
          exact ⟨by simp [hne.out], hx.trans (ext_more _ _)⟩
      · obtain rfl : k = la.length := by omega
        have he := ht.out
        rw [List.take_length, HL.out, List.take_length] at he
        have HE := hid he
        clear he
        go_wp2
        go_returns
        exact ⟨by simp [HE.out], hx⟩
  · have hne : la ≠ lb := fun h => hl (by rw [h])
    have hl' : ((la.length : Int) == (lb.length : Int)) = false := by simp; omega
    go_enter Tryz.func23, Tryz.ntmps23
    go_wp2
    go_returns
    exact ⟨by simp [hne], (by repeat (first | exact Ext.refl _ | assumption | refine Ext.more ?_ _ | refine Ext.drew ?_ | refine Ext.drewN ?_ _ | refine Ext.alloc ?_ _ | refine Ext.setCell ?_ (by simp; try omega) _ | refine Ext.trans ?_ (by assumption)))⟩
theorem sameArr_to {la lb : List Arv} {r : Bool} (e : decide (la = lb) = r) (w : World) (va vb : Value) (ha : ArvsV w va la) (hb : ArvsV w vb lb) :
    Calls Tryz.prog 23 #[va, vb] w (Yields w (.bool r)) := e ▸ sameArr_any w va vb la lb ha hb
end Go.Proofs.YtmpgeabfogcblaaGreat
