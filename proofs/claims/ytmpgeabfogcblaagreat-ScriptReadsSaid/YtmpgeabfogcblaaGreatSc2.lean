/- What script.Same comes to. -/
import Derived.Test.YtmpgeabfogcblaaGreatCf5
import Derived.Test.YtmpgeabfogcblaaGreatEqS
namespace Go.Proofs.YtmpgeabfogcblaaGreat
open Go.RowKit

set_option maxRecDepth 100000 in
set_option maxHeartbeats 1000000 in
theorem sEqA_any (w : World) (va vb : Value) (la lb : List Axn) (ha : AxnsV w va la) (hb : AxnsV w vb lb) :
    Calls Tryz.prog 70 #[va, vb] w (Yields w (.bool (decide (la = lb)))) := by
  obtain ⟨pa, ca, rfl, hca, hma⟩ := ha.shape
  obtain ⟨pb, cb, rfl, hcb, hmb⟩ := hb.shape
  unfold maxLen at hma hmb
  have HA := hid ha
  have HB := hid hb
  clear ha hb
  by_cases hl : la.length = lb.length
  · have l1 : (la.length : Int) ≤ lb.length := by omega
    have l2 : (lb.length : Int) ≤ la.length := by omega
    have l3 : ((la.length : Int) == (lb.length : Int)) = true := by simp; omega
    have l4 : ((la.length : Int) != (lb.length : Int)) = false := by simp; omega
    have HL := hid hl
    clear hl
    go_enter Tryz.func70, Tryz.ntmps70
    go_wp2
    go_loopw [13] (fun v5 wr => Ext w wr ∧ ∃ k : Nat, v5 = .int .i64 k ∧ k ≤ la.length ∧ Hid (la.take k = lb.take k)) (fun v5 _ => (la.length - intOf v5).toNat)
    case atStart => exact ⟨Ext.refl _, 0, rfl, by omega, rfl⟩
    case round =>
      obtain ⟨hx, k, rfl, hk, ht⟩ := hrel
      by_cases hlt : k < la.length
      · obtain ⟨ba, oa, rfl, a0, a1, a2⟩ := HA.out.at k hlt
        obtain ⟨bb, ob, rfl, b0, b1, b2⟩ := HB.out.at k (by have := HL.out; omega)
        have m0 := more_cell (hx.cell a0)
        have m3 := more_cell (hx.cell b0)
        have m1 := more_cell (hx.cell a1)
        have m4 := more_cell (hx.cell b1)
        have m2 := more_cell (hx.cell a2)
        have m5 := more_cell (hx.cell b2)
        have hs : Hid (la[k] = lb[k]'(by have := HL.out; omega) → la.take (k + 1) = lb.take (k + 1)) := fun h => by
          rw [List.take_succ_eq_append_getElem hlt, List.take_succ_eq_append_getElem (by have := HL.out; omega), ht.out, h]
        have hn : Hid (la[k] ≠ lb[k]'(by have := HL.out; omega) → la ≠ lb) := fun h e => h (by subst e; rfl)
        clear a0 b0 a1 b1 a2 b2
        generalize la[k] = x at *
        generalize lb[k]'(by have := HL.out; omega) = y at *
        have i1 : (k : Int) < la.length := by omega
        have i2 : (k : Int) < lb.length := by omega
        by_cases he : x = y
        · have hsx := hs.out he
          have hb : eq3 x.op x.a x.b y.op y.a y.b = true := by rw [eq3_axn]; simpa using he
          clear hs hn he
          go_wp2
          ((first | refine wp_region_more (by kernel_rfl) (by kernel_rfl) ?_ | refine wp_region_ext (by kernel_rfl) (by kernel_rfl) ?_); (try dsimp only [append_cons', append_nil']); (repeat (go_big_quiet_step ((fail)))); refine wpQuiet_nil ?_; rintro _ ⟨pq, rfl⟩)
          go_wp2
          go_roundw
          case rel => exact ⟨hx.trans (ext_more _ _), k + 1, by go_num, by omega, hid hsx⟩
          case measure => simp [intOf]; omega
        · have hb : eq3 x.op x.a x.b y.op y.a y.b = false := by rw [eq3_axn]; simpa using he
          have hne := hid (hn.out he)
          clear hs hn he
          go_wp2
          ((first | refine wp_region_more (by kernel_rfl) (by kernel_rfl) ?_ | refine wp_region_ext (by kernel_rfl) (by kernel_rfl) ?_); (try dsimp only [append_cons', append_nil']); (repeat (go_big_quiet_step ((fail)))); refine wpQuiet_nil ?_; rintro _ ⟨pq, rfl⟩)
          go_wp2
          go_returns
          exact ⟨by simp [hne.out], hx.trans (ext_more _ _)⟩
      · obtain rfl : k = la.length := by omega
        have he := ht.out
        rw [List.take_length, HL.out, List.take_length] at he
        have HE := hid he
        clear he
        go_wp2
        go_returns
        exact ⟨by simp [HE.out], hx⟩
  · have hne : la ≠ lb := fun h => hl (by rw [h])
    have hl' : ((la.length : Int) == (lb.length : Int)) = false := by simp; omega
    have hl'' : ((la.length : Int) != (lb.length : Int)) = true := by simp; omega
    go_enter Tryz.func70, Tryz.ntmps70
    go_wp2
    go_returns
    exact ⟨by simp [hne], (by repeat (first | exact Ext.refl _ | assumption | refine Ext.more ?_ _ | refine Ext.drew ?_ | refine Ext.drewN ?_ _ | refine Ext.alloc ?_ _ | refine Ext.setCell ?_ (by simp; try omega) _ | refine Ext.trans ?_ (by assumption)))⟩
theorem sEqA_to {la lb : List Axn} {r : Bool} (e : decide (la = lb) = r) (w : World) (va vb : Value) (ha : AxnsV w va la) (hb : AxnsV w vb lb) :
    Calls Tryz.prog 70 #[va, vb] w (Yields w (.bool r)) := e ▸ sEqA_any w va vb la lb ha hb

set_option maxRecDepth 100000 in
set_option maxHeartbeats 1000000 in
theorem sEqB_any (w : World) (va vb : Value) (la lb : List Arv) (ha : ArvsV w va la) (hb : ArvsV w vb lb) :
    Calls Tryz.prog 72 #[va, vb] w (Yields w (.bool (decide (la = lb)))) := by
  obtain ⟨pa, ca, rfl, hca, hma⟩ := ha.shape
  obtain ⟨pb, cb, rfl, hcb, hmb⟩ := hb.shape
  unfold maxLen at hma hmb
  have HA := hid ha
  have HB := hid hb
  clear ha hb
  by_cases hl : la.length = lb.length
  · have l1 : (la.length : Int) ≤ lb.length := by omega
    have l2 : (lb.length : Int) ≤ la.length := by omega
    have l3 : ((la.length : Int) == (lb.length : Int)) = true := by simp; omega
    have l4 : ((la.length : Int) != (lb.length : Int)) = false := by simp; omega
    have HL := hid hl
    clear hl
    go_enter Tryz.func72, Tryz.ntmps72
    go_wp2
    go_loopw [13] (fun v5 wr => Ext w wr ∧ ∃ k : Nat, v5 = .int .i64 k ∧ k ≤ la.length ∧ Hid (la.take k = lb.take k)) (fun v5 _ => (la.length - intOf v5).toNat)
    case atStart => exact ⟨Ext.refl _, 0, rfl, by omega, rfl⟩
    case round =>
      obtain ⟨hx, k, rfl, hk, ht⟩ := hrel
      by_cases hlt : k < la.length
      · obtain ⟨ba, oa, rfl, a0, a1⟩ := HA.out.at k hlt
        obtain ⟨bb, ob, rfl, b0, b1⟩ := HB.out.at k (by have := HL.out; omega)
        have m0 := more_cell (hx.cell a0)
        have m2 := more_cell (hx.cell b0)
        have m1 := more_cell (hx.cell a1)
        have m3 := more_cell (hx.cell b1)
        have hs : Hid (la[k] = lb[k]'(by have := HL.out; omega) → la.take (k + 1) = lb.take (k + 1)) := fun h => by
          rw [List.take_succ_eq_append_getElem hlt, List.take_succ_eq_append_getElem (by have := HL.out; omega), ht.out, h]
        have hn : Hid (la[k] ≠ lb[k]'(by have := HL.out; omega) → la ≠ lb) := fun h e => h (by subst e; rfl)
        clear a0 b0 a1 b1
        generalize la[k] = x at *
        generalize lb[k]'(by have := HL.out; omega) = y at *
        have i1 : (k : Int) < la.length := by omega
        have i2 : (k : Int) < lb.length := by omega
        by_cases he : x = y
        · have hsx := hs.out he
          have hb : eq2 x.tick x.obj y.tick y.obj = true := by rw [eq2_arv]; simpa using he
          clear hs hn he
          go_wp2
          ((first | refine wp_region_more (by kernel_rfl) (by kernel_rfl) ?_ | refine wp_region_ext (by kernel_rfl) (by kernel_rfl) ?_); (try dsimp only [append_cons', append_nil']); (repeat (go_big_quiet_step ((fail)))); refine wpQuiet_nil ?_; rintro _ ⟨pq, rfl⟩)
          go_wp2
          go_roundw
          case rel => exact ⟨hx.trans (ext_more _ _), k + 1, by go_num, by omega, hid hsx⟩
          case measure => simp [intOf]; omega
        · have hb : eq2 x.tick x.obj y.tick y.obj = false := by rw [eq2_arv]; simpa using he
          have hne := hid (hn.out he)
          clear hs hn he
          go_wp2
          ((first | refine wp_region_more (by kernel_rfl) (by kernel_rfl) ?_ | refine wp_region_ext (by kernel_rfl) (by kernel_rfl) ?_); (try dsimp only [append_cons', append_nil']); (repeat (go_big_quiet_step ((fail)))); refine wpQuiet_nil ?_; rintro _ ⟨pq, rfl⟩)
          go_wp2
          go_returns
          exact ⟨by simp [hne.out], hx.trans (ext_more _ _)⟩
      · obtain rfl : k = la.length := by omega
        have he := ht.out
        rw [List.take_length, HL.out, List.take_length] at he
        have HE := hid he
        clear he
        go_wp2
        go_returns
        exact ⟨by simp [HE.out], hx⟩
  · have hne : la ≠ lb := fun h => hl (by rw [h])
    have hl' : ((la.length : Int) == (lb.length : Int)) = false := by simp; omega
    have hl'' : ((la.length : Int) != (lb.length : Int)) = true := by simp; omega
    go_enter Tryz.func72, Tryz.ntmps72
    go_wp2
    go_returns
    exact ⟨by simp [hne], (by repeat (first | exact Ext.refl _ | assumption | refine Ext.more ?_ _ | refine Ext.drew ?_ | refine Ext.drewN ?_ _ | refine Ext.alloc ?_ _ | refine Ext.setCell ?_ (by simp; try omega) _ | refine Ext.trans ?_ (by assumption)))⟩
theorem sEqB_to {la lb : List Arv} {r : Bool} (e : decide (la = lb) = r) (w : World) (va vb : Value) (ha : ArvsV w va la) (hb : ArvsV w vb lb) :
    Calls Tryz.prog 72 #[va, vb] w (Yields w (.bool r)) := e ▸ sEqB_any w va vb la lb ha hb

set_option maxRecDepth 100000 in
set_option maxHeartbeats 1000000 in
theorem eqRowA_any (w : World) (va vb : Value) (la lb : List (List Axn)) (ha : StreamsV w va la) (hb : StreamsV w vb lb) :
    Calls Tryz.prog 69 #[va, vb, .func (.func 70) #[] #[]] w (Yields w (.bool (decide (la = lb)))) := by
  obtain ⟨pa, ca, rfl, hca, hma⟩ := ha.shape
  obtain ⟨pb, cb, rfl, hcb, hmb⟩ := hb.shape
  unfold maxLen at hma hmb
  have HA := hid ha
  have HB := hid hb
  clear ha hb
  by_cases hl : la.length = lb.length
  · have l1 : (la.length : Int) ≤ lb.length := by omega
    have l2 : (lb.length : Int) ≤ la.length := by omega
    have l3 : ((la.length : Int) == (lb.length : Int)) = true := by simp; omega
    have l4 : ((la.length : Int) != (lb.length : Int)) = false := by simp; omega
    have HL := hid hl
    clear hl
    go_enter Tryz.func69, Tryz.ntmps69
    go_wp2
    go_loopw [17] (fun v5 wr => Ext w wr ∧ ∃ k : Nat, v5 = .int .i64 k ∧ k ≤ la.length ∧ Hid (la.take k = lb.take k)) (fun v5 _ => (la.length - intOf v5).toNat)
    case atStart => exact ⟨Ext.refl _, 0, rfl, by omega, rfl⟩
    case round =>
      obtain ⟨hx, k, rfl, hk, ht⟩ := hrel
      by_cases hlt : k < la.length
      · obtain ⟨ba, oa, rfl, ra, a0, na⟩ := HA.out.at k hlt
        obtain ⟨bb, ob, rfl, rb, b0, nb⟩ := HB.out.at k (by have := HL.out; omega)
        have m0 := hx.cell a0
        have m1 := hx.cell b0
        simp only [Nat.mul_one] at m0 m1
        have hs : Hid (la[k] = lb[k]'(by have := HL.out; omega) → la.take (k + 1) = lb.take (k + 1)) := fun h => by
          rw [List.take_succ_eq_append_getElem hlt, List.take_succ_eq_append_getElem (by have := HL.out; omega), ht.out, h]
        have hn : Hid (la[k] ≠ lb[k]'(by have := HL.out; omega) → la ≠ lb) := fun h e => h (by subst e; rfl)
        have ea := hid (na.ext hx)
        have eb := hid (nb.ext hx)
        clear a0 b0 na nb
        generalize la[k] = x at *
        generalize lb[k]'(by have := HL.out; omega) = y at *
        have i1 : (k : Int) < la.length := by omega
        have i2 : (k : Int) < lb.length := by omega
        by_cases he : x = y
        · have hsx := hs.out he
          have hd : Hid (decide (x = y) = true) := by simpa [Hid] using he
          clear hs he hn
          go_wp2_with (go_at_call 70; refine (sEqA_to hd.out _ _ _ ea.out eb.out).yields ?_; intro p1)
          go_roundw
          case rel => exact ⟨hx.more _, k + 1, by go_num, by omega, hid hsx⟩
          case measure => simp [intOf]; omega
        · have hd : Hid (decide (x = y) = false) := by simpa [Hid] using he
          have hne := hid (hn.out he)
          clear hn he hs
          go_wp2_with (go_at_call 70; refine (sEqA_to hd.out _ _ _ ea.out eb.out).yields ?_; intro p1)
          go_returns
          exact ⟨by simp [hne.out], hx.more _⟩
      · obtain rfl : k = la.length := by omega
        have he := ht.out
        rw [List.take_length, HL.out, List.take_length] at he
        have HE := hid he
        clear he
        go_wp2
        go_returns
        exact ⟨by simp [HE.out], hx⟩
  · have hne : la ≠ lb := fun h => hl (by rw [h])
    have hl' : ((la.length : Int) == (lb.length : Int)) = false := by simp; omega
    have hl'' : ((la.length : Int) != (lb.length : Int)) = true := by simp; omega
    go_enter Tryz.func69, Tryz.ntmps69
    go_wp2
    go_returns
    exact ⟨by simp [hne], (by repeat (first | exact Ext.refl _ | assumption | refine Ext.more ?_ _ | refine Ext.drew ?_ | refine Ext.drewN ?_ _ | refine Ext.alloc ?_ _ | refine Ext.setCell ?_ (by simp; try omega) _ | refine Ext.trans ?_ (by assumption)))⟩

set_option maxHeartbeats 1000000 in
theorem sRowA_any (w : World) (va vb : Value) (la lb : List (List Axn)) (ha : StreamsV w va la) (hb : StreamsV w vb lb) :
    Calls Tryz.prog 37 #[va, vb] w (Yields w (.bool (decide (la = lb)))) := by
  have HA := hid ha
  have HB := hid hb
  clear ha hb
  go_enter Tryz.func37, Tryz.ntmps37
  go_wp2_with fail
  refine (eqRowA_any _ _ _ _ _ HA.out HB.out).yields ?_
  intro p0
  go_wp2_with fail
  go_returns
  exact ⟨rfl, (by repeat (first | exact Ext.refl _ | assumption | refine Ext.more ?_ _ | refine Ext.drew ?_ | refine Ext.drewN ?_ _ | refine Ext.alloc ?_ _ | refine Ext.setCell ?_ (by simp; try omega) _ | refine Ext.trans ?_ (by assumption)))⟩
theorem sRowA_to {la lb : List (List Axn)} {r : Bool} (e : decide (la = lb) = r) (w : World) (va vb : Value) (ha : StreamsV w va la) (hb : StreamsV w vb lb) :
    Calls Tryz.prog 37 #[va, vb] w (Yields w (.bool r)) := e ▸ sRowA_any w va vb la lb ha hb
set_option maxRecDepth 100000 in
set_option maxHeartbeats 1000000 in
theorem eqRowB_any (w : World) (va vb : Value) (la lb : List (List Arv)) (ha : ArrsV w va la) (hb : ArrsV w vb lb) :
    Calls Tryz.prog 71 #[va, vb, .func (.func 72) #[] #[]] w (Yields w (.bool (decide (la = lb)))) := by
  obtain ⟨pa, ca, rfl, hca, hma⟩ := ha.shape
  obtain ⟨pb, cb, rfl, hcb, hmb⟩ := hb.shape
  unfold maxLen at hma hmb
  have HA := hid ha
  have HB := hid hb
  clear ha hb
  by_cases hl : la.length = lb.length
  · have l1 : (la.length : Int) ≤ lb.length := by omega
    have l2 : (lb.length : Int) ≤ la.length := by omega
    have l3 : ((la.length : Int) == (lb.length : Int)) = true := by simp; omega
    have l4 : ((la.length : Int) != (lb.length : Int)) = false := by simp; omega
    have HL := hid hl
    clear hl
    go_enter Tryz.func71, Tryz.ntmps71
    go_wp2
    go_loopw [17] (fun v5 wr => Ext w wr ∧ ∃ k : Nat, v5 = .int .i64 k ∧ k ≤ la.length ∧ Hid (la.take k = lb.take k)) (fun v5 _ => (la.length - intOf v5).toNat)
    case atStart => exact ⟨Ext.refl _, 0, rfl, by omega, rfl⟩
    case round =>
      obtain ⟨hx, k, rfl, hk, ht⟩ := hrel
      by_cases hlt : k < la.length
      · obtain ⟨ba, oa, rfl, ra, a0, na⟩ := HA.out.at k hlt
        obtain ⟨bb, ob, rfl, rb, b0, nb⟩ := HB.out.at k (by have := HL.out; omega)
        have m0 := hx.cell a0
        have m1 := hx.cell b0
        simp only [Nat.mul_one] at m0 m1
        have hs : Hid (la[k] = lb[k]'(by have := HL.out; omega) → la.take (k + 1) = lb.take (k + 1)) := fun h => by
          rw [List.take_succ_eq_append_getElem hlt, List.take_succ_eq_append_getElem (by have := HL.out; omega), ht.out, h]
        have hn : Hid (la[k] ≠ lb[k]'(by have := HL.out; omega) → la ≠ lb) := fun h e => h (by subst e; rfl)
        have ea := hid (na.ext hx)
        have eb := hid (nb.ext hx)
        clear a0 b0 na nb
        generalize la[k] = x at *
        generalize lb[k]'(by have := HL.out; omega) = y at *
        have i1 : (k : Int) < la.length := by omega
        have i2 : (k : Int) < lb.length := by omega
        by_cases he : x = y
        · have hsx := hs.out he
          have hd : Hid (decide (x = y) = true) := by simpa [Hid] using he
          clear hs he hn
          go_wp2_with (go_at_call 72; refine (sEqB_to hd.out _ _ _ ea.out eb.out).yields ?_; intro p1)
          go_roundw
          case rel => exact ⟨hx.more _, k + 1, by go_num, by omega, hid hsx⟩
          case measure => simp [intOf]; omega
        · have hd : Hid (decide (x = y) = false) := by simpa [Hid] using he
          have hne := hid (hn.out he)
          clear hn he hs
          go_wp2_with (go_at_call 72; refine (sEqB_to hd.out _ _ _ ea.out eb.out).yields ?_; intro p1)
          go_returns
          exact ⟨by simp [hne.out], hx.more _⟩
      · obtain rfl : k = la.length := by omega
        have he := ht.out
        rw [List.take_length, HL.out, List.take_length] at he
        have HE := hid he
        clear he
        go_wp2
        go_returns
        exact ⟨by simp [HE.out], hx⟩
  · have hne : la ≠ lb := fun h => hl (by rw [h])
    have hl' : ((la.length : Int) == (lb.length : Int)) = false := by simp; omega
    have hl'' : ((la.length : Int) != (lb.length : Int)) = true := by simp; omega
    go_enter Tryz.func71, Tryz.ntmps71
    go_wp2
    go_returns
    exact ⟨by simp [hne], (by repeat (first | exact Ext.refl _ | assumption | refine Ext.more ?_ _ | refine Ext.drew ?_ | refine Ext.drewN ?_ _ | refine Ext.alloc ?_ _ | refine Ext.setCell ?_ (by simp; try omega) _ | refine Ext.trans ?_ (by assumption)))⟩

set_option maxHeartbeats 1000000 in
theorem sRowB_any (w : World) (va vb : Value) (la lb : List (List Arv)) (ha : ArrsV w va la) (hb : ArrsV w vb lb) :
    Calls Tryz.prog 38 #[va, vb] w (Yields w (.bool (decide (la = lb)))) := by
  have HA := hid ha
  have HB := hid hb
  clear ha hb
  go_enter Tryz.func38, Tryz.ntmps38
  go_wp2_with fail
  refine (eqRowB_any _ _ _ _ _ HA.out HB.out).yields ?_
  intro p0
  go_wp2_with fail
  go_returns
  exact ⟨rfl, (by repeat (first | exact Ext.refl _ | assumption | refine Ext.more ?_ _ | refine Ext.drew ?_ | refine Ext.drewN ?_ _ | refine Ext.alloc ?_ _ | refine Ext.setCell ?_ (by simp; try omega) _ | refine Ext.trans ?_ (by assumption)))⟩
theorem sRowB_to {la lb : List (List Arv)} {r : Bool} (e : decide (la = lb) = r) (w : World) (va vb : Value) (ha : ArrsV w va la) (hb : ArrsV w vb lb) :
    Calls Tryz.prog 38 #[va, vb] w (Yields w (.bool r)) := e ▸ sRowB_any w va vb la lb ha hb

theorem andS (p q : Bool) : (if p = true then q else false) = (p && q) := by cases p <;> rfl
set_option maxRecDepth 100000 in
set_option maxHeartbeats 4000000 in
theorem scrSame_any (w : World) (a b : Scr) (pa da sa va pb db sb vb : Value) (ha : ScrV w a pa da sa va) (hb : ScrV w b pb db sb vb) :
    Calls Tryz.prog 12 #[scrV a pa da sa va, scrV b pb db sb vb] w (Yields w (.bool (sameS a b))) := by
  have HA := hid ha
  have HB := hid hb
  clear ha hb
  cases h0 : sameC a.conf b.conf
  · have Q0 := hid h0
    clear h0
    go_enter Tryz.func12, Tryz.ntmps12
    go_wp2_with (go_at_call 36; (with_reducible refine (confSame_to Q0.out _ _ _ _ _ (HA.out.conf.ext (by repeat (first | exact Ext.refl _ | assumption | refine Ext.more ?_ _ | refine Ext.drew ?_ | refine Ext.drewN ?_ _ | refine Ext.alloc ?_ _ | refine Ext.setCell ?_ (by simp; try omega) _ | refine Ext.trans ?_ (by assumption)))) (HB.out.conf.ext (by repeat (first | exact Ext.refl _ | assumption | refine Ext.more ?_ _ | refine Ext.drew ?_ | refine Ext.drewN ?_ _ | refine Ext.alloc ?_ _ | refine Ext.setCell ?_ (by simp; try omega) _ | refine Ext.trans ?_ (by assumption))))).yields ?_); intro p1)
    go_returns
    exact ⟨by simp [sameS, Q0.out], (by repeat (first | exact Ext.refl _ | assumption | refine Ext.more ?_ _ | refine Ext.drew ?_ | refine Ext.drewN ?_ _ | refine Ext.alloc ?_ _ | refine Ext.setCell ?_ (by simp; try omega) _ | refine Ext.trans ?_ (by assumption)))⟩
  have Q0 := hid h0
  clear h0
  cases h1 : a.horizon == b.horizon
  · have Q1 := hid h1
    go_enter Tryz.func12, Tryz.ntmps12
    go_wp2_with (go_at_call 36; (with_reducible refine (confSame_to Q0.out _ _ _ _ _ (HA.out.conf.ext (by repeat (first | exact Ext.refl _ | assumption | refine Ext.more ?_ _ | refine Ext.drew ?_ | refine Ext.drewN ?_ _ | refine Ext.alloc ?_ _ | refine Ext.setCell ?_ (by simp; try omega) _ | refine Ext.trans ?_ (by assumption)))) (HB.out.conf.ext (by repeat (first | exact Ext.refl _ | assumption | refine Ext.more ?_ _ | refine Ext.drew ?_ | refine Ext.drewN ?_ _ | refine Ext.alloc ?_ _ | refine Ext.setCell ?_ (by simp; try omega) _ | refine Ext.trans ?_ (by assumption))))).yields ?_); intro p1)
    go_returns
    exact ⟨by simp [sameS, Q1.out], (by repeat (first | exact Ext.refl _ | assumption | refine Ext.more ?_ _ | refine Ext.drew ?_ | refine Ext.drewN ?_ _ | refine Ext.alloc ?_ _ | refine Ext.setCell ?_ (by simp; try omega) _ | refine Ext.trans ?_ (by assumption)))⟩
  have Q1 := hid h1
  cases h2 : decide (a.streams = b.streams)
  · have Q2 := hid h2
    clear h2
    go_enter Tryz.func12, Tryz.ntmps12
    go_wp2_with (first | (go_at_call 36; (with_reducible refine (confSame_to Q0.out _ _ _ _ _ (HA.out.conf.ext (by repeat (first | exact Ext.refl _ | assumption | refine Ext.more ?_ _ | refine Ext.drew ?_ | refine Ext.drewN ?_ _ | refine Ext.alloc ?_ _ | refine Ext.setCell ?_ (by simp; try omega) _ | refine Ext.trans ?_ (by assumption)))) (HB.out.conf.ext (by repeat (first | exact Ext.refl _ | assumption | refine Ext.more ?_ _ | refine Ext.drew ?_ | refine Ext.drewN ?_ _ | refine Ext.alloc ?_ _ | refine Ext.setCell ?_ (by simp; try omega) _ | refine Ext.trans ?_ (by assumption))))).yields ?_); intro p1) | (go_at_call 37; (with_reducible refine (sRowA_to Q2.out _ _ _ (HA.out.streams.ext (by repeat (first | exact Ext.refl _ | assumption | refine Ext.more ?_ _ | refine Ext.drew ?_ | refine Ext.drewN ?_ _ | refine Ext.alloc ?_ _ | refine Ext.setCell ?_ (by simp; try omega) _ | refine Ext.trans ?_ (by assumption)))) (HB.out.streams.ext (by repeat (first | exact Ext.refl _ | assumption | refine Ext.more ?_ _ | refine Ext.drew ?_ | refine Ext.drewN ?_ _ | refine Ext.alloc ?_ _ | refine Ext.setCell ?_ (by simp; try omega) _ | refine Ext.trans ?_ (by assumption))))).yields ?_); intro p2))
    go_returns
    exact ⟨by simp [sameS, Q2.out], (by repeat (first | exact Ext.refl _ | assumption | refine Ext.more ?_ _ | refine Ext.drew ?_ | refine Ext.drewN ?_ _ | refine Ext.alloc ?_ _ | refine Ext.setCell ?_ (by simp; try omega) _ | refine Ext.trans ?_ (by assumption)))⟩
  have Q2 := hid h2
  clear h2
  cases h3 : decide (a.arrivals = b.arrivals)
  all_goals
    have Q3 := hid h3
    clear h3
    go_enter Tryz.func12, Tryz.ntmps12
    go_wp2_with (first | (go_at_call 36; (with_reducible refine (confSame_to Q0.out _ _ _ _ _ (HA.out.conf.ext (by repeat (first | exact Ext.refl _ | assumption | refine Ext.more ?_ _ | refine Ext.drew ?_ | refine Ext.drewN ?_ _ | refine Ext.alloc ?_ _ | refine Ext.setCell ?_ (by simp; try omega) _ | refine Ext.trans ?_ (by assumption)))) (HB.out.conf.ext (by repeat (first | exact Ext.refl _ | assumption | refine Ext.more ?_ _ | refine Ext.drew ?_ | refine Ext.drewN ?_ _ | refine Ext.alloc ?_ _ | refine Ext.setCell ?_ (by simp; try omega) _ | refine Ext.trans ?_ (by assumption))))).yields ?_); intro p1) | (go_at_call 37; (with_reducible refine (sRowA_to Q2.out _ _ _ (HA.out.streams.ext (by repeat (first | exact Ext.refl _ | assumption | refine Ext.more ?_ _ | refine Ext.drew ?_ | refine Ext.drewN ?_ _ | refine Ext.alloc ?_ _ | refine Ext.setCell ?_ (by simp; try omega) _ | refine Ext.trans ?_ (by assumption)))) (HB.out.streams.ext (by repeat (first | exact Ext.refl _ | assumption | refine Ext.more ?_ _ | refine Ext.drew ?_ | refine Ext.drewN ?_ _ | refine Ext.alloc ?_ _ | refine Ext.setCell ?_ (by simp; try omega) _ | refine Ext.trans ?_ (by assumption))))).yields ?_); intro p2) | (go_at_call 38; (with_reducible refine (sRowB_to Q3.out _ _ _ (HA.out.arrivals.ext (by repeat (first | exact Ext.refl _ | assumption | refine Ext.more ?_ _ | refine Ext.drew ?_ | refine Ext.drewN ?_ _ | refine Ext.alloc ?_ _ | refine Ext.setCell ?_ (by simp; try omega) _ | refine Ext.trans ?_ (by assumption)))) (HB.out.arrivals.ext (by repeat (first | exact Ext.refl _ | assumption | refine Ext.more ?_ _ | refine Ext.drew ?_ | refine Ext.drewN ?_ _ | refine Ext.alloc ?_ _ | refine Ext.setCell ?_ (by simp; try omega) _ | refine Ext.trans ?_ (by assumption))))).yields ?_); intro p3))
    go_returns
    exact ⟨by simp [sameS, Q0.out, Q1.out, Q2.out, Q3.out], (by repeat (first | exact Ext.refl _ | assumption | refine Ext.more ?_ _ | refine Ext.drew ?_ | refine Ext.drewN ?_ _ | refine Ext.alloc ?_ _ | refine Ext.setCell ?_ (by simp; try omega) _ | refine Ext.trans ?_ (by assumption)))⟩
theorem scrSame_to {a b : Scr} {r : Bool} (e : sameS a b = r) (w : World) (pa da sa va pb db sb vb : Value) (ha : ScrV w a pa da sa va) (hb : ScrV w b pb db sb vb) :
    Calls Tryz.prog 12 #[scrV a pa da sa va, scrV b pb db sb vb] w (Yields w (.bool r)) := e ▸ scrSame_any w a b pa da sa va pb db sb vb ha hb
end Go.Proofs.YtmpgeabfogcblaaGreat
