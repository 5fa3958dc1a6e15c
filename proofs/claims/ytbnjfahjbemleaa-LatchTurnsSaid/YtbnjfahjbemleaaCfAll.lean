/- What conf.Is and conf.Ticks come to. -/
import Derived.Test.YtbnjfahjbemleaaRows
import Derived.Test.YtbnjfahjbemleaaConf
import Derived.Test.YtbnjfahjbemleaaMath3b
import Derived.Test.YtbnjfahjbemleaaLabel
import Derived.WalkKit
import Derived.WalkSpells
import Derived.WalkLawsBesides
import Derived.Deep.QuietTactic
import Derived.BigQuiet
import Derived.Deep.RegionHeld3
import Derived.Handy
import Derived.Test.YtbnjfahjbemleaaErrV
namespace Go.Proofs.Ytbnjfahjbemleaa
open Go.RowKit

theorem all_take' {α : Type} (l : List α) (f : α → Bool) (k : Nat) (h : k < l.length) (ht : (l.take k).all f = true) : (l.take (k + 1)).all f = f l[k] := by
  rw [List.take_succ_eq_append_getElem h, List.all_append, ht]; simp
theorem all_bad' {α : Type} (l : List α) (f : α → Bool) (k : Nat) (h : k < l.length) (hf : f l[k] = false) : l.all f = false := by
  rw [List.all_eq_false]
  exact ⟨l[k], List.getElem_mem h, by simp [hf]⟩
theorem any_take' {α : Type} (l : List α) (f : α → Bool) (k : Nat) (h : k < l.length) : (l.take (k + 1)).any f = ((l.take k).any f || f l[k]) := by
  rw [List.take_succ_eq_append_getElem h, List.any_append]; simp
/-- What is known of a struct's box. -/
theorem blk_cell2 {w : World} {b : Nat} {cs : Array Value} {T : TypeId} (h : w.heap[b]? = some (.cells cs T (0, 0))) {j : Nat} : w.cell? ⟨b, j, none⟩ = cs[j]? := by simp [World.cell?, h]
theorem boxed {w w' : World} {cs : Array Value} {T : TypeId} (h : Ext (w.alloc (.cells cs T (0, 0))) w') (j : Nat) (hj : j < cs.size) : w'.cell? ⟨w.heap.size, j, none⟩ = cs[j]? := by
  obtain ⟨v, hv⟩ : ∃ v, cs[j]? = some v := ⟨_, Array.getElem?_eq_getElem hj⟩
  rw [hv]
  exact h.cell (by rw [blk_cell2 (heap_alloc_new w _)]; exact hv)

set_option maxHeartbeats 400000 in
theorem cwithin_any (n a b : Int) (w : World) : Calls Try.prog 31 #[.int .i64 n, .int .i64 a, .int .i64 b] w (Yields w (.bool (withB n a b))) := by
  by_cases h : a ≤ n <;>
  · go_enter Try.func31, Try.ntmps31
    go_wp2
    go_ret
    exact ⟨by simp [withB]; try omega, ext_by⟩
theorem cwithin_to {n a b : Int} {r : Bool} (e : withB n a b = r) (w : World) : Calls Try.prog 31 #[.int .i64 n, .int .i64 a, .int .i64 b] w (Yields w (.bool r)) := e ▸ cwithin_any n a b w

set_option maxHeartbeats 400000 in
theorem isPlace_any (w : World) (c : Cnf) (pv dv : Value) (hc : ConfV w c pv dv) (n : Int) :
    Calls Try.prog 36 #[confV c pv dv, .int .i64 n] w (Yields w (.bool (withB n 0 ((c.doms.length : Int) - 1)))) := by
  obtain ⟨pd, cd, rfl, hd1, hd2⟩ := hc.doms.shape
  unfold maxLen at hd2
  clear hc
  go_enter Try.func36, Try.ntmps36
  go_wp2_with (go_at_call 31; refine (cwithin_any _ _ _ _).yields ?_; intro p0)
  go_returns
  exact ⟨rfl, ext_by⟩
theorem isPlace_to {c : Cnf} {n : Int} {r : Bool} (e : withB n 0 ((c.doms.length : Int) - 1) = r) (w : World) (pv dv : Value) (hc : ConfV w c pv dv) : Calls Try.prog 36 #[confV c pv dv, .int .i64 n] w (Yields w (.bool r)) := e ▸ isPlace_any w c pv dv hc n

theorem labels2 (W : World) (a b c d : Int) (b0 : Nat) (hb : U64 b) (hd : U64 d) (h0 : W.cell? ⟨b0, 0, none⟩ = some (.int .i64 a)) (h1 : W.cell? ⟨b0, 1, none⟩ = some (.int .u64 b)) (h2 : W.cell? ⟨b0, 2, none⟩ = some (.int .i64 c)) (h3 : W.cell? ⟨b0, 3, none⟩ = some (.int .u64 d)) :
    Labels W (.slice (some ⟨b0, 0, none⟩) 2 2) [(a, b), (c, d)] := by
  refine ⟨_, 2, rfl, by simp, by unfold maxLen; omega, fun _ => ⟨b0, 0, rfl, fun i x hi => ?_⟩⟩
  match i, hi with
  | 0, hi => simp at hi; subst hi; exact ⟨h0, h1, hb⟩
  | 1, hi => simp at hi; subst hi; exact ⟨h2, h3, hd⟩

set_option maxRecDepth 100000 in
set_option maxHeartbeats 2000000 in
theorem isAbove_any (w : World) (c : Cnf) (pv dv : Value) (hc : ConfV w c pv dv) (hi lo : Nat) (hhi : hi < c.doms.length) (hlo : lo < c.doms.length) :
    Calls Try.prog 37 #[confV c pv dv, .int .i64 hi, .int .i64 lo] w (Yields w (.bool (risesB (labAt c.doms lo).1 (labAt c.doms lo).2 (labAt c.doms hi).1 (labAt c.doms hi).2))) := by
  obtain ⟨pd, cd, rfl, hd1, hd2⟩ := hc.doms.shape
  unfold maxLen at hd2
  obtain ⟨db, doff, rfl, _, _, Dy, -, -, yu⟩ := hc.doms.at lo hlo
  obtain ⟨_, _, hpp, _, _, Dx, -, -, xu⟩ := hc.doms.at hi hhi
  have y0 := Dy.level
  have y1 := Dy.cats
  have x0 := Dx.level
  have x1 := Dx.cats
  clear Dy Dx
  cases hpp
  rw [labAt_get hlo, labAt_get hhi]
  clear hc
  generalize c.doms[lo] = y at *
  generalize c.doms[hi] = x at *
  have i1 : (lo : Int) < c.doms.length := by omega
  have i2 : (hi : Int) < c.doms.length := by omega
  have i3 : (0 : Int) ≤ lo := by omega
  have i4 : (0 : Int) ≤ hi := by omega
  have hdb := World.block_lt_of_cell? _ _ x0
  go_enter Try.func37, Try.ntmps37
  go_wp2
  go_region_held3 (fun wx => Ext w wx ∧ wx.cell? ⟨w.heap.size, 3, none⟩ = some (.slice (some ⟨db, doff, none⟩) c.doms.length cd) ∧ wx.cell? ⟨db, doff + lo * 10, none⟩ = some (.int .i64 y.level) ∧ wx.cell? ⟨db, doff + lo * 10 + 1, none⟩ = some (.int .u64 y.cats) ∧ wx.cell? ⟨db, doff + hi * 10, none⟩ = some (.int .i64 x.level) ∧ wx.cell? ⟨db, doff + hi * 10 + 1, none⟩ = some (.int .u64 x.cats))
    (first | (go_split_ands; with_reducible exact ⟨Ext.trans (by assumption) hq, Ext.cell hq (by assumption), Ext.cell hq (by assumption), Ext.cell hq (by assumption), Ext.cell hq (by assumption), Ext.cell hq (by assumption)⟩) | (go_split_ands; with_reducible exact ⟨Ext.alloc (by assumption) _, Ext.cell (Ext.alloc (Ext.refl _) _) (by assumption), Ext.cell (Ext.alloc (Ext.refl _) _) (by assumption), Ext.cell (Ext.alloc (Ext.refl _) _) (by assumption), Ext.cell (Ext.alloc (Ext.refl _) _) (by assumption), Ext.cell (Ext.alloc (Ext.refl _) _) (by assumption)⟩) | exact ⟨Ext.drew (Ext.alloc (Ext.refl _) _), by simp, Ext.cell (Ext.drew (Ext.alloc (Ext.refl _) _)) y0, Ext.cell (Ext.drew (Ext.alloc (Ext.refl _) _)) y1, Ext.cell (Ext.drew (Ext.alloc (Ext.refl _) _)) x0, Ext.cell (Ext.drew (Ext.alloc (Ext.refl _) _)) x1⟩ | (go_split_ands; refine ⟨ext_by, ?_, ?_, ?_, ?_, ?_⟩ <;> go_keep))
    (first | (go_at_call 38; refine (chain_any _ _ _ (labels2 _ y.level y.cats x.level x.cats _ ⟨yu.1, yu.2⟩ ⟨xu.1, xu.2⟩ ?_ ?_ ?_ ?_)).mono ?_; (· simp); (· simp); (· simp); (· simp); rintro e w' ⟨rfl, hq⟩))
  go_split_ands
  go_wp2
  go_returns
  exact ⟨by simp [chainB, Dom.lab], by assumption⟩
theorem isAbove_to {c : Cnf} {hi lo : Nat} {r : Bool} (e : risesB (labAt c.doms lo).1 (labAt c.doms lo).2 (labAt c.doms hi).1 (labAt c.doms hi).2 = r) (w : World) (pv dv : Value) (hc : ConfV w c pv dv) (hhi : hi < c.doms.length) (hlo : lo < c.doms.length) :
    Calls Try.prog 37 #[confV c pv dv, .int .i64 hi, .int .i64 lo] w (Yields w (.bool r)) := e ▸ isAbove_any w c pv dv hc hi lo hhi hlo
end Go.Proofs.Ytbnjfahjbemleaa

namespace Go.Proofs.Ytbnjfahjbemleaa
open Go.RowKit

theorem cis_to {a b : Int} {r : Bool} (e : isB a = r) (w : World) : Calls Try.prog 32 #[.agg #[.int .i64 a, .int .u64 b]] w (Yields w (.bool r)) := e ▸ is_any a b w

set_option maxHeartbeats 1000000 in
theorem divides_any (w : World) (v : Value) (l : List Int) (h : Nums .i64 w v l) :
    Calls Try.prog 33 #[v] w (Yields w (.bool (dividesB l))) := by
  obtain ⟨p, cap, rfl, hcap, hmax⟩ := h.shape
  unfold maxLen at hmax
  have H := hid h
  clear h
  go_enter Try.func33, Try.ntmps33
  go_wp2
  go_loopw [3, 8] (fun v3 v8 wr => Ext w wr ∧ ∃ (k : Nat) (m : Int), v8 = .int .i64 k ∧ v3 = .int .i64 m ∧ 0 ≤ m ∧ m ≤ 1000 ∧ k ≤ l.length ∧ Hid ((l.take k).all (fun s => withB s 0 1000) = true) ∧ Hid (decide (0 < m) = (l.take k).any (fun s => decide (0 < s)))) (fun _ v8 _ => (l.length - intOf v8).toNat)
  case atStart => exact ⟨Ext.refl _, 0, 0, rfl, rfl, by omega, by omega, by omega, rfl, rfl⟩
  case round =>
    obtain ⟨hx, k, m, rfl, rfl, hm0, hm1, hk, hall, hany⟩ := hrel
    by_cases hlt : k < l.length
    · obtain ⟨b, off, rfl, s0, -⟩ := H.out.at k hlt
      simp only [Nat.mul_one] at s0
      have f0 := hx.cell s0
      have hA := hid (all_take' l (fun s => withB s 0 1000) k hlt hall.out)
      have hN := hid (any_take' l (fun s => decide (0 < s)) k hlt)
      have hB := hid (all_bad' l (fun s => withB s 0 1000) k hlt)
      clear s0
      generalize l[k] = x at *
      have i1 : (k : Int) < l.length := by omega
      cases hwx : withB x 0 1000
      · have HWX := hid hwx
        clear hwx
        go_wp2_with (go_at_call 31; refine (cwithin_to HWX.out _).yields ?_; intro p1)
        go_returns
        exact ⟨by simp [dividesB, hB.out HWX.out], hx.more _⟩
      · have hb := withB_iff.1 hwx
        have HWX := hid hwx
        clear hwx
        go_wp2_with (go_at_call 31; refine (cwithin_to HWX.out _).yields ?_; intro p1)
        all_goals
          go_roundw
          case rel => exact ⟨hx.more _, k + 1, _, by go_num, rfl, by omega, by omega, by omega, by unfold Hid; rw [hA.out]; exact HWX.out, by unfold Hid; rw [hN.out, ← hany.out, Bool.eq_iff_iff]; simp; try omega⟩
          case measure => simp [intOf]; omega
    · obtain rfl : k = l.length := by omega
      have h1 := hall.out
      have h2 := hany.out
      rw [List.take_length] at h1 h2
      have H1 := hid h1
      have H2 := hid h2
      clear h1 h2
      go_wp2
      go_returns
      exact ⟨by simp [dividesB, H1.out, ← H2.out], hx⟩
theorem divides_to {l : List Int} {r : Bool} (e : dividesB l = r) (w : World) (v : Value) (h : Nums .i64 w v l) : Calls Try.prog 33 #[v] w (Yields w (.bool r)) := e ▸ divides_any w v l h

set_option maxRecDepth 100000 in
set_option maxHeartbeats 2000000 in
theorem shared_any (w : World) (c : Cnf) (pv dv : Value) (hc : ConfV w c pv dv) :
    Calls Try.prog 26 #[confV c pv dv] w (Yields w (.bool (sharesB c))) := by
  obtain ⟨pp, cp, rfl, hp1, hp2⟩ := hc.plans.shape
  obtain ⟨pd, cd, rfl, hd1, hd2⟩ := hc.doms.shape
  unfold maxLen at hp2 hd2
  have HC := hid hc
  clear hc
  obtain ⟨fr, ep, plans, doms⟩ := c
  simp only at HC hp1 hp2 hd1 hd2
  go_enter Try.func26, Try.ntmps26
  cases hlen : withB plans.length 1 3
  · have HLEN := hid hlen
    clear hlen
    go_wp2_with (go_at_call 31; refine (cwithin_to HLEN.out _).yields ?_; intro p0)
    go_returns
    exact ⟨by simp [sharesB, HLEN.out], ext_by⟩
  have HLEN := hid hlen
  clear hlen
  go_wp2_with (go_at_call 31; refine (cwithin_to HLEN.out _).yields ?_; intro p0)
  have hbx := fun (w' : World) (h : Ext (w.alloc (.cells #[.int .i64 fr, .int .i64 ep, .slice pp plans.length cp, .slice pd doms.length cd] 29 (0, 0))) w') => And.intro (boxed h 2 (by simp)) (boxed h 3 (by simp))
  have hx0 : Ext w (w.alloc (.cells #[.int .i64 fr, .int .i64 ep, .slice pp plans.length cp, .slice pd doms.length cd] 29 (0, 0))) := Ext.alloc (Ext.refl _) _
  generalize w.alloc (.cells #[.int .i64 fr, .int .i64 ep, .slice pp plans.length cp, .slice pd doms.length cd] 29 (0, 0)) = W1 at *
  simp only [List.getElem?_toArray, List.getElem?_cons_succ, List.getElem?_cons_zero] at hbx
  have HBX := hid hbx
  clear hbx
  have hx1 := ext_more W1 p0
  generalize more W1 p0 = W2 at *
  go_loopw [13] (fun v13 wr => Ext W1 wr ∧ ∃ k : Nat, v13 = .int .i64 k ∧ k ≤ plans.length ∧ Hid ((plans.take k).all (planB doms.length) = true)) (fun v13 _ => (plans.length - intOf v13).toNat)
  case atStart => exact ⟨hx1, 0, rfl, by omega, rfl⟩
  case round =>
    obtain ⟨hx, k, rfl, hk, ht⟩ := hrel
    obtain ⟨a2, a3⟩ := HBX.out _ hx
    have hw := hx0.trans hx
    by_cases hlt : k < plans.length
    · obtain ⟨pb, po, rfl, rv, r0, rn⟩ := HC.out.plans.at k hlt
      have hgood := hid (fun (h : planB doms.length plans[k] = true) => (all_take' plans (planB doms.length) k hlt ht.out).trans h)
      have hbad := hid (all_bad' plans (planB doms.length) k hlt)
      generalize plans[k] = row at *
      obtain ⟨rp, rc, rfl, hr1, hr2⟩ := rn.shape
      unfold maxLen at hr2
      simp only [Nat.mul_one] at r0
      have RN := hid rn
      have i1 : (k : Int) < plans.length := by omega
      have e0 := hw.cell r0
      clear rn r0
      by_cases hll : row.length = doms.length
      · have l1 : ((row.length : Int) == (doms.length : Int)) = true := by simp; omega
        have l2 : ((row.length : Int) != (doms.length : Int)) = false := by simp; omega
        have l3 : (row.length == doms.length) = true := by simp; omega
        have l4 : (row.length != doms.length) = false := by simp; omega
        have HLL := hid hll
        clear hll
        cases hd : dividesB row
        · have HD := hid hd
          clear hd
          go_wp2_with (go_at_call 33; refine (divides_to HD.out _ _ (RN.out.ext ext_by)).yields ?_; intro p1)
          go_returns
          refine ⟨?_, hw.more _⟩
          have h2 : planB doms.length row = false := by simp [planB_eq, HD.out]
          simp [sharesB, hbad.out h2]
        · have HD := hid hd
          clear hd
          go_wp2_with (go_at_call 33; refine (divides_to HD.out _ _ (RN.out.ext ext_by)).yields ?_; intro p1)
          go_roundw
          case rel => exact ⟨hx.more _, k + 1, by go_num, by omega, hid (hgood.out (by simp [planB_eq, HD.out, HLL.out]))⟩
          case measure => simp [intOf]; omega
      · have l1 : ((row.length : Int) == (doms.length : Int)) = false := by simp; omega
        have l2 : ((row.length : Int) != (doms.length : Int)) = true := by simp; omega
        have l3 : (row.length == doms.length) = false := by simp; omega
        have l4 : (row.length != doms.length) = true := by simp; omega
        have HLL := hid hll
        clear hll
        go_wp2
        go_returns
        refine ⟨?_, hw⟩
        have h2 : planB doms.length row = false := by simp [planB_eq, HLL.out]
        simp [sharesB, hbad.out h2]
    · obtain rfl : k = plans.length := by omega
      have h1 := ht.out
      rw [List.take_length] at h1
      have H1 := hid h1
      clear h1
      go_wp2
      go_returns
      exact ⟨by simp [sharesB, H1.out, HLEN.out], hw⟩
theorem shared_to {c : Cnf} {r : Bool} (e : sharesB c = r) (w : World) (pv dv : Value) (hc : ConfV w c pv dv) : Calls Try.prog 26 #[confV c pv dv] w (Yields w (.bool r)) := e ▸ shared_any w c pv dv hc

set_option maxRecDepth 100000 in
set_option maxHeartbeats 4000000 in
theorem formed_any (w : World) (c : Cnf) (pv dv : Value) (hc : ConfV w c pv dv) :
    Calls Try.prog 25 #[confV c pv dv] w (Yields w (.bool (formB c))) := by
  obtain ⟨pp, cp, rfl, hp1, hp2⟩ := hc.plans.shape
  obtain ⟨pd, cd, rfl, hd1, hd2⟩ := hc.doms.shape
  unfold maxLen at hp2 hd2
  have HC := hid hc
  clear hc
  go_enter Try.func25, Try.ntmps25
  cases hf0 : withB c.frame 1 64
  · have Q0 := hid hf0
    clear hf0
    go_wp2_with (first | (go_at_call 31; (with_reducible refine (cwithin_to Q0.out _).yields ?_); intro p0))
    go_returns
    exact ⟨by simp [formB, Q0.out], ext_by⟩
  have Q0 := hid hf0
  clear hf0
  cases hf1 : withB c.epoch 1 8
  · have Q1 := hid hf1
    clear hf1
    go_wp2_with (first | (go_at_call 31; (with_reducible refine (cwithin_to Q0.out _).yields ?_); intro p0) | (go_at_call 31; (with_reducible refine (cwithin_to Q1.out _).yields ?_); intro p1))
    go_returns
    exact ⟨by simp [formB, Q1.out], ext_by⟩
  have Q1 := hid hf1
  clear hf1
  cases hf2 : withB c.doms.length 1 6
  · have Q2 := hid hf2
    clear hf2
    go_wp2_with (first | (go_at_call 31; (with_reducible refine (cwithin_to Q0.out _).yields ?_); intro p0) | (go_at_call 31; (with_reducible refine (cwithin_to Q1.out _).yields ?_); intro p1) | (go_at_call 31; (with_reducible refine (cwithin_to Q2.out _).yields ?_); intro p2))
    go_returns
    exact ⟨by simp [formB, Q2.out], ext_by⟩
  have Q2 := hid hf2
  clear hf2
  go_wp2_with (first | (go_at_call 31; (with_reducible refine (cwithin_to Q0.out _).yields ?_); intro p0) | (go_at_call 31; (with_reducible refine (cwithin_to Q1.out _).yields ?_); intro p1) | (go_at_call 31; (with_reducible refine (cwithin_to Q2.out _).yields ?_); intro p2))
  have hbx := fun (w' : World) (h : Ext (w.alloc (.cells #[.int .i64 c.frame, .int .i64 c.epoch, .slice pp c.plans.length cp, .slice pd c.doms.length cd] 29 (0, 0))) w') =>
    And.intro (boxed h 0 (by simp)) (And.intro (boxed h 1 (by simp)) (And.intro (boxed h 2 (by simp)) (boxed h 3 (by simp))))
  have hx0 : Ext w (w.alloc (.cells #[.int .i64 c.frame, .int .i64 c.epoch, .slice pp c.plans.length cp, .slice pd c.doms.length cd] 29 (0, 0))) := Ext.alloc (Ext.refl _) _
  generalize w.alloc (.cells #[.int .i64 c.frame, .int .i64 c.epoch, .slice pp c.plans.length cp, .slice pd c.doms.length cd] 29 (0, 0)) = W1 at *
  simp only [List.getElem?_toArray, List.getElem?_cons_succ, List.getElem?_cons_zero] at hbx
  have HBX := hid hbx
  clear hbx
  go_loopw [25] (fun v4 wr => Ext W1 wr ∧ ∃ k : Nat, v4 = .int .i64 k ∧ k ≤ c.doms.length ∧ Hid ((c.doms.take k).all (fun d => isB d.level) = true)) (fun v4 _ => (c.doms.length - intOf v4).toNat)
  case atStart => exact ⟨(by repeat (first | exact Ext.refl _ | refine Ext.more ?_ _)), 0, rfl, by omega, rfl⟩
  case round =>
    obtain ⟨hx, k, rfl, hk, ht⟩ := hrel
    obtain ⟨b0, b1, b2, b3⟩ := HBX.out _ hx
    by_cases hlt : k < c.doms.length
    · obtain ⟨db, doff, rfl, vr, ve, D, DR, DE, _⟩ := HC.out.doms.at k hlt
      obtain ⟨rp, rc, rfl, -, -⟩ := DR.shape
      obtain ⟨ep, ec, rfl, -, -⟩ := DE.shape
      clear DR DE
      have hgood := hid (fun (h : isB c.doms[k].level = true) => (all_take' c.doms (fun d => isB d.level) k hlt ht.out).trans h)
      have hbad := hid (all_bad' c.doms (fun d => isB d.level) k hlt)
      obtain ⟨d0, d1, d2, d3, d4, d5, d6, d7, d8, d9⟩ := D.ext (hx0.trans hx)
      have hdb : db < wr.heap.size := World.block_lt_of_cell? _ _ d0
      clear D
      generalize c.doms[k] = d at *
      have i1 : (k : Int) < c.doms.length := by omega
      cases hl : isB d.level
      · have HL := hid hl
        clear hl
        go_wp2_with (go_at_call 32; refine (cis_to HL.out _).yields ?_; intro p4)
        go_returns
        exact ⟨by simp [formB, hbad.out HL.out], by repeat (first | exact hx0.trans hx | refine Ext.more ?_ _ | refine Ext.alloc ?_ _)⟩
      · have HL := hid hl
        clear hl
        go_wp2_with (go_at_call 32; refine (cis_to HL.out _).yields ?_; intro p4)
        go_roundw
        case rel => exact ⟨by repeat (first | exact hx | refine Ext.more ?_ _ | refine Ext.alloc ?_ _), k + 1, by go_num, by omega, hid (hgood.out HL.out)⟩
        case measure => simp [intOf]; omega
    · obtain rfl : k = c.doms.length := by omega
      have h1 := ht.out
      rw [List.take_length] at h1
      have H1 := hid h1
      clear h1
      go_wp2
      go_returns
      exact ⟨by simp [formB, Q0.out, Q1.out, Q2.out, H1.out], hx0.trans hx⟩
theorem formed_to {c : Cnf} {r : Bool} (e : formB c = r) (w : World) (pv dv : Value) (hc : ConfV w c pv dv) : Calls Try.prog 25 #[confV c pv dv] w (Yields w (.bool r)) := e ▸ formed_any w c pv dv hc

set_option maxRecDepth 100000 in
set_option maxHeartbeats 4000000 in
theorem bounded_any (w : World) (c : Cnf) (pv dv : Value) (hc : ConfV w c pv dv) :
    Calls Try.prog 27 #[confV c pv dv] w (Yields w (.bool (c.doms.all quotaB))) := by
  obtain ⟨pp, cp, rfl, hp1, hp2⟩ := hc.plans.shape
  obtain ⟨pd, cd, rfl, hd1, hd2⟩ := hc.doms.shape
  unfold maxLen at hp2 hd2
  have HC := hid hc
  clear hc
  go_enter Try.func27, Try.ntmps27
  go_wp2
  have hbx := fun (w' : World) (h : Ext (w.alloc (.cells #[.int .i64 c.frame, .int .i64 c.epoch, .slice pp c.plans.length cp, .slice pd c.doms.length cd] 29 (0, 0))) w') =>
    And.intro (boxed h 0 (by simp)) (And.intro (boxed h 1 (by simp)) (And.intro (boxed h 2 (by simp)) (boxed h 3 (by simp))))
  have hx0 : Ext w (w.alloc (.cells #[.int .i64 c.frame, .int .i64 c.epoch, .slice pp c.plans.length cp, .slice pd c.doms.length cd] 29 (0, 0))) := Ext.alloc (Ext.refl _) _
  generalize w.alloc (.cells #[.int .i64 c.frame, .int .i64 c.epoch, .slice pp c.plans.length cp, .slice pd c.doms.length cd] 29 (0, 0)) = W1 at *
  simp only [List.getElem?_toArray, List.getElem?_cons_succ, List.getElem?_cons_zero] at hbx
  have HBX := hid hbx
  clear hbx
  go_loopw [8] (fun v4 wr => Ext W1 wr ∧ ∃ k : Nat, v4 = .int .i64 k ∧ k ≤ c.doms.length ∧ Hid ((c.doms.take k).all quotaB = true)) (fun v4 _ => (c.doms.length - intOf v4).toNat)
  case atStart => exact ⟨Ext.refl _, 0, rfl, by omega, rfl⟩
  case round =>
    obtain ⟨hx, k, rfl, hk, ht⟩ := hrel
    obtain ⟨b0, b1, b2, b3⟩ := HBX.out _ hx
    by_cases hlt : k < c.doms.length
    · obtain ⟨db, doff, rfl, vr, ve, D, DR, DE, _⟩ := HC.out.doms.at k hlt
      obtain ⟨rp, rc, rfl, -, -⟩ := DR.shape
      obtain ⟨ep, ec, rfl, -, -⟩ := DE.shape
      clear DR DE
      have hgood := hid (fun (h : quotaB c.doms[k] = true) => (all_take' c.doms quotaB k hlt ht.out).trans h)
      have hbad := hid (all_bad' c.doms quotaB k hlt)
      obtain ⟨d0, d1, d2, d3, d4, d5, d6, d7, d8, d9⟩ := D.ext (hx0.trans hx)
      have hdb : db < wr.heap.size := World.block_lt_of_cell? _ _ d0
      clear D
      generalize c.doms[k] = d at *
      have i1 : (k : Int) < c.doms.length := by omega
      cases hq0 : withB d.threads 1 8
      · have Q0 := hid hq0
        clear hq0
        go_wp2_with (first | (go_at_call 31; (with_reducible refine (cwithin_to Q0.out _).yields ?_); intro p0))
        go_returns
        exact ⟨by simp [hbad.out (by simp [quotaB, Q0.out])], by repeat (first | exact hx0.trans hx | refine Ext.more ?_ _ | refine Ext.alloc ?_ _)⟩
      have Q0 := hid hq0
      clear hq0
      cases hq1 : withB d.groups 0 4
      · have Q1 := hid hq1
        clear hq1
        go_wp2_with (first | (go_at_call 31; (with_reducible refine (cwithin_to Q0.out _).yields ?_); intro p0) | (go_at_call 31; (with_reducible refine (cwithin_to Q1.out _).yields ?_); intro p1))
        go_returns
        exact ⟨by simp [hbad.out (by simp [quotaB, Q0.out, Q1.out])], by repeat (first | exact hx0.trans hx | refine Ext.more ?_ _ | refine Ext.alloc ?_ _)⟩
      have Q1 := hid hq1
      clear hq1
      cases hq2 : withB d.ring 1 16
      · have Q2 := hid hq2
        clear hq2
        go_wp2_with (first | (go_at_call 31; (with_reducible refine (cwithin_to Q0.out _).yields ?_); intro p0) | (go_at_call 31; (with_reducible refine (cwithin_to Q1.out _).yields ?_); intro p1) | (go_at_call 31; (with_reducible refine (cwithin_to Q2.out _).yields ?_); intro p2))
        go_returns
        exact ⟨by simp [hbad.out (by simp [quotaB, Q0.out, Q1.out, Q2.out])], by repeat (first | exact hx0.trans hx | refine Ext.more ?_ _ | refine Ext.alloc ?_ _)⟩
      have Q2 := hid hq2
      clear hq2
      cases hq3 : withB d.sends 0 8
      · have Q3 := hid hq3
        clear hq3
        go_wp2_with (first | (go_at_call 31; (with_reducible refine (cwithin_to Q0.out _).yields ?_); intro p0) | (go_at_call 31; (with_reducible refine (cwithin_to Q1.out _).yields ?_); intro p1) | (go_at_call 31; (with_reducible refine (cwithin_to Q2.out _).yields ?_); intro p2) | (go_at_call 31; (with_reducible refine (cwithin_to Q3.out _).yields ?_); intro p3))
        go_returns
        exact ⟨by simp [hbad.out (by simp [quotaB, Q0.out, Q1.out, Q2.out, Q3.out])], by repeat (first | exact hx0.trans hx | refine Ext.more ?_ _ | refine Ext.alloc ?_ _)⟩
      have Q3 := hid hq3
      clear hq3
      cases hq4 : withB d.box 1 8
      · have Q4 := hid hq4
        clear hq4
        go_wp2_with (first | (go_at_call 31; (with_reducible refine (cwithin_to Q0.out _).yields ?_); intro p0) | (go_at_call 31; (with_reducible refine (cwithin_to Q1.out _).yields ?_); intro p1) | (go_at_call 31; (with_reducible refine (cwithin_to Q2.out _).yields ?_); intro p2) | (go_at_call 31; (with_reducible refine (cwithin_to Q3.out _).yields ?_); intro p3) | (go_at_call 31; (with_reducible refine (cwithin_to Q4.out _).yields ?_); intro p4))
        go_returns
        exact ⟨by simp [hbad.out (by simp [quotaB, Q0.out, Q1.out, Q2.out, Q3.out, Q4.out])], by repeat (first | exact hx0.trans hx | refine Ext.more ?_ _ | refine Ext.alloc ?_ _)⟩
      have Q4 := hid hq4
      clear hq4
      go_wp2_with (first | (go_at_call 31; (with_reducible refine (cwithin_to Q0.out _).yields ?_); intro p0) | (go_at_call 31; (with_reducible refine (cwithin_to Q1.out _).yields ?_); intro p1) | (go_at_call 31; (with_reducible refine (cwithin_to Q2.out _).yields ?_); intro p2) | (go_at_call 31; (with_reducible refine (cwithin_to Q3.out _).yields ?_); intro p3) | (go_at_call 31; (with_reducible refine (cwithin_to Q4.out _).yields ?_); intro p4))
      go_roundw
      case rel => exact ⟨by repeat (first | exact hx | refine Ext.more ?_ _ | refine Ext.alloc ?_ _), k + 1, by go_num, by omega, hid (hgood.out (by simp [quotaB, Q0.out, Q1.out, Q2.out, Q3.out, Q4.out]))⟩
      case measure => simp [intOf]; omega
    · obtain rfl : k = c.doms.length := by omega
      have h1 := ht.out
      rw [List.take_length] at h1
      have H1 := hid h1
      clear h1
      go_wp2
      go_returns
      exact ⟨by simp [H1.out], hx0.trans hx⟩
theorem bounded_to {c : Cnf} {r : Bool} (e : c.doms.all quotaB = r) (w : World) (pv dv : Value) (hc : ConfV w c pv dv) : Calls Try.prog 27 #[confV c pv dv] w (Yields w (.bool r)) := e ▸ bounded_any w c pv dv hc
end Go.Proofs.Ytbnjfahjbemleaa

namespace Go.Proofs.Ytbnjfahjbemleaa
open Go.RowKit

def sliceLen : Value → Nat
  | .slice _ n _ => n
  | _ => 0

set_option maxRecDepth 100000 in
set_option maxHeartbeats 4000000 in
theorem rises_place (w : World) (c : Cnf) (pv dv : Value) (hc : ConfV w c pv dv) (own : Nat) (hown : own < c.doms.length) (v : Value) (row : List Int) (h : Nums .i64 w v row) :
    Calls Try.prog 35 #[confV c pv dv, .int .i64 own, v] w (Yields w (.bool (!row.isEmpty && riseL c.doms (labAt c.doms own) row))) := by
  obtain ⟨pp, cp, rfl, hp1, hp2⟩ := hc.plans.shape
  obtain ⟨pd, cd, rfl, hd1, hd2⟩ := hc.doms.shape
  unfold maxLen at hp2 hd2
  have HC := hid hc
  clear hc
  obtain ⟨p, cap, rfl, hcap, hmax⟩ := h.shape
  unfold maxLen at hmax
  have H := hid h
  clear h
  go_enter Try.func35, Try.ntmps35
  by_cases hz : row.length = 0
  · have z1 : ((row.length : Int) == 0) = true := by rw [hz]; rfl
    have HZ : Hid (row = []) := List.eq_nil_of_length_eq_zero hz
    clear hz
    go_wp2
    go_step3
    go_wp2
    rw [Exit.noGoto_ret]
    go_returns
    exact ⟨by simp [HZ.out], ext_by⟩
  have z1 : ((row.length : Int) == 0) = false := by rw [beq_eq_false_iff_ne]; omega
  have HNE : Hid (row.isEmpty = false) := by cases row <;> simp_all [Hid]
  have hpos : 0 < row.length := by omega
  clear hz
  obtain ⟨b, off, rfl, -, -⟩ := H.out.at 0 hpos
  have HE : Hid (∀ k (hk : k < row.length), w.cell? ⟨b, off + k, none⟩ = some (.int .i64 row[k])) := fun k hk => by
    obtain ⟨b', off', e, s0, -⟩ := H.out.at k hk
    cases e
    simpa using s0
  go_wp2
  have hx0 : Ext w (w.alloc (.cells #[.int .i64 c.frame, .int .i64 c.epoch, .slice pp c.plans.length cp, .slice pd c.doms.length cd] 29 (0, 0))) := Ext.alloc (Ext.refl _) _
  have hbx := fun (w' : World) (h : Ext (w.alloc (.cells #[.int .i64 c.frame, .int .i64 c.epoch, .slice pp c.plans.length cp, .slice pd c.doms.length cd] 29 (0, 0))) w') =>
    And.intro (boxed h 0 (by simp)) (And.intro (boxed h 1 (by simp)) (And.intro (boxed h 2 (by simp)) (boxed h 3 (by simp))))
  generalize w.alloc (.cells #[.int .i64 c.frame, .int .i64 c.epoch, .slice pp c.plans.length cp, .slice pd c.doms.length cd] 29 (0, 0)) = W1 at *
  simp only [List.getElem?_toArray, List.getElem?_cons_succ, List.getElem?_cons_zero] at hbx
  have HBX := hid hbx
  clear hbx
  refine wp_goto 0 (fun a' w' => Ext W1 w' ∧ ∃ (k m q cur : Nat) (u7 u8 u9 u10 u11 u12 u13 u14 u15 u16 u17 u18 u19 u20 u21 u22 u23 u24 u25 u26 u27 u28 u29 u30 : Value), a' = { tmps := #[confV c (.slice pp c.plans.length cp) (.slice pd c.doms.length cd), .int .i64 cur, .slice (some ⟨b, off + k, none⟩) m q, .pointer (some ⟨w.heap.size, 0, none⟩), undef, undef, .bool false, u7, u8, u9, u10, u11, u12, u13, u14, u15, u16, u17, u18, u19, u20, u21, u22, u23, u24, u25, u26, u27, u28, u29, u30], defers := [] } ∧ k + m = row.length ∧ 0 < m ∧ m ≤ q ∧ q ≤ cap ∧ cur < c.doms.length ∧ Hid (riseL c.doms (labAt c.doms own) row = riseL c.doms (labAt c.doms cur) (row.drop k))) (fun a' _ => sliceLen (a'.tmps.getD 2 undef)) rfl ?_ ?_
  · rintro a' w' ⟨hb, k, m, q, cur, u7, u8, u9, u10, u11, u12, u13, u14, u15, u16, u17, u18, u19, u20, u21, u22, u23, u24, u25, u26, u27, u28, u29, u30, rfl, hkm, hm, hmq, hqc, hcur, hri⟩
    obtain ⟨b0, b1, b2, b3⟩ := HBX.out _ hb
    have hw := hx0.trans hb
    have hbs : w.heap.size < w'.heap.size := World.block_lt_of_cell? _ _ b0
    have s0 := hw.cell (HE.out k (by omega))
    have hdr : Hid (row.drop k = row[k]'(by omega) :: row.drop (k + 1)) := List.drop_eq_getElem_cons (by omega)
    have hend : Hid (m = 1 → row.drop (k + 1) = []) := fun h => List.drop_eq_nil_of_le (by omega)
    generalize row[k]'(by omega) = n at *
    have HCW := hid (HC.out.ext hw)
    have i1 : (0 : Int) < m := by omega
    cases hpl : withB n 0 ((c.doms.length : Int) - 1)
    · have HPL := hid hpl
      clear hpl
      go_wp2_with (go_at_call 36; refine (isPlace_to HPL.out _ _ _ HCW.out).yields ?_; intro p1)
      simp only [Exit.jump]
      go_returns
      exact ⟨by simp [hri.out, hdr.out, riseL_cons, HPL.out], hw.more _⟩
    have hwb := withB_iff.1 hpl
    have HPL := hid hpl
    clear hpl
    obtain ⟨j, rfl⟩ := Int.eq_ofNat_of_zero_le hwb.1
    have hj : j < c.doms.length := by omega
    cases hab : risesB (labAt c.doms cur).1 (labAt c.doms cur).2 (labAt c.doms j).1 (labAt c.doms j).2
    · have HAB := hid hab
      clear hab
      go_wp2_with (first | (go_at_call 36; refine (isPlace_to HPL.out _ _ _ HCW.out).yields ?_; intro p1) | (go_at_call 37; refine (isAbove_to HAB.out _ _ _ (HCW.out.ext ext_by) hj hcur).yields ?_; intro p2))
      simp only [Exit.jump]
      go_returns
      exact ⟨by simp [hri.out, hdr.out, riseL_cons, HPL.out, HAB.out], ext_by⟩
    have HAB := hid hab
    clear hab
    have i2 : (1 : Int) ≤ m := by omega
    have i3 : (m : Int) ≤ q := by omega
    go_wp2_with (first | (go_at_call 36; refine (isPlace_to HPL.out _ _ _ HCW.out).yields ?_; intro p1) | (go_at_call 37; refine (isAbove_to HAB.out _ _ _ (HCW.out.ext ext_by) hj hcur).yields ?_; intro p2))
    ((first | refine wp_region_more (by kernel_rfl) (by kernel_rfl) ?_ | refine wp_region_ext (by kernel_rfl) (by kernel_rfl) ?_); (try dsimp only [append_cons', append_nil']); (repeat (go_big_quiet_step ((fail)))); refine wpQuiet_nil ?_; rintro _ ⟨pq, rfl⟩)
    have hq := hb.trans (ext_more w' pq)
    go_wp2
    all_goals first
      | (go_step3
         simp only [Exit.then]
         exact ⟨rfl, ⟨hq, k + 1, m - 1, q - 1, j, _, _, _, _, _, _, _, _, _, _, _, _, _, _, _, _, _, _, _, _, _, _, _, _, rfl, by omega, by omega, by omega, by omega, hj, by unfold Hid; rw [hri.out, hdr.out, riseL_cons, HPL.out, HAB.out]; rfl⟩, by simp [sliceLen]; omega⟩)
      | (simp only [Exit.jump]
         go_returns
         exact ⟨by rw [hri.out, hdr.out, riseL_cons, HPL.out, HAB.out, hend.out (by omega), HNE.out]; rfl, hx0.trans hq⟩)
  · intro start
    have Start := hid start
    clear start
    go_wp2
    go_step3
    simp only [Exit.then]
    refine ‹∀ (a : Act) (w : World), Code.wp _ _ _ a w → _› _ _ ?_
    exact Start.out _ _ ⟨Ext.refl _, 0, row.length, cap, own, _, _, _, _, _, _, _, _, _, _, _, _, _, _, _, _, _, _, _, _, _, _, _, _, rfl, by omega, by omega, by omega, by omega, hown, rfl⟩
theorem rises_to {c : Cnf} {own : Nat} {row : List Int} {r : Bool} (e : (!row.isEmpty && riseL c.doms (labAt c.doms own) row) = r) (hown : own < c.doms.length) (w : World) (pv dv : Value) (hc : ConfV w c pv dv) (v : Value) (h : Nums .i64 w v row) :
    Calls Try.prog 35 #[confV c pv dv, .int .i64 own, v] w (Yields w (.bool r)) := e ▸ rises_place w c pv dv hc own hown v row h

set_option maxRecDepth 100000 in
set_option maxHeartbeats 4000000 in
theorem gives_any (w : World) (c : Cnf) (pv dv : Value) (hc : ConfV w c pv dv) (i : Nat) (hi : i < c.doms.length) :
    Calls Try.prog 34 #[confV c pv dv, .int .i64 i] w (Yields w (.bool (giveC c.doms c.frame (labAt c.doms i) c.doms[i]))) := by
  obtain ⟨pp, cp, rfl, hp1, hp2⟩ := hc.plans.shape
  obtain ⟨pd, cd, rfl, hd1, hd2⟩ := hc.doms.shape
  unfold maxLen at hp2 hd2
  have HC := hid hc
  obtain ⟨db, doff, rfl, vr, ve, D, DR, DE, u1, u2⟩ := hc.doms.at i hi
  obtain ⟨rp, rc, rfl, hrc1, hrc2⟩ := DR.shape
  obtain ⟨ep, ec, rfl, hec1, hec2⟩ := DE.shape
  unfold maxLen at hrc2 hec2
  have DEh := hid DE
  clear hc DR DE
  obtain ⟨d0, d1, d2, d3, d4, d5, d6, d7, d8, d9⟩ := D
  have hdb : db < w.heap.size := World.block_lt_of_cell? w _ d0
  have i1 : (i : Int) < c.doms.length := by omega
  have HXL : Hid (labAt c.doms i = c.doms[i].lab) := labAt_get hi
  generalize hx : c.doms[i] = x at *
  have HX := hid hx
  clear hx
  go_enter Try.func34, Try.ntmps34
  by_cases ht : x.to = -1
  · have g4 : (x.to == (-1 : Int)) = true := by rw [ht]; rfl
    have HT := hid ht
    clear ht
    go_wp2_with fail
    go_returns
    exact ⟨by simp [giveC, HT.out]; cases x.release <;> simp; omega, ext_by⟩
  have g4 : (x.to == (-1 : Int)) = false := by simpa using ht
  have HT := hid ht
  clear ht
  cases hw1 : withB x.release.length 1 4
  · have W1 := hid hw1
    clear hw1
    go_wp2_with (go_at_call 31; (with_reducible refine (cwithin_to W1.out _).yields ?_); intro p1)
    go_returns
    exact ⟨by simp [giveC, HT.out, W1.out], ext_by⟩
  have HW1 := hid hw1
  clear hw1
  go_wp2_with (go_at_call 31; (with_reducible refine (cwithin_to HW1.out _).yields ?_); intro p1)
  have hbx := fun (w' : World) (h : Ext ((w.alloc (.cells #[.int .i64 c.frame, .int .i64 c.epoch, .slice pp c.plans.length cp, .slice (some ⟨db, doff, none⟩) c.doms.length cd] 29 (0, 0))).alloc (.cells #[.int .i64 x.level, .int .u64 x.cats, .slice rp x.routes.length rc, .slice ep x.release.length ec, .int .i64 x.to, .int .i64 x.threads, .int .i64 x.groups, .int .i64 x.ring, .int .i64 x.sends, .int .i64 x.box] 58 (0, 0))) w') =>
    And.intro (boxed (Ext.trans (Ext.alloc (Ext.refl _) _) h) 0 (by simp)) (And.intro (boxed (Ext.trans (Ext.alloc (Ext.refl _) _) h) 1 (by simp)) (And.intro (boxed (Ext.trans (Ext.alloc (Ext.refl _) _) h) 2 (by simp)) (And.intro (boxed (Ext.trans (Ext.alloc (Ext.refl _) _) h) 3 (by simp)) (And.intro (boxed h 2 (by simp)) (And.intro (boxed h 3 (by simp)) (boxed h 4 (by simp)))))))
  have hx0 : Ext w ((w.alloc (.cells #[.int .i64 c.frame, .int .i64 c.epoch, .slice pp c.plans.length cp, .slice (some ⟨db, doff, none⟩) c.doms.length cd] 29 (0, 0))).alloc (.cells #[.int .i64 x.level, .int .u64 x.cats, .slice rp x.routes.length rc, .slice ep x.release.length ec, .int .i64 x.to, .int .i64 x.threads, .int .i64 x.groups, .int .i64 x.ring, .int .i64 x.sends, .int .i64 x.box] 58 (0, 0))) := Ext.alloc (Ext.alloc (Ext.refl _) _) _
  generalize (w.alloc (.cells #[.int .i64 c.frame, .int .i64 c.epoch, .slice pp c.plans.length cp, .slice (some ⟨db, doff, none⟩) c.doms.length cd] 29 (0, 0))).alloc (.cells #[.int .i64 x.level, .int .u64 x.cats, .slice rp x.routes.length rc, .slice ep x.release.length ec, .int .i64 x.to, .int .i64 x.threads, .int .i64 x.groups, .int .i64 x.ring, .int .i64 x.sends, .int .i64 x.box] 58 (0, 0)) = W1 at *
  simp only [List.getElem?_toArray, List.getElem?_cons_succ, List.getElem?_cons_zero, World.size_alloc] at hbx
  have HBX := hid hbx
  clear hbx
  go_loopw [28] (fun v6 wr => Ext W1 wr ∧ ∃ k : Nat, v6 = .int .i64 k ∧ k ≤ x.release.length ∧ Hid ((x.release.take k).all (fun n => withB n 0 c.frame) = true)) (fun v6 _ => (x.release.length - intOf v6).toNat)
  case atStart => exact ⟨(by repeat (first | exact Ext.refl _ | refine Ext.more ?_ _)), 0, rfl, by omega, rfl⟩
  case round =>
    obtain ⟨hx, k, rfl, hk, ht⟩ := hrel
    obtain ⟨b0, b1, b2, b3, q2, q3, q4⟩ := HBX.out _ hx
    have hw := hx0.trans hx
    have hbs : w.heap.size + 1 < wr.heap.size := World.block_lt_of_cell? _ _ q3
    have hbs' : w.heap.size < wr.heap.size := by omega
    by_cases hlt : k < x.release.length
    · obtain ⟨eb, eo, rfl, s0, -⟩ := DEh.out.at k hlt
      simp only [Nat.mul_one] at s0
      have f0 := hw.cell s0
      have hA := hid (all_take' x.release (fun n => withB n 0 c.frame) k hlt ht.out)
      have hB := hid (all_bad' x.release (fun n => withB n 0 c.frame) k hlt)
      clear s0
      generalize x.release[k] = n at *
      have i3 : (k : Int) < x.release.length := by omega
      cases hwx : withB n 0 c.frame
      · have HWX := hid hwx
        clear hwx
        go_wp2_with (go_at_call 31; refine (cwithin_to HWX.out _).yields ?_; intro p1)
        go_returns
        exact ⟨by simp [giveC, HT.out, hB.out HWX.out], hw.more _⟩
      · have HWX := hid hwx
        clear hwx
        go_wp2_with (go_at_call 31; refine (cwithin_to HWX.out _).yields ?_; intro p1)
        go_roundw
        case rel => exact ⟨hx.more _, k + 1, by go_num, by omega, by unfold Hid; rw [hA.out]; exact HWX.out⟩
        case measure => simp [intOf]; omega
    · obtain rfl : k = x.release.length := by omega
      have h1 := ht.out
      rw [List.take_length] at h1
      have H1 := hid h1
      clear h1
      have HCW := hid (HC.out.ext hw)
      cases hpl : withB x.to 0 ((c.doms.length : Int) - 1)
      · have HPL := hid hpl
        clear hpl
        go_wp2_with (go_at_call 36; refine (isPlace_to HPL.out _ _ _ HCW.out).yields ?_; intro p1)
        go_returns
        exact ⟨by simp [giveC, HT.out, H1.out, HW1.out, HPL.out], hw.more _⟩
      have hwb := withB_iff.1 hpl
      have HPL := hid hpl
      obtain ⟨j, hj⟩ := Int.eq_ofNat_of_zero_le hwb.1
      rw [hj] at hwb q4
      have hjl : j < c.doms.length := by omega
      have HJ := hid hj
      clear hj hpl
      cases hab : risesB (labAt c.doms j).1 (labAt c.doms j).2 (labAt c.doms i).1 (labAt c.doms i).2
      all_goals
        have HAB := hid hab
        clear hab
        go_wp2_with (first | (go_at_call 36; refine (isPlace_to (HJ.out ▸ HPL.out) _ _ _ HCW.out).yields ?_; intro p1) | (go_at_call 37; refine (isAbove_to HAB.out _ _ _ (HCW.out.ext ext_by) hi hjl).yields ?_; intro p2))
        go_returns
        exact ⟨by simp [giveC, HT.out, H1.out, HW1.out, HPL.out]; rw [HJ.out, HAB.out], ext_by⟩
theorem gives_to {c : Cnf} {i : Nat} (hi : i < c.doms.length) {r : Bool} (e : giveC c.doms c.frame (labAt c.doms i) c.doms[i] = r) (w : World) (pv dv : Value) (hc : ConfV w c pv dv) :
    Calls Try.prog 34 #[confV c pv dv, .int .i64 i] w (Yields w (.bool r)) := e ▸ gives_any w c pv dv hc i hi
end Go.Proofs.Ytbnjfahjbemleaa

namespace Go.Proofs.Ytbnjfahjbemleaa
open Go.RowKit

set_option maxRecDepth 100000 in
set_option maxHeartbeats 8000000 in
theorem routed_any (w : World) (c : Cnf) (pv dv : Value) (hc : ConfV w c pv dv) :
    Calls Try.prog 28 #[confV c pv dv] w (Yields w (.bool (domsB c 0 c.doms))) := by
  obtain ⟨pp, cp, rfl, hp1, hp2⟩ := hc.plans.shape
  obtain ⟨pd, cd, rfl, hd1, hd2⟩ := hc.doms.shape
  unfold maxLen at hp2 hd2
  have HC := hid hc
  clear hc
  go_enter Try.func28, Try.ntmps28
  go_wp2
  have hbx := fun (w' : World) (h : Ext (w.alloc (.cells #[.int .i64 c.frame, .int .i64 c.epoch, .slice pp c.plans.length cp, .slice pd c.doms.length cd] 29 (0, 0))) w') =>
    And.intro (boxed h 0 (by simp)) (And.intro (boxed h 1 (by simp)) (And.intro (boxed h 2 (by simp)) (boxed h 3 (by simp))))
  have hx0 : Ext w (w.alloc (.cells #[.int .i64 c.frame, .int .i64 c.epoch, .slice pp c.plans.length cp, .slice pd c.doms.length cd] 29 (0, 0))) := Ext.alloc (Ext.refl _) _
  generalize w.alloc (.cells #[.int .i64 c.frame, .int .i64 c.epoch, .slice pp c.plans.length cp, .slice pd c.doms.length cd] 29 (0, 0)) = W1 at *
  simp only [List.getElem?_toArray, List.getElem?_cons_succ, List.getElem?_cons_zero] at hbx
  have HBX := hid hbx
  clear hbx
  go_loopw [10] (fun v4 wr => Ext W1 wr ∧ ∃ k : Nat, v4 = .int .i64 k ∧ k ≤ c.doms.length ∧ Hid (∀ j (hj : j < c.doms.length), j < k → domB c j c.doms[j] = true)) (fun v4 _ => (c.doms.length - intOf v4).toNat)
  case atStart => exact ⟨Ext.refl _, 0, rfl, by omega, hid (fun j hj h => by omega)⟩
  case round =>
    obtain ⟨hx, k, rfl, hk, ht⟩ := hrel
    obtain ⟨b0, b1, b2, b3⟩ := HBX.out _ hx
    have hw := hx0.trans hx
    have hbs : w.heap.size < wr.heap.size := World.block_lt_of_cell? _ _ b0
    by_cases hlt : k < c.doms.length
    · have HBAD := hid (domsB_bad' c c.doms 0 rfl k hlt (Nat.zero_le _))
      have HEQ := hid (domC_eq hlt)
      have HNX : Hid (domB c k c.doms[k] = true → ∀ j (hj : j < c.doms.length), j < k + 1 → domB c j c.doms[j] = true) := fun h j hj hlt' => by
        by_cases he : j = k
        · subst he; exact h
        · exact ht.out j hj (by omega)
      have HCW := hid (HC.out.ext hw)
      obtain ⟨db, doff, rfl, vr, ve, D, DR, DE, -⟩ := HC.out.doms.at k hlt
      obtain ⟨rp, rc, rfl, hrc1, hrc2⟩ := DR.shape
      obtain ⟨ep, ec, rfl, -, -⟩ := DE.shape
      unfold maxLen at hrc2
      have DRh := hid DR
      obtain ⟨d0, d1, d2, d3, d4, d5, d6, d7, d8, d9⟩ := D.ext hw
      have hdb : db < wr.heap.size := World.block_lt_of_cell? _ _ d0
      clear D DR DE
      have HG := fun (r : Bool) (h : giveC c.doms c.frame (labAt c.doms k) c.doms[k] = r) => gives_to hlt h
      have HG' := hid HG
      clear HG
      generalize hd : c.doms[k] = d at *
      clear hd
      have i1 : (k : Int) < c.doms.length := by omega
      by_cases h3 : 3 < d.routes.length
      · have i3 : (3 : Int) < d.routes.length := by omega
        have g3 : decide ((3 : Int) < (d.routes.length : Int)) = true := by simpa using i3
        go_wp2_with fail
        go_returns
        refine ⟨?_, by repeat (first | exact hw | refine Ext.more ?_ _ | refine Ext.alloc ?_ _)⟩
        have : domC c k d = false := by unfold domC; rw [decide_eq_false (by omega)]; rfl
        simp [HBAD.out (by rw [HEQ.out, this])]
      have i3 : (d.routes.length : Int) ≤ 3 := by omega
      have g3 : decide ((3 : Int) < (d.routes.length : Int)) = false := by simpa using i3
      cases hg : giveC c.doms c.frame (labAt c.doms k) d
      · have HGV := hid (HG'.out _ hg)
        have HGE := hid hg
        clear hg
        go_wp2_with (go_at_call 34; refine (HGV.out _ _ _ (HCW.out.ext ext_by)).yields ?_; intro p1)
        go_returns
        refine ⟨?_, by repeat (first | exact hw | refine Ext.more ?_ _ | refine Ext.alloc ?_ _)⟩
        have : domC c k d = false := by unfold domC; rw [HGE.out, Bool.and_false, Bool.false_and]
        simp [HBAD.out (by rw [HEQ.out, this])]
      have HGV := hid (HG'.out _ hg)
      have HGE := hid hg
      clear hg
      go_wp2_with (go_at_call 34; refine (HGV.out _ _ _ (HCW.out.ext ext_by)).yields ?_; intro p1)
      go_loopw [28] (fun v6 wr => Ext W1 wr ∧ ∃ i : Nat, v6 = .int .i64 i ∧ i ≤ d.routes.length ∧ Hid ((d.routes.take i).all (fun r => !r.isEmpty && riseL c.doms (labAt c.doms k) r) = true)) (fun v6 _ => (d.routes.length - intOf v6).toNat)
      case atStart => exact ⟨(by repeat (first | exact hx | refine Ext.more ?_ _ | refine Ext.alloc ?_ _)), 0, rfl, by omega, rfl⟩
      case round =>
        clear hx hw hbs hdb b0 b1 b2 b3 d0 d1 d2 d3 d4 d5 d6 d7 d8 d9 HCW
        obtain ⟨hx, i, rfl, hi, ha⟩ := hrel
        obtain ⟨b0, b1, b2, b3⟩ := HBX.out _ hx
        have hw := hx0.trans hx
        by_cases hil : i < d.routes.length
        · obtain ⟨rb, ro, rfl, rv, r0, rn⟩ := DRh.out.at i hil
          have hgood := hid (fun (h : (!d.routes[i].isEmpty && riseL c.doms (labAt c.doms k) d.routes[i]) = true) => (all_take' d.routes (fun r => !r.isEmpty && riseL c.doms (labAt c.doms k) r) i hil ha.out).trans h)
          have hbad := hid (all_bad' d.routes (fun r => !r.isEmpty && riseL c.doms (labAt c.doms k) r) i hil)
          generalize d.routes[i] = row at *
          simp only [Nat.mul_one] at r0
          have RN := hid (rn.ext hw)
          have HCW := hid (HC.out.ext hw)
          have e0 := hw.cell r0
          have i2 : (i : Int) < d.routes.length := by omega
          clear rn r0
          cases hr : (!row.isEmpty && riseL c.doms (labAt c.doms k) row)
          · have HR := hid hr
            clear hr
            go_wp2_with (go_at_call 35; refine (rises_to HR.out hlt _ _ _ HCW.out _ RN.out).yields ?_; intro p2)
            go_returns
            refine ⟨?_, hw.more _⟩
            have : domC c k d = false := by unfold domC; rw [hbad.out HR.out, Bool.and_false]
            simp [HBAD.out (by rw [HEQ.out, this])]
          · have HR := hid hr
            clear hr
            go_wp2_with (go_at_call 35; refine (rises_to HR.out hlt _ _ _ HCW.out _ RN.out).yields ?_; intro p2)
            go_roundw
            case rel => exact ⟨hx.more _, i + 1, by go_num, by omega, hid (hgood.out HR.out)⟩
            case measure => simp [intOf]; omega
        · obtain rfl : i = d.routes.length := by omega
          have h1 := ha.out
          rw [List.take_length] at h1
          have H1 := hid h1
          clear h1
          go_wp2
          go_roundw
          case rel => exact ⟨hx, k + 1, by go_num, by omega, hid (HNX.out (by rw [HEQ.out]; unfold domC; rw [HGE.out, H1.out, decide_eq_true (by omega)]; rfl))⟩
          case measure => simp [intOf]; omega
    · obtain rfl : k = c.doms.length := by omega
      go_wp2
      go_returns
      exact ⟨by simp [domsB_all' c c.doms 0 rfl (fun j hj _ => ht.out j hj hj)], hw⟩
theorem routed_to {c : Cnf} {r : Bool} (e : domsB c 0 c.doms = r) (w : World) (pv dv : Value) (hc : ConfV w c pv dv) : Calls Try.prog 28 #[confV c pv dv] w (Yields w (.bool r)) := e ▸ routed_any w c pv dv hc

set_option maxRecDepth 100000 in
set_option maxHeartbeats 4000000 in
theorem confIs_any (w : World) (c : Cnf) (pv dv : Value) (hc : ConfV w c pv dv) :
    Calls Try.prog 17 #[confV c pv dv] w (Yields w (errV (isConf c))) := by
  obtain ⟨pp, cp, rfl, hp1, hp2⟩ := hc.plans.shape
  obtain ⟨pd, cd, rfl, hd1, hd2⟩ := hc.doms.shape
  unfold maxLen at hp2 hd2
  have HC := hid hc
  clear hc
  go_enter Try.func17, Try.ntmps17
  cases h0 : formB c
  · have Q0 := hid h0
    clear h0
    go_wp2_with (first | (go_at_call 25; (with_reducible refine (formed_to Q0.out _ _ _ (HC.out.ext ext_by)).yields ?_); intro p0))
    go_returns
    exact ⟨by simp [isConf, errV, Q0.out], ext_by⟩
  have Q0 := hid h0
  clear h0
  cases h1 : sharesB c
  · have Q1 := hid h1
    clear h1
    go_wp2_with (first | (go_at_call 25; (with_reducible refine (formed_to Q0.out _ _ _ (HC.out.ext ext_by)).yields ?_); intro p0) | (go_at_call 26; (with_reducible refine (shared_to Q1.out _ _ _ (HC.out.ext ext_by)).yields ?_); intro p1))
    go_returns
    exact ⟨by simp [isConf, errV, Q0.out, Q1.out], ext_by⟩
  have Q1 := hid h1
  clear h1
  cases h2 : c.doms.all quotaB
  · have Q2 := hid h2
    clear h2
    go_wp2_with (first | (go_at_call 25; (with_reducible refine (formed_to Q0.out _ _ _ (HC.out.ext ext_by)).yields ?_); intro p0) | (go_at_call 26; (with_reducible refine (shared_to Q1.out _ _ _ (HC.out.ext ext_by)).yields ?_); intro p1) | (go_at_call 27; (with_reducible refine (bounded_to Q2.out _ _ _ (HC.out.ext ext_by)).yields ?_); intro p2))
    go_returns
    exact ⟨by simp [isConf, errV, Q0.out, Q1.out, Q2.out], ext_by⟩
  have Q2 := hid h2
  clear h2
  cases h3 : domsB c 0 c.doms
  · have Q3 := hid h3
    clear h3
    go_wp2_with (first | (go_at_call 25; (with_reducible refine (formed_to Q0.out _ _ _ (HC.out.ext ext_by)).yields ?_); intro p0) | (go_at_call 26; (with_reducible refine (shared_to Q1.out _ _ _ (HC.out.ext ext_by)).yields ?_); intro p1) | (go_at_call 27; (with_reducible refine (bounded_to Q2.out _ _ _ (HC.out.ext ext_by)).yields ?_); intro p2) | (go_at_call 28; (with_reducible refine (routed_to Q3.out _ _ _ (HC.out.ext ext_by)).yields ?_); intro p3))
    go_returns
    exact ⟨by simp [isConf, errV, Q0.out, Q1.out, Q2.out, Q3.out], ext_by⟩
  have Q3 := hid h3
  clear h3
  go_wp2_with (first | (go_at_call 25; (with_reducible refine (formed_to Q0.out _ _ _ (HC.out.ext ext_by)).yields ?_); intro p0) | (go_at_call 26; (with_reducible refine (shared_to Q1.out _ _ _ (HC.out.ext ext_by)).yields ?_); intro p1) | (go_at_call 27; (with_reducible refine (bounded_to Q2.out _ _ _ (HC.out.ext ext_by)).yields ?_); intro p2) | (go_at_call 28; (with_reducible refine (routed_to Q3.out _ _ _ (HC.out.ext ext_by)).yields ?_); intro p3))
  go_returns
  exact ⟨by simp [isConf, errV, Q0.out, Q1.out, Q2.out, Q3.out], ext_by⟩
theorem confIs_to {c : Cnf} {n : Nat} (e : isConf c = n) (w : World) (pv dv : Value) (hc : ConfV w c pv dv) : Calls Try.prog 17 #[confV c pv dv] w (Yields w (errV n)) := e ▸ confIs_any w c pv dv hc

end Go.Proofs.Ytbnjfahjbemleaa
