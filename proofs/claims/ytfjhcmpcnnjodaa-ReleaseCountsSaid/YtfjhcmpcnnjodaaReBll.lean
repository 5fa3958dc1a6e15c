/- The program's Turn: slots as points of the plane, given away one domain after the other. -/
import Derived.Test.YtfjhcmpcnnjodaaReAll
import Derived.Test.YtfjhcmpcnnjodaaFlAll
import Derived.Test.YtfjhcmpcnnjodaaCxq
import Derived.WalkKit
import Derived.WalkSpells
import Derived.WalkLawsBesides
import Derived.Handy
import Derived.Laws.Cover3
import Derived.Laws.ComplexArith
import Derived.Laws.FloatArith
import Derived.Deep.LoopGhost
import Derived.Deep.RegionHeld3
import Derived.Test.YtfjhcmpcnnjodaaCfAll
import Derived.Test.YtfjhcmpcnnjodaaPlC
import Derived.Laws.MakeOwn
import Derived.Deep.CutRange
import Derived.Deep.CutBlock
namespace Go.Proofs.Ytfjhcmpcnnjodaa
open Go.RowKit

/-- A slot's point at the end. -/
def endP (c : Cnf) (own lv : List Int) (j : Nat) : Pr := (outAt c own lv j, freedAt c own lv j + 1)
/-- How it stands while domain d gives away: what lies below slot m is done. -/
def ptAt (c : Cnf) (own lv : List Int) (d : Int) (m j : Nat) : Pr := if at0 own j < d ∨ (at0 own j = d ∧ j < m) then endP c own lv j else (at0 own j, 0)
def ptL (c : Cnf) (own lv : List Int) (d : Int) (m : Nat) : List Pr := (List.range own.length).map (ptAt c own lv d m)
section
variable {c : Cnf} {own lv : List Int}
theorem ptL_length (c : Cnf) (own lv : List Int) (d : Int) (m : Nat) : (ptL c own lv d m).length = own.length := by simp [ptL]
theorem ptL_get {d : Int} {m j : Nat} (h : j < (ptL c own lv d m).length) : (ptL c own lv d m)[j] = ptAt c own lv d m j := by simp [ptL]
theorem ptL_congr {d d' : Int} {m m' : Nat} (h : ∀ j, j < own.length → ptAt c own lv d m j = ptAt c own lv d' m' j) : ptL c own lv d m = ptL c own lv d' m' := by
  unfold ptL
  exact List.map_congr_left fun j hj => h j (List.mem_range.1 hj)
theorem ptL_start (h : ∀ x ∈ own, 0 ≤ x) : ptL c own lv 0 0 = own.map fun x => (x, 0) := by
  apply List.ext_getElem
  · simp [ptL_length]
  · intro i h1 h2
    rw [ptL_get, List.getElem_map]
    have hi : i < own.length := by simpa using h2
    have := h _ (List.getElem_mem hi)
    unfold ptAt
    rw [at0_get hi, if_neg (by omega)]
theorem ptL_next (d : Int) : ptL c own lv d own.length = ptL c own lv (d + 1) 0 := ptL_congr fun j hj => by
  unfold ptAt
  by_cases h : at0 own j < d + 1
  · rw [if_pos (by omega), if_pos (by omega)]
  · rw [if_neg (by omega), if_neg (by omega)]
theorem ptL_end {n : Int} (h : ∀ x ∈ own, x < n) : ptL c own lv n 0 = (List.range own.length).map (endP c own lv) := by
  unfold ptL
  refine List.map_congr_left fun j hj => ?_
  have hj := List.mem_range.1 hj
  have := h _ (List.getElem_mem hj)
  unfold ptAt
  rw [at0_get hj, if_pos (by omega)]
theorem ptL_skip {d : Int} {k : Nat} (h : at0 own k ≠ d) : ptL c own lv d k = ptL c own lv d (k + 1) := ptL_congr fun j hj => by
  unfold ptAt
  by_cases e : j = k
  · subst e
    by_cases h1 : at0 own j < d
    · rw [if_pos (.inl h1), if_pos (.inl h1)]
    · rw [if_neg (by omega), if_neg (by omega)]
  · by_cases h1 : at0 own j < d ∨ (at0 own j = d ∧ j < k)
    · rw [if_pos h1, if_pos (by omega)]
    · rw [if_neg h1, if_neg (by omega)]
theorem ptL_same {d : Int} {k : Nat} (h : at0 own k = d) (hg : giv c own lv k = false) : ptL c own lv d k = ptL c own lv d (k + 1) := ptL_congr fun j hj => by
  unfold ptAt
  by_cases e : j = k
  · subst e
    rw [if_neg (by omega), if_pos (by omega)]
    unfold endP outAt freedAt
    rw [hg]; simp
  · by_cases h1 : at0 own j < d ∨ (at0 own j = d ∧ j < k)
    · rw [if_pos h1, if_pos (by omega)]
    · rw [if_neg h1, if_neg (by omega)]
theorem ptL_set {d : Int} {k : Nat} (h : at0 own k = d) (hg : giv c own lv k = true) : (ptL c own lv d k).set k (toOf c d, d + 1) = ptL c own lv d (k + 1) := by
  apply List.ext_getElem
  · rw [List.length_set, ptL_length, ptL_length]
  · intro i h1 h2
    rw [List.getElem_set]
    simp only [ptL, List.getElem_map, List.getElem_range]
    unfold ptAt
    by_cases e : k = i
    · subst e
      rw [if_pos rfl, if_pos (by omega)]
      unfold endP outAt freedAt
      rw [hg, h]; simp
    · rw [if_neg e]
      by_cases h3 : at0 own i < d ∨ (at0 own i = d ∧ i < k)
      · rw [if_pos h3, if_pos (by omega)]
      · rw [if_neg h3, if_neg (by omega)]
/-- Whoever gives isn't nobody: only d's own slots that it hasn't given away lie at (d, 0). -/
theorem ptAt_own {d : Int} {k : Nat} (h : at0 own k = d) : ptAt c own lv d k k = (d, 0) := by
  unfold ptAt
  rw [if_neg (by omega), h]
theorem ptAt_other {d : Int} {k : Nat} (h0 : 0 ≤ at0 own k) (h : at0 own k ≠ d) : ¬ ((ptAt c own lv d k k).1 = d ∧ (ptAt c own lv d k k).2 = 0) := by
  unfold ptAt endP outAt freedAt
  generalize at0 own k = x at *
  split
  · split
    · simp; omega
    · simp; omega
  · simp; omega
theorem ptAt_bound {N : Int} (hN : 0 < N) (ht : ∀ d : Int, -1 ≤ toOf c d ∧ toOf c d < N) {d : Int} {m j : Nat} (h : 0 ≤ at0 own j ∧ at0 own j < N) : -1 ≤ (ptAt c own lv d m j).1 ∧ (ptAt c own lv d m j).1 < N ∧ 0 ≤ (ptAt c own lv d m j).2 ∧ (ptAt c own lv d m j).2 ≤ N := by
  unfold ptAt endP outAt freedAt
  have := ht (at0 own j)
  generalize at0 own j = x at *
  split
  · split
    · simp; omega
    · simp; omega
  · simp; omega
theorem toOf_bound (g : Good c) (d : Int) : -1 ≤ toOf c d ∧ toOf c d < c.doms.length := by
  unfold toOf
  have d1 := g.d1
  by_cases hk : d.toNat < c.doms.length
  · simp only [List.getElem?_eq_getElem hk, Option.map_some, Option.getD_some]
    have hd := domsB_get c 0 c.doms g.dom _ hk
    simp only [domB, Bool.and_eq_true] at hd
    have hg := hd.2
    unfold giveB at hg
    split at hg
    · omega
    · simp only [Bool.and_eq_true, withB_iff] at hg
      have := hg.1.1.1.1.1
      omega
  · rw [List.getElem?_eq_none (by omega)]
    simp
    omega
end

theorem eq_Fz {a b : Int} (ha : a.natAbs < 2 ^ 53) (hb : b.natAbs < 2 ^ 53) : (FloatKind.f64.format.order (Fz a) (Fz b) == some .eq) = decide (a = b) := by
  rw [show FloatKind.f64.format = Ieee.double from rfl, order_Fz ha hb]
  simp only [compare, compareOfLessAndEq]
  by_cases h : a < b
  · simp [h]; omega
  · by_cases h' : a = b
    · subst h'; simp
    · simp [h, h']

set_option maxHeartbeats 400000 in
theorem pown_any {d : Int} (hd : d.natAbs < 2 ^ 53) (w : World) : Calls Try.prog 19 #[.int .i64 d] w (Yields w (cV (d, 0))) := by
  have e1 := floatOfInt_eq hd
  clear hd
  unfold cV
  simp only [zero_Fz]
  generalize Fz d = q at *
  go_enter Try.func19, Try.ntmps19
  go_wp2
  go_returns
  exact ⟨by simp, ext_by⟩
set_option maxHeartbeats 400000 in
theorem gift_any {d t : Int} (hd : 0 ≤ d ∧ d ≤ 100) (ht : -1 ≤ t ∧ t ≤ 100) (w : World) : Calls Try.prog 22 #[.int .i64 d, .int .i64 t] w (Yields w (cV (t - d, d + 1))) := by
  have e1 := floatOfInt_eq (z := t - d) (by omega)
  have e2 := floatOfInt_eq (z := d + 1) (by omega)
  unfold cV
  simp only
  generalize hq : Fz (t - d) = q at *
  generalize hr : Fz (d + 1) = r at *
  clear hq hr
  go_enter Try.func22, Try.ntmps22
  go_wp2
  go_returns
  exact ⟨by simp, ext_by⟩

set_option maxRecDepth 100000 in
set_option maxHeartbeats 4000000 in
/-- What d gives away. -/
theorem give_any {c : Cnf} {own lv : List Int} {W w : World} {g : Nat} {d : Int} (hx : Ext W w) (hg : W.heap.size ≤ g) (hC : Cx w g (ptL c own lv d 0)) (hn : own.length ≤ 64) (hd : 0 ≤ d ∧ d ≤ 100) (ho : ∀ x ∈ own, 0 ≤ x ∧ x < 100) (ht : ∀ d : Int, -1 ≤ toOf c d ∧ toOf c d < 100) :
    Calls Try.prog 21 #[.slice (some ⟨g, 0, none⟩) own.length own.length, cV (d, 0), cV (toOf c d - d, d + 1), .int .i64 (cntTo own d own.length - amtN c d (at0 lv d.toNat))] w fun e w' => e = .returned (.tuple #[]) ∧ Ext W w' ∧ Cx w' g (ptL c own lv d own.length) := by
  have hA := amtN_bounds c d (at0 lv d.toNat)
  have hKn := cntTo_le own d own.length
  have HO := hid ho
  have HT := hid ht
  have HK : Hid (∀ k, k < own.length → at0 own k = d → (giv c own lv k = true ↔ (cntTo own d own.length - amtN c d (at0 lv d.toNat)) - cntTo own d k ≤ 0)) := hid fun k hk h => by
    have e : cntTo own d (k + 1) = cntTo own d k + if at0 own k = d then 1 else 0 := rfl
    rw [if_pos h] at e
    unfold giv behind
    rw [h, e]
    simp
    omega
  have hb := ht d
  have hsum := fun t w => run_complex_sum (P := Try.prog) w .add (.inl rfl) t .f64 _ _ _ _ _ _ (sum_Fz (a := d) (b := 0) (c := toOf c d - d) (d := d + 1) (by omega) (by omega) (by omega) (by omega))
  rw [show d + (toOf c d - d) = toOf c d by omega, show 0 + (d + 1) = d + 1 by omega, zero_Fz] at hsum
  have H0 := hid hC
  have hgl := hC.lt
  clear hC ho ht hb
  generalize hKK : cntTo own d own.length - amtN c d (at0 lv d.toNat) = K at *
  have hKb : -100 ≤ K ∧ K ≤ 100 := by omega
  clear hKK hA hKn
  unfold cV
  simp only [zero_Fz]
  go_enter Try.func21, Try.ntmps21
  go_wp2
  go_loopw [3, 12] (fun v3 v12 wr => Ext W wr ∧ ∃ (k : Nat) (kp : Int), v12 = .int .i64 k ∧ v3 = .int .i64 kp ∧ k ≤ own.length ∧ -200 ≤ kp ∧ kp ≤ 200 ∧ Hid (kp = K - cntTo own d k) ∧ Hid (Cx wr g (ptL c own lv d k))) (fun _ v12 _ => (own.length - intOf v12).toNat)
  case atStart => exact ⟨hx, 0, K, rfl, rfl, by omega, by omega, by omega, hid (by simp [cntTo]), H0⟩
  case round =>
    obtain ⟨hy, k, kp, rfl, rfl, hk, hp1, hp2, hkp, hCk⟩ := hrel
    by_cases hlt : k < own.length
    · have hkl : k < (ptL c own lv d k).length := by rw [ptL_length]; exact hlt
      have c0 := hCk.out.at hkl
      rw [ptL_get] at c0
      have c1 := hCk.out.frozen k
      have c2 := hCk.out.lt
      have hst : cntTo own d (k + 1) = cntTo own d k + if at0 own k = d then 1 else 0 := rfl
      have ho := HO.out _ (List.getElem_mem hlt)
      rw [← at0_get hlt] at ho
      have hcl := cntTo_le own d (k + 1)
      have i1 : (k : Int) < own.length := by omega
      have hbd := ptAt_bound (c := c) (lv := lv) (d := d) (m := k) (by decide) HT.out ho
      by_cases he : at0 own k = d
      · rw [if_pos he] at hst
        rw [ptAt_own he] at c0
        have e1 : (FloatKind.f64.format.order (Fz d) (Fz d) == some .eq) = true := by rw [eq_Fz (by omega) (by omega)]; simp
        have e2 : (FloatKind.f64.format.order 0 0 == some .eq) = true := by decide
        have hn1 : Hid (kp - 1 = K - cntTo own d (k + 1)) := hid (by rw [hkp.out, hst]; omega)
        have hn2 : kp - 1 = K - cntTo own d (k + 1) := hn1.out
        have hkp' := hkp.out
        have hk1 : -200 ≤ kp - 1 := by omega
        simp only [zero_Fz] at c0
        by_cases hp : kp ≤ 0
        · have hgv : giv c own lv k = true := (HK.out k hlt he).2 (by omega)
          have HS : Hid (∀ u, Ext wr u → Cx (u.setCell ⟨g, k, none⟩ (.complex .f64 (Fz (toOf c d)) (Fz (d + 1)))) g (ptL c own lv d (k + 1))) := hid fun u hu => by
            have := (hCk.out.ext hu).set k (.complex .f64 (Fz (toOf c d)) (Fz (d + 1)))
            rw [← ptL_set he hgv, Cx, List.map_set]; exact this
          clear hst hgv he hbd hcl ho hkp hn2 hkp' hCk
          generalize Fz (toOf c d) = q1 at *
          generalize Fz (toOf c d - d) = q2 at *
          generalize Fz (d + 1) = q3 at *
          generalize Fz d = q4 at *
          go_wp2
          all_goals
            go_roundw
            case rel => exact ⟨ext_by, k + 1, kp - 1, by go_num, rfl, by omega, by omega, by omega, hn1, hid (HS.out _ ext_by)⟩
            case measure => simp [intOf]; omega
        · have hgv : giv c own lv k = false := by
            cases h : giv c own lv k
            · rfl
            · exact absurd ((HK.out k hlt he).1 h) (by omega)
          have HS : Hid (Cx wr g (ptL c own lv d (k + 1))) := hid (by rw [← ptL_same he hgv]; exact hCk.out)
          clear hst hgv he hbd hcl ho hkp hn2 hkp' hCk
          generalize Fz (toOf c d - d) = q2 at *
          generalize Fz (d + 1) = q3 at *
          generalize Fz d = q4 at *
          go_wp2
          all_goals
            go_roundw
            case rel => exact ⟨ext_by, k + 1, kp - 1, by go_num, rfl, by omega, by omega, by omega, hn1, HS⟩
            case measure => simp [intOf]; omega
      · rw [if_neg he] at hst
        have hno := ptAt_other (c := c) (lv := lv) ho.1 he
        have HS : Hid (Cx wr g (ptL c own lv d (k + 1))) := hid (by rw [← ptL_skip he]; exact hCk.out)
        have hn1 : Hid (kp = K - cntTo own d (k + 1)) := hid (by rw [hkp.out, hst]; omega)
        generalize (ptAt c own lv d k k).1 = p1 at *
        generalize (ptAt c own lv d k k).2 = p2 at *
        have e1 : (FloatKind.f64.format.order (Fz p1) (Fz d) == some .eq) = decide (p1 = d) := eq_Fz (by omega) (by omega)
        have e2 : (FloatKind.f64.format.order (Fz p2) 0 == some .eq) = decide (p2 = 0) := by rw [← zero_Fz]; exact eq_Fz (by omega) (by omega)
        have e3 : ((FloatKind.f64.format.order (Fz p1) (Fz d) == some .eq) && (FloatKind.f64.format.order (Fz p2) 0 == some .eq)) = false := by
          rw [e1, e2]; simp; omega
        have hne := fun t w => run_neq_complex (P := Try.prog) w t .f64 (Fz p1) (Fz p2) (Fz d) 0
        rw [e3] at hne
        simp only [Bool.not_false] at hne
        clear e1 e2 e3 hst he hbd hcl ho hno hkp hCk
        generalize Fz (toOf c d - d) = q2 at *
        generalize Fz (d + 1) = q3 at *
        generalize Fz d = q4 at *
        generalize Fz p1 = q5 at *
        generalize Fz p2 = q6 at *
        go_wp2
        all_goals
          go_roundw
          case rel => exact ⟨ext_by, k + 1, kp, by go_num, rfl, by omega, by omega, by omega, hn1, HS⟩
          case measure => simp [intOf]; omega
    · obtain rfl : k = own.length := by omega
      have HE := hid hCk.out
      clear hCk hkp
      go_wp2
      all_goals
        go_returns
        exact ⟨rfl, hy, HE.out⟩
end Go.Proofs.Ytfjhcmpcnnjodaa

namespace Go.Proofs.Ytfjhcmpcnnjodaa
open Go.RowKit

set_option maxRecDepth 100000 in
set_option maxHeartbeats 4000000 in
theorem amount_all {c : Cnf} {pv dv : Value} {w : World} (hc : ConfV w c pv dv) (d l : Int) : Calls Try.prog 11 #[confV c pv dv, .int .i64 d, .int .i64 l] w (Yields w (.int .i64 (amtN c d l))) := by
  obtain ⟨pp, cp, rfl, hp1, hp2⟩ := hc.plans.shape
  obtain ⟨pd, cd, rfl, hd1, hd2⟩ := hc.doms.shape
  unfold maxLen at hp2 hd2
  have HC := hid hc
  by_cases hi : isConf c ≠ 0
  · have HI := hid hi
    have hE : Hid (amtN c d l = 0) := hid (amtN_out (.inl hi))
    have hn := fun v w => run_neq_iface_nil (P := Try.prog) w 64 v Try.underlying55
    clear hi hc
    go_enter Try.func11, Try.ntmps11
    go_wp2_with (go_at_call 23; refine (confIs_to rfl _ _ _ (HC.out.ext ext_by)).yields ?_; rw [errV_pos HI.out]; intro p1)
    go_returns
    exact ⟨by simp [hE.out], ext_by⟩
  have hi : isConf c = 0 := by omega
  have HI := hid hi
  by_cases h0 : d < 0
  · have hE : Hid (amtN c d l = 0) := hid (amtN_out (.inr (.inl h0)))
    clear hi hc
    go_enter Try.func11, Try.ntmps11
    go_wp2_with (go_at_call 23; refine (confIs_to HI.out _ _ _ (HC.out.ext ext_by)).yields ?_; rw [errV_0]; intro p1)
    go_returns
    exact ⟨by simp [hE.out], ext_by⟩
  by_cases h1 : (c.doms.length : Int) ≤ d
  · have hE : Hid (amtN c d l = 0) := hid (amtN_out (.inr (.inr (.inl h1))))
    clear hi hc
    go_enter Try.func11, Try.ntmps11
    go_wp2_with (go_at_call 23; refine (confIs_to HI.out _ _ _ (HC.out.ext ext_by)).yields ?_; rw [errV_0]; intro p1)
    go_returns
    exact ⟨by simp [hE.out], ext_by⟩
  obtain ⟨k, rfl⟩ : ∃ k : Nat, d = k := ⟨d.toNat, by omega⟩
  have hk : k < c.doms.length := by omega
  obtain ⟨db, doff, rfl, vr, ve, DC, -, hrel, -⟩ := hc.doms.at k hk
  have c3 := DC.release
  have hdb := World.block_lt_of_cell? _ _ c3
  obtain ⟨pe, ce, rfl, he1, he2⟩ := hrel.shape
  unfold maxLen at he2
  have hrl := relOf_get hk
  have i1 : (k : Int) < c.doms.length := by omega
  by_cases h2 : l < 0
  · have hE : Hid (amtN c k l = 0) := hid (amtN_out (.inr (.inr (.inr (.inl h2)))))
    clear hi hc DC hrel hrl
    generalize c.doms[k].release = rel at *
    go_enter Try.func11, Try.ntmps11
    go_wp2_with (go_at_call 23; refine (confIs_to HI.out _ _ _ (HC.out.ext ext_by)).yields ?_; rw [errV_0]; intro p1)
    go_returns
    exact ⟨by simp [hE.out], ext_by⟩
  by_cases h3 : (c.doms[k].release.length : Int) ≤ l
  · have hE : Hid (amtN c k l = 0) := hid (amtN_out (.inr (.inr (.inr (.inr (by rw [hrl]; exact h3))))))
    clear hi hc DC hrel hrl
    generalize c.doms[k].release = rel at *
    go_enter Try.func11, Try.ntmps11
    go_wp2_with (go_at_call 23; refine (confIs_to HI.out _ _ _ (HC.out.ext ext_by)).yields ?_; rw [errV_0]; intro p1)
    go_returns
    exact ⟨by simp [hE.out], ext_by⟩
  · obtain ⟨j, rfl⟩ : ∃ j : Nat, l = j := ⟨l.toNat, by omega⟩
    have hj : j < c.doms[k].release.length := by omega
    have hE : Hid (amtN c k j = c.doms[k].release[j]) := hid (amtN_get hi hk hj)
    obtain ⟨eb, eo, rfl, e0, -⟩ := hrel.at j hj
    simp only [Nat.mul_one] at e0
    have heb := World.block_lt_of_cell? _ _ e0
    have i2 : (j : Int) < c.doms[k].release.length := by omega
    clear hi hc DC hrel hrl
    generalize c.doms[k].release[j] = x at *
    generalize c.doms[k].release = rel at *
    go_enter Try.func11, Try.ntmps11
    go_wp2_with (go_at_call 23; refine (confIs_to HI.out _ _ _ (HC.out.ext ext_by)).yields ?_; rw [errV_0]; intro p1)
    go_returns
    exact ⟨by simp [hE.out], ext_by⟩
theorem amount_any {c : Cnf} {pv dv : Value} {w : World} (hc : ConfV w c pv dv) (_ : ∀ d ∈ c.doms, ∀ r ∈ d.routes, r.length ≤ 300) (d l : Int) : Calls Try.prog 11 #[confV c pv dv, .int .i64 d, .int .i64 l] w (Yields w (.int .i64 (amtN c d l))) := amount_all hc d l
theorem amount_to {c : Cnf} {pv dv : Value} {w : World} (hc : ConfV w c pv dv) (_ : ∀ d ∈ c.doms, ∀ r ∈ d.routes, r.length ≤ 300) {d l r : Int} (e : amtN c d l = r) : Calls Try.prog 11 #[confV c pv dv, .int .i64 d, .int .i64 l] w (Yields w (.int .i64 r)) := e ▸ amount_all hc d l

/-- Whether a number is no place of n. -/
def outB (n x : Int) : Bool := decide (x < 0) || decide (n ≤ x)
set_option maxHeartbeats 400000 in
theorem out_any {B n cd : Nat} {pd : Option Addr} {x : Int} {w : World} (hB : w.cell? ⟨B, 3, none⟩ = some (.slice pd n cd)) : Calls Try.prog 31 #[.int .i64 x, .pointer (some ⟨B, 0, none⟩)] w (Yields w (.bool (outB n x))) := by
  by_cases h : x < 0
  · go_enter Try.func31, Try.ntmps31
    go_wp2
    all_goals
      go_returns
      exact ⟨by simp [outB, h], ext_by⟩
  · by_cases h2 : (n : Int) ≤ x
    · go_enter Try.func31, Try.ntmps31
      go_wp2
      all_goals
        go_returns
        exact ⟨by simp [outB, h2]; try omega, ext_by⟩
    · go_enter Try.func31, Try.ntmps31
      go_wp2
      all_goals
        go_returns
        exact ⟨by simp [outB, h2]; try omega, ext_by⟩
set_option maxRecDepth 100000 in
set_option maxHeartbeats 1000000 in
theorem indexO_any {B n cd : Nat} {pd : Option Addr} {v : Value} {l : List Int} {w : World} (h : Ints w v l) (hB : w.cell? ⟨B, 3, none⟩ = some (.slice pd n cd)) :
    Calls Try.prog 42 #[v, .func (.func 31) #[] #[.pointer (some ⟨B, 0, none⟩)]] w fun e w' => ∃ n' : Int, e = .returned (.int .i64 n') ∧ (l.any (outB n) = true → 0 ≤ n') ∧ (l.any (outB n) = false → n' < 0) ∧ Ext w w' := by
  obtain ⟨pa, ca, rfl, hca, hma⟩ := h.shape
  unfold maxLen at hma
  have HA := hid h
  have HB := hid hB
  clear h hB
  go_enter Try.func42, Try.ntmps42
  go_wp2
  go_loopw [8] (fun v8 wr => Ext w wr ∧ ∃ k : Nat, v8 = .int .i64 k ∧ k ≤ l.length ∧ Hid ((l.take k).any (outB n) = false)) (fun v8 _ => (l.length - intOf v8).toNat)
  case atStart => exact ⟨Ext.refl _, 0, rfl, by omega, rfl⟩
  case round =>
    obtain ⟨hx, k, rfl, hk, ht⟩ := hrel
    by_cases hlt : k < l.length
    · obtain ⟨ba, oa, rfl, a0⟩ := HA.out.at k hlt
      have c0 := hx.cell a0
      simp only [Nat.mul_one] at c0
      have hN : Hid ((l.take (k + 1)).any (outB n) = ((l.take k).any (outB n) || outB n l[k])) := hid (by rw [List.take_succ_eq_append_getElem hlt, List.any_append]; simp)
      have hF := hid (fun (h : outB n l[k] = true) => (List.any_eq_true.2 ⟨l[k], List.getElem_mem hlt, h⟩ : l.any (outB n) = true))
      have HX := hid hx
      clear a0
      generalize l[k] = x at *
      have i1 : (k : Int) < l.length := by omega
      cases h0 : outB n x
      · have H0 := hid h0
        clear h0
        have hcall := hid (fun u (hu : Ext wr u) => H0.out ▸ out_any (x := x) (hu.cell (HX.out.cell HB.out)))
        go_wp2_with (go_at_call 31; (with_reducible refine (hcall.out _ ext_by).yields ?_); intro p0)
        go_roundw
        case rel => exact ⟨ext_by, k + 1, by go_num, by omega, hid (by rw [hN.out, ht.out]; simp [H0.out])⟩
        case measure => simp [intOf]; omega
      · have H0 := hid h0
        clear h0
        have hcall := hid (fun u (hu : Ext wr u) => H0.out ▸ out_any (x := x) (hu.cell (HX.out.cell HB.out)))
        go_wp2_with (go_at_call 31; (with_reducible refine (hcall.out _ ext_by).yields ?_); intro p0)
        go_returns
        exact ⟨_, rfl, fun _ => by omega, (fun h => by rw [hF.out H0.out] at h; cases h), ext_by⟩
    · obtain rfl : k = l.length := by omega
      have he := ht.out
      rw [List.take_length] at he
      have HE := hid he
      clear he
      go_wp2
      go_returns
      exact ⟨_, rfl, (fun h => by rw [HE.out] at h; cases h), fun _ => by omega, hx⟩
set_option maxHeartbeats 1000000 in
theorem containsO_any {B n cd : Nat} {pd : Option Addr} {v : Value} {l : List Int} {w : World} (h : Ints w v l) (hB : w.cell? ⟨B, 3, none⟩ = some (.slice pd n cd)) :
    Calls Try.prog 30 #[v, .func (.func 31) #[] #[.pointer (some ⟨B, 0, none⟩)]] w (Yields w (.bool (l.any (outB n)))) := by
  have HA := hid h
  have HB := hid hB
  clear h hB
  go_enter Try.func30, Try.ntmps30
  cases hb : l.any (outB n)
  · have HH := hid hb
    clear hb
    go_wp2_with fail
    refine (indexO_any HA.out HB.out).mono ?_
    rintro e w1 ⟨m, rfl, -, h2, hx⟩
    have hn := h2 HH.out
    clear h2
    go_wp2_with fail
    go_returns
    exact ⟨by simp; try omega, hx⟩
  · have HH := hid hb
    clear hb
    go_wp2_with fail
    refine (indexO_any HA.out HB.out).mono ?_
    rintro e w1 ⟨m, rfl, h1, -, hx⟩
    have hn := h1 HH.out
    clear h1
    go_wp2_with fail
    go_returns
    exact ⟨by simp; try omega, hx⟩
theorem containsO_to {B n cd : Nat} {pd : Option Addr} {v : Value} {l : List Int} {w : World} {r : Bool} (h : Ints w v l) (hB : w.cell? ⟨B, 3, none⟩ = some (.slice pd n cd)) (e : l.any (outB n) = r) :
    Calls Try.prog 30 #[v, .func (.func 31) #[] #[.pointer (some ⟨B, 0, none⟩)]] w (Yields w (.bool r)) := e ▸ containsO_any h hB
theorem all_out (l : List Int) (n : Nat) : l.all (fun x => decide (0 ≤ x) && decide (x < (n : Int))) = !(l.any (outB n)) := by
  rw [List.not_any_eq_all_not]
  congr 1
  funext x
  unfold outB
  by_cases h : 0 ≤ x <;> by_cases h2 : x < (n : Int) <;> simp [h, h2] <;> omega

set_option maxRecDepth 100000 in
set_option maxHeartbeats 2000000 in
theorem rmay_any {c : Cnf} {pv dv vo vl : Value} {own lv : List Int} {w : World} (hc : ConfV w c pv dv) (hO : Ints w vo own) (hL : Ints w vl lv) : Calls Try.prog 18 #[confV c pv dv, vo, vl] w (Yields w (.bool (okT c own lv))) := by
  obtain ⟨pp, cp, rfl, hp1, hp2⟩ := hc.plans.shape
  obtain ⟨pd, cd, rfl, hd1, hd2⟩ := hc.doms.shape
  obtain ⟨po, co, rfl, ho1, ho2⟩ := hO.shape
  obtain ⟨pl, cl, rfl, hl1, hl2⟩ := hL.shape
  unfold maxLen at hp2 hd2 ho2 hl2
  have HC := hid hc
  have HO := hid hO
  clear hO hL hc
  have HK : Hid (okT c own lv = (decide (isConf c = 0) && decide ((own.length : Int) = c.frame) && decide (lv.length = c.doms.length) && !(own.any (outB c.doms.length)))) := hid (by unfold okT; rw [all_out])
  by_cases hi : isConf c ≠ 0
  · have HI := hid hi
    have hE : Hid (okT c own lv = false) := hid (by rw [HK.out, decide_eq_false hi]; simp)
    have hn := fun v w => run_neq_iface_nil (P := Try.prog) w 64 v Try.underlying55
    clear hi
    go_enter Try.func18, Try.ntmps18
    go_wp2_with (go_at_call 23; refine (confIs_to rfl _ _ _ (HC.out.ext ext_by)).yields ?_; rw [errV_pos HI.out]; intro p1)
    all_goals
      go_returns
      exact ⟨by simp [hE.out], ext_by⟩
  have hi : isConf c = 0 := by omega
  have HI := hid hi
  by_cases h1 : (own.length : Int) = c.frame
  · by_cases h2 : (lv.length : Int) = (c.doms.length : Int)
    · have hE : Hid (okT c own lv = !(own.any (outB c.doms.length))) := hid (by rw [HK.out, decide_eq_true hi, decide_eq_true h1, decide_eq_true (by omega : lv.length = c.doms.length)]; simp)
      have hm1 : ((own.length : Int) == c.frame) = true := by simpa using h1
      have hm2 : ((own.length : Int) != c.frame) = false := by simpa using h1
      have hm3 : ((lv.length : Int) == (c.doms.length : Int)) = true := by simp; omega
      have hm4 : ((lv.length : Int) != (c.doms.length : Int)) = false := by simp; omega
      clear hi h1 h2
      cases hb : own.any (outB c.doms.length)
      all_goals
        have HB := hid hb
        clear hb
        go_enter Try.func18, Try.ntmps18
        go_wp2_with (first
          | (go_at_call 23; refine (confIs_to HI.out _ _ _ (HC.out.ext ext_by)).yields ?_; rw [errV_0]; intro p1)
          | (go_at_call 30; refine (containsO_to (B := w.heap.size) (n := c.doms.length) (pd := pd) (cd := cd) (HO.out.ext ext_by) ((ext_more _ _).cell (by simp [go_sem])) HB.out).yields ?_; intro p2))
        all_goals
          go_returns
          exact ⟨by simp [hE.out, HB.out], ext_by⟩
    · have hE : Hid (okT c own lv = false) := hid (by rw [HK.out, decide_eq_false (by omega : lv.length ≠ c.doms.length)]; simp)
      have hm1 : ((own.length : Int) == c.frame) = true := by simpa using h1
      have hm2 : ((own.length : Int) != c.frame) = false := by simpa using h1
      have hm3 : ((lv.length : Int) == (c.doms.length : Int)) = false := by simp; omega
      have hm4 : ((lv.length : Int) != (c.doms.length : Int)) = true := by simp; omega
      clear hi h1 h2
      go_enter Try.func18, Try.ntmps18
      go_wp2_with (go_at_call 23; refine (confIs_to HI.out _ _ _ (HC.out.ext ext_by)).yields ?_; rw [errV_0]; intro p1)
      all_goals
        go_returns
        exact ⟨by simp [hE.out], ext_by⟩
  · have hE : Hid (okT c own lv = false) := hid (by rw [HK.out, decide_eq_false h1]; simp)
    have hm1 : ((own.length : Int) == c.frame) = false := by simpa using h1
    have hm2 : ((own.length : Int) != c.frame) = true := by simpa using h1
    clear hi h1
    go_enter Try.func18, Try.ntmps18
    go_wp2_with (go_at_call 23; refine (confIs_to HI.out _ _ _ (HC.out.ext ext_by)).yields ?_; rw [errV_0]; intro p1)
    all_goals
      go_returns
      exact ⟨by simp [hE.out], ext_by⟩
theorem rmay_to {c : Cnf} {pv dv vo vl : Value} {own lv : List Int} {w : World} {r : Bool} (hc : ConfV w c pv dv) (hO : Ints w vo own) (hL : Ints w vl lv) (e : okT c own lv = r) : Calls Try.prog 18 #[confV c pv dv, vo, vl] w (Yields w (.bool r)) := e ▸ rmay_any hc hO hL
end Go.Proofs.Ytfjhcmpcnnjodaa

namespace Go.Proofs.Ytfjhcmpcnnjodaa
open Go.RowKit

theorem run_makeCF (n : Nat) (hn : n ≤ 64) (w : World) : (Instr.makeSlice 48 (.int .i64 n) (.int .i64 n)).run Try.prog w = .ok (.slice (some ⟨w.heap.size, 0, none⟩) n n) (w.alloc (.cells (List.replicate n (Value.complex .f64 0 0)).toArray 49)) := by
  obtain ⟨i0, hi, hz0, hz1, hz2⟩ := info_parts infoC
  have := run_make (P := Try.prog) w 48 49 i0 (.complex .f64 0 0) (by kernel_rfl) hi hz0 .i64 .i64 n n (by omega) (by omega) (by rw [hz2]; omega) (by omega)
  rw [this, Int.toNat_natCast, hz1, made_rep _ rfl]
/-- A row that is filled from the front. -/
def fillL (L : List Int) (k : Nat) : List Int := (List.range L.length).map fun j => if j < k then at0 L j else 0
theorem fillL_length (L : List Int) (k : Nat) : (fillL L k).length = L.length := by simp [fillL]
theorem fill_start (L : List Int) : fillL L 0 = List.replicate L.length 0 := by
  apply List.ext_getElem
  · simp [fillL]
  · intro i h1 h2
    simp [fillL]
theorem fill_set {L : List Int} {k : Nat} (h : k < L.length) : (fillL L k).set k L[k] = fillL L (k + 1) := by
  apply List.ext_getElem
  · simp [fillL]
  · intro i h1 h2
    rw [List.getElem_set]
    simp only [fillL, List.getElem_map, List.getElem_range]
    by_cases e : k = i
    · subst e
      rw [if_pos rfl, if_pos (by omega), at0_get h]
    · rw [if_neg e]
      by_cases h3 : i < k
      · rw [if_pos h3, if_pos (by omega)]
      · rw [if_neg h3, if_neg (by omega)]
theorem fill_end (L : List Int) : fillL L L.length = L := by
  apply List.ext_getElem
  · simp [fillL]
  · intro i h1 h2
    simp only [fillL, List.getElem_map, List.getElem_range]
    rw [if_pos h2, at0_get h2]

set_option maxRecDepth 100000 in
set_option maxHeartbeats 1000000 in
theorem turn_none {c : Cnf} {pv dv vo vl : Value} {own lv : List Int} {w : World} (hc : ConfV w c pv dv) (hO : Ints w vo own) (hL : Ints w vl lv) (h : okT c own lv = false) :
    Calls Try.prog 9 #[confV c pv dv, vo, vl] w (Yields w (.tuple #[.slice none 0 0, .slice none 0 0])) := by
  have HC := hid hc
  have HO := hid hO
  have HL := hid hL
  have HE := hid h
  clear hc hO hL h
  go_enter Try.func9, Try.ntmps9
  go_wp2_with (go_at_call 18; refine (rmay_to (HC.out.ext ext_by) (HO.out.ext ext_by) (HL.out.ext ext_by) HE.out).yields ?_; intro p1)
  all_goals
    refine bodyPost_ret (v := .tuple #[.slice none 0 0, .slice none 0 0]) (by simp [results, Try.results9, go_sem]) rfl ⟨rfl, ext_by⟩

set_option maxRecDepth 100000 in
set_option maxHeartbeats 3000000 in
theorem turn_some {c : Cnf} {pv dv vo vl : Value} {own lv : List Int} {w : World} (hc : ConfV w c pv dv) (hO : Ints w vo own) (hL : Ints w vl lv) (hk : okT c own lv = true) :
    Calls Try.prog 9 #[confV c pv dv, vo, vl] w fun e w' => ∃ a b, e = .returned (.tuple #[a, b]) ∧ Ext w w' ∧ Ints w' a (outL c own lv) ∧ Ints w' b (freedL c own lv) := by
  have hk2 := hk
  unfold okT at hk2
  simp only [Bool.and_eq_true, decide_eq_true_eq] at hk2
  obtain ⟨⟨⟨hi, h1⟩, h2⟩, hall⟩ := hk2
  have G := Good.of hi
  have hown : ∀ x ∈ own, 0 ≤ x ∧ x < (c.doms.length : Int) := fun x hx => by have := List.all_eq_true.1 hall x hx; simpa using this
  have hto := toOf_bound G
  obtain ⟨pp, cp, rfl, hp1, hp2⟩ := hc.plans.shape
  obtain ⟨pd, cd, rfl, hd1, hd2⟩ := hc.doms.shape
  obtain ⟨po, co, rfl, ho1, ho2⟩ := hO.shape
  obtain ⟨pl, cl, rfl, hl1, hl2⟩ := hL.shape
  unfold maxLen at hp2 hd2 ho2 hl2
  have f64 := G.f64
  have d6 := G.d6
  have d1 := G.d1
  have hol : own.length ≤ 64 := by omega
  have HC := hid hc
  have HO := hid hO
  have HL := hid hL
  have HK := hid hk
  have HW := hid hown
  have HT := hid hto
  have H2 := hid h2
  have hmf := run_makeCF own.length hol
  clear hc hO hL hk hall hown hto hi G h1 h2 f64
  go_enter Try.func9, Try.ntmps9
  go_upto_region 3 with (go_at_call 18; refine (rmay_to (HC.out.ext ext_by) (HO.out.ext ext_by) (HL.out.ext ext_by) HK.out).yields ?_; intro p1)
  refine wp_forget (fun u => Ext w u ∧ u.cell? ⟨w.heap.size, 0, none⟩ = some (.int .i64 c.frame) ∧ u.cell? ⟨w.heap.size, 1, none⟩ = some (.int .i64 c.epoch) ∧ u.cell? ⟨w.heap.size, 2, none⟩ = some (.slice pp c.plans.length cp) ∧ u.cell? ⟨w.heap.size, 3, none⟩ = some (.slice pd c.doms.length cd)) ⟨ext_by, by simp [go_sem], by simp [go_sem], by simp [go_sem], by simp [go_sem]⟩ ?_
  rintro W ⟨X, k0, k1, k2, k3⟩
  have hbW : w.heap.size < W.heap.size := World.block_lt_of_cell? _ _ k0
  go_upto_region 4 with fail
  have HP0 : Hid (Cx (W.alloc (.cells (Array.replicate own.length (Value.complex .f64 0 0)) 49 (0, 0))) W.heap.size ((fillL own 0).map fun x => (x, 0))) := hid (by
    rw [fill_start, List.map_replicate]
    unfold Cx
    rw [List.map_replicate]
    have := Blk.new W 49 (List.replicate own.length (cV (0, 0)))
    simpa [cV, zero_Fz] using this)
  refine wp_forget (fun u => Ext W u ∧ Hid (Cx u W.heap.size ((fillL own 0).map fun x => (x, 0)))) ⟨ext_by, HP0⟩ ?_
  rintro W1 ⟨X1, HP1⟩
  clear HP0 hmf
  obtain ⟨g, hg⟩ : ∃ g, g = W.heap.size := ⟨_, rfl⟩
  have hgW : W.heap.size ≤ g := by omega
  rw [← hg] at HP1
  simp only [← hg]
  clear hg
  go_wp2
  go_loopw [28] (fun v28 wr => Ext W wr ∧ ∃ k : Nat, v28 = .int .i64 k ∧ k ≤ own.length ∧ Hid (Cx wr g ((fillL own k).map fun x => (x, 0)))) (fun v28 _ => (own.length - intOf v28).toNat)
  case atStart => exact ⟨X1, 0, rfl, by omega, HP1⟩
  case round =>
    obtain ⟨hx, k, rfl, hk, hC⟩ := hrel
    by_cases hlt : k < own.length
    · obtain ⟨b', o', rfl, a0⟩ := (HO.out.ext (X.trans hx)).at k hlt
      simp only [Nat.mul_one] at a0
      have hkl : k < ((fillL own k).map fun x => ((x, 0) : Pr)).length := by rw [List.length_map, fillL_length]; exact hlt
      have c0 := hC.out.at hkl
      have c1 := hC.out.frozen k
      have c2 := hC.out.lt
      have i1 : (k : Int) < own.length := by omega
      have hb := HW.out _ (List.getElem_mem hlt)
      have HS : Hid (∀ u, Ext wr u → Cx (u.setCell ⟨g, k, none⟩ (.complex .f64 (Fz own[k]) (Fz 0))) g ((fillL own (k + 1)).map fun x => (x, 0))) := hid fun u hu => by
        have := (hC.out.ext hu).set k (cV (own[k], 0))
        rw [← fill_set hlt, Cx, List.map_set, List.map_set]; exact this
      have HF : Hid (∀ u, Calls Try.prog 19 #[.int .i64 own[k]] u (Yields u (.complex .f64 (Fz own[k]) (Fz 0)))) := hid fun u => pown_any (by omega) u
      clear hC hb
      generalize Fz own[k] = q at *
      generalize own[k] = x at *
      generalize Fz 0 = q0 at *
      go_wp2_with (go_at_call 19; (with_reducible refine (HF.out _).yields ?_); intro p2)
      all_goals
        go_roundw
        case rel => exact ⟨ext_by, k + 1, by go_num, by omega, hid ((HS.out _ (Ext.refl _)).ext (ext_more _ _))⟩
        case measure => simp [intOf]; omega
    · obtain rfl : k = own.length := by omega
      have HP2 : Hid (Cx wr g (ptL c own lv 0 0)) := hid (by
        have := hC.out
        rw [fill_end] at this
        rw [ptL_start fun x hx => (HW.out x hx).1]; exact this)
      clear hC X1 HP1
      go_wp2
      go_loopw [41] (fun v41 wy => Ext W wy ∧ ∃ d : Nat, v41 = .int .i64 d ∧ d ≤ lv.length ∧ Hid (Cx wy g (ptL c own lv d 0))) (fun v41 _ => (lv.length - intOf v41).toNat)
      case atStart => exact ⟨hx, 0, rfl, by omega, HP2⟩
      case round =>
        obtain ⟨hy, d, rfl, hd, hC⟩ := hrel
        have m0 := hy.cell k0
        have m1 := hy.cell k1
        have m2 := hy.cell k2
        have m3 := hy.cell k3
        by_cases hdl : d < lv.length
        · have i0 : (d : Int) < lv.length := by omega
          have hlt : d < c.doms.length := by have := H2.out; omega
          have i1 : (d : Int) < c.doms.length := by omega
          obtain ⟨b', o', rfl, a0⟩ := (HL.out.ext (X.trans hy)).at d hdl
          simp only [Nat.mul_one] at a0
          have HAM : Hid (∀ u, Ext wr u → Calls Try.prog 11 #[confV c (.slice pp c.plans.length cp) (.slice pd c.doms.length cd), .int .i64 d, .int .i64 lv[d]] u (Yields u (.int .i64 (amtN c d lv[d])))) := hid fun u hu => amount_all (HC.out.ext ((X.trans hy).trans hu)) d lv[d]
          obtain ⟨db, doff, rfl, vr, ve, DC, -, -, -⟩ := (HC.out.ext (X.trans hy)).doms.at d hlt
          have t4 := DC.to
          clear DC
          have n0 := more_cell m0
          have n1 := more_cell m1
          have n2 := more_cell m2
          have n3 := more_cell m3
          have n4 := more_cell a0
          have n5 := more_cell t4
          have hlv : at0 lv ((d : Nat) : Int).toNat = lv[d] := by rw [Int.toNat_natCast, at0_get hdl]
          have hlb := amtN_bounds c d lv[d]
          have hcb := cntTo_le own d own.length
          have htd : toOf c d = c.doms[d].to := toOf_get hlt
          have htb := HT.out d
          rw [htd] at htb
          have HCN : Hid (∀ u, Ext wr u → Calls Try.prog 20 #[.slice po own.length co, .int .i64 d] u (Yields u (.int .i64 (cntTo own d own.length)))) := hid fun u hu => pcount_any (HO.out.ext ((X.trans hy).trans hu))
          have HGV : Hid (∀ u, Ext wr u → Calls Try.prog 21 #[.slice (some ⟨g, 0, none⟩) own.length own.length, cV ((d : Int), 0), cV (c.doms[d].to - d, (d : Int) + 1), .int .i64 (cntTo own d own.length - amtN c d lv[d])] u fun e w' => e = .returned (.tuple #[]) ∧ Ext W w' ∧ Cx w' g (ptL c own lv ((d + 1 : Nat) : Int) 0)) := hid fun u hu => by
            have := give_any (lv := lv) (hy.trans hu) hgW (hC.out.ext hu) hol (d := d) (by omega) (fun x hx => by have := HW.out x hx; omega) (fun d => by have := HT.out d; omega)
            rw [hlv, htd, ptL_next] at this
            exact this
          have HOW : Hid (∀ u, Calls Try.prog 19 #[.int .i64 d] u (Yields u (cV ((d : Int), 0)))) := hid fun u => pown_any (by omega) u
          have HGF : Hid (∀ u, Calls Try.prog 22 #[.int .i64 d, .int .i64 c.doms[d].to] u (Yields u (cV (c.doms[d].to - d, (d : Int) + 1)))) := hid fun u => gift_any (by omega) (by omega) u
          clear hlv htd htb hC
          generalize cV ((d : Int), 0) = q1 at *
          generalize cV (c.doms[d].to - d, (d : Int) + 1) = q2 at *
          generalize cntTo own d own.length = cn at *
          generalize amtN c d lv[d] = am at *
          generalize c.doms[d].to = t at *
          generalize lv[d] = x at *
          have hcn : cn ≤ 64 := by omega
          go_upto_region 12 with fail
          ((first | refine wp_region_more (by kernel_rfl) (by kernel_rfl) ?_ | refine wp_region_ext (by kernel_rfl) (by kernel_rfl) ?_); (try dsimp only [append_cons', append_nil']); (repeat (go_big_quiet_step ((first | (go_at_call 11; with_reducible refine Calls.more_of (HAM.out _ (ext_more _ _))) | (go_at_call 20; with_reducible refine Calls.more_of (HCN.out _ (ext_more _ _))))))); refine wpQuiet_nil ?_; rintro _ ⟨pq, rfl⟩)
          have xq := ext_more wr pq
          have o3 := n3 pq
          have o5 := n5 pq
          clear n0 n1 n2 n3 n4 n5
          have hHGV : Hid (∀ u, Ext (more wr pq) u → _) := hid fun u hu => HGV.out u (xq.trans hu)
          clear m0 m1 m2 m3 a0 t4 HAM HCN HGV
          generalize more wr pq = w3 at *
          go_upto_region 13 with fail
          have xd : Ext w3 w3.drew := (Ext.refl w3).drew
          have HSS : w3.drew.cell? ⟨w.heap.size, 3, none⟩ = some (.slice (some ⟨db, doff, none⟩) c.doms.length cd) ∧ w3.drew.cell? ⟨db, doff + d * 10 + 4, none⟩ = some (.int .i64 t) ∧ Ext w3 w3.drew := ⟨xd.cell o3, xd.cell o5, xd⟩
          refine wp_region_T 12 1 (fun u => u.cell? ⟨w.heap.size, 3, none⟩ = some (.slice (some ⟨db, doff, none⟩) c.doms.length cd) ∧ u.cell? ⟨db, doff + d * 10 + 4, none⟩ = some (.int .i64 t) ∧ Ext w3 u) (by kernel_rfl) (by kernel_rfl) ?_
          generalize w3.drew = w4 at *
          refine wpT_tk 0 HSS ?_; (try simp only [nrm])
          refine wpT_tk 1 HSS ?_; (try simp only [nrm])
          refine wpT_tk 3 HSS ?_; (try simp only [nrm])
          refine wpT_tk 4 HSS ?_; (try simp only [nrm])
          refine wpT_tk 5 HSS ?_; (try simp only [nrm])
          refine wpT_tk 6 HSS ?_; (try simp only [nrm])
          refine wpT_tk 7 HSS ?_; (try simp only [nrm])
          refine wpT_tk 8 HSS ?_; (try simp only [nrm])
          refine wpT_tk 9 HSS ?_; (try simp only [nrm])
          refine wpT_tk 11 HSS ?_; (try simp only [nrm])
          refine wpT_on 2 (fun K' hK => ?_); go_simp
          (with_reducible refine (HOW.out _).mono ?_)
          rintro e w5 ⟨rfl, hx5⟩
          refine hK.out _ _ ⟨hx5.cell HSS.1, hx5.cell HSS.2.1, HSS.2.2.trans hx5⟩ ?_
          (try simp only [nrm])
          clear hK K'
          replace HSS : w5.cell? ⟨w.heap.size, 3, none⟩ = some (.slice (some ⟨db, doff, none⟩) c.doms.length cd) ∧ w5.cell? ⟨db, doff + d * 10 + 4, none⟩ = some (.int .i64 t) ∧ Ext w3 w5 := ⟨hx5.cell HSS.1, hx5.cell HSS.2.1, HSS.2.2.trans hx5⟩
          clear hx5
          refine wpT_on 10 (fun K' hK => ?_); go_simp
          (with_reducible refine (HGF.out _).mono ?_)
          rintro e w6 ⟨rfl, hx6⟩
          refine hK.out _ _ ⟨hx6.cell HSS.1, hx6.cell HSS.2.1, HSS.2.2.trans hx6⟩ ?_
          (try simp only [nrm])
          clear hK K'
          have h6 : Ext w3 w6 := HSS.2.2.trans hx6
          clear hx6 HSS
          refine wpT_done (by kernel_rfl) ?_
          refine wpAny_on 12 (fun K' hK => ?_); go_simp
          (with_reducible refine (hHGV.out _ h6).mono ?_)
          rintro e w7 ⟨rfl, hz, hC2⟩
          refine hK.out _ _ ?_
          clear hK K'
          refine wpAny_done (by kernel_rfl) ?_ _
          (try simp only [nrm])
          have HC2 := hid hC2
          clear hC2 h6
          go_wp2
          all_goals
            go_roundw
            case rel => exact ⟨hz, d + 1, by go_num, by omega, HC2⟩
            case measure => simp [intOf]; omega
        · obtain rfl : d = lv.length := by omega
          have HP3 : Hid (Cx wr g ((List.range own.length).map (endP c own lv))) := hid (by rw [← ptL_end (n := ((lv.length : Nat) : Int)) fun x hx => by have := (HW.out x hx).2; have := H2.out; omega]; exact hC.out)
          clear hC HP2 hx m0 m1 m2 m3
          go_upto_region 15 with fail
          refine wp_forget (fun u => Ext W u ∧ Hid (Cx u g ((List.range own.length).map (endP c own lv)))) ⟨ext_by, HP3⟩ ?_
          rintro w1 ⟨hy3, HP4⟩
          clear hy HP3
          have hmi := run_makeF own.length hol
          go_cut [14, 15] from 68 to 74 (fun s14 s15 wx => ∃ a b : Nat, s14 = .slice (some ⟨a, 0, none⟩) own.length own.length ∧ s15 = .slice (some ⟨b, 0, none⟩) own.length own.length ∧ a ≠ b ∧ w1.heap.size ≤ a ∧ w1.heap.size ≤ b ∧ Ext w1 wx ∧ Hid (Blk wx a 3 (List.replicate own.length (Value.int .i64 0))) ∧ Hid (Blk wx b 3 (List.replicate own.length (Value.int .i64 0))))
          case first =>
            refine wp_region_T 7 1 (fun u => Ext w1 u) (by kernel_rfl) (by kernel_rfl) ?_
            have HSS : Ext w1 w1.drew := (Ext.refl w1).drew
            generalize w1.drew = w2 at *
            refine wpT_tk 0 HSS ?_; (try simp only [nrm])
            refine wpT_tk 1 HSS ?_; (try simp only [nrm])
            refine wpT_tk 3 HSS ?_; (try simp only [nrm])
            refine wpT_tk 4 HSS ?_; (try simp only [nrm])
            refine wpT_two 2 5 rfl rfl (by kernel_rfl) (by rfl) (by rfl) (fun K' hK => ?_) (fun K' hK => ?_)
            · go_simp
              have HSS2 : Ext w1 (w2.alloc (.cells (Array.replicate own.length (Value.int .i64 0)) 3 (0, 0))) := HSS.alloc _
              have B1 : Hid (Blk (w2.alloc (.cells (Array.replicate own.length (Value.int .i64 0)) 3 (0, 0))) w2.heap.size 3 (List.replicate own.length (Value.int .i64 0))) := hid (by have := Blk.new w2 3 (List.replicate own.length (Value.int .i64 0)); simpa using this)
              have hs1 : w1.heap.size ≤ w2.heap.size := HSS.size
              refine hK.out _ _ HSS2 ?_
              (try simp only [nrm])
              clear hK K' HSS
              have HSS := HSS2
              clear HSS2
              generalize w2.alloc (.cells (Array.replicate own.length (Value.int .i64 0)) 3 (0, 0)) = w3 at *
              generalize w2.heap.size = A at *
              clear w2
              refine wpT_tk 6 HSS ?_; (try simp only [nrm])
              refine wpT_on 5 (fun K' hK => ?_); go_simp
              have HSS2 : Ext w1 (w3.alloc (.cells (Array.replicate own.length (Value.int .i64 0)) 3 (0, 0))) := HSS.alloc _
              have B2 : Hid (Blk (w3.alloc (.cells (Array.replicate own.length (Value.int .i64 0)) 3 (0, 0))) w3.heap.size 3 (List.replicate own.length (Value.int .i64 0))) := hid (by have := Blk.new w3 3 (List.replicate own.length (Value.int .i64 0)); simpa using this)
              have B3 : Hid (Blk (w3.alloc (.cells (Array.replicate own.length (Value.int .i64 0)) 3 (0, 0))) A 3 (List.replicate own.length (Value.int .i64 0))) := hid (B1.out.ext (Ext.alloc (Ext.refl _) _))
              have hs2 : w1.heap.size ≤ w3.heap.size := HSS.size
              have hs3 : A < w3.heap.size := B1.out.lt
              refine hK.out _ _ HSS2 ?_
              (try simp only [nrm])
              clear hK K' HSS B1
              have HSS := HSS2
              clear HSS2
              generalize w3.alloc (.cells (Array.replicate own.length (Value.int .i64 0)) 3 (0, 0)) = w4 at *
              generalize w3.heap.size = B at *
              clear w3
              refine wpT_done (by kernel_rfl) ?_
              refine wpAny_tk 7 ?_; (try simp only [nrm])
              refine wpAny_done (by kernel_rfl) ?_ _
              go_wp2
              go_meet
              case rel => exact ⟨_, _, rfl, rfl, by omega, by omega, by omega, HSS, B3, B2⟩
            · go_simp
              have HSS2 : Ext w1 (w2.alloc (.cells (Array.replicate own.length (Value.int .i64 0)) 3 (0, 0))) := HSS.alloc _
              have B1 : Hid (Blk (w2.alloc (.cells (Array.replicate own.length (Value.int .i64 0)) 3 (0, 0))) w2.heap.size 3 (List.replicate own.length (Value.int .i64 0))) := hid (by have := Blk.new w2 3 (List.replicate own.length (Value.int .i64 0)); simpa using this)
              have hs1 : w1.heap.size ≤ w2.heap.size := HSS.size
              refine hK.out _ _ HSS2 ?_
              (try simp only [nrm])
              clear hK K' HSS
              have HSS := HSS2
              clear HSS2
              generalize w2.alloc (.cells (Array.replicate own.length (Value.int .i64 0)) 3 (0, 0)) = w3 at *
              generalize w2.heap.size = A at *
              clear w2
              refine wpT_on 2 (fun K' hK => ?_); go_simp
              have HSS2 : Ext w1 (w3.alloc (.cells (Array.replicate own.length (Value.int .i64 0)) 3 (0, 0))) := HSS.alloc _
              have B2 : Hid (Blk (w3.alloc (.cells (Array.replicate own.length (Value.int .i64 0)) 3 (0, 0))) w3.heap.size 3 (List.replicate own.length (Value.int .i64 0))) := hid (by have := Blk.new w3 3 (List.replicate own.length (Value.int .i64 0)); simpa using this)
              have B3 : Hid (Blk (w3.alloc (.cells (Array.replicate own.length (Value.int .i64 0)) 3 (0, 0))) A 3 (List.replicate own.length (Value.int .i64 0))) := hid (B1.out.ext (Ext.alloc (Ext.refl _) _))
              have hs2 : w1.heap.size ≤ w3.heap.size := HSS.size
              have hs3 : A < w3.heap.size := B1.out.lt
              refine hK.out _ _ HSS2 ?_
              (try simp only [nrm])
              clear hK K' HSS B1
              have HSS := HSS2
              clear HSS2
              generalize w3.alloc (.cells (Array.replicate own.length (Value.int .i64 0)) 3 (0, 0)) = w4 at *
              generalize w3.heap.size = B at *
              clear w3
              refine wpT_tk 6 HSS ?_; (try simp only [nrm])
              refine wpT_done (by kernel_rfl) ?_
              refine wpAny_tk 7 ?_; (try simp only [nrm])
              refine wpAny_done (by kernel_rfl) ?_ _
              go_wp2
              go_meet
              case rel => exact ⟨_, _, rfl, rfl, by omega, by omega, by omega, HSS, B2, B3⟩
          case rest =>
            obtain ⟨a, b, rfl, rfl, hab, ha1, hb1, xw, hA, hB⟩ := hcut
            have hP : Hid (Cx wc g ((List.range own.length).map (endP c own lv))) := hid (HP4.out.ext xw)
            have hgl := HP4.out.lt
            have hy5 := hy3.trans xw
            have hWa : W.heap.size ≤ a := Nat.le_trans hy3.size ha1
            have hWb : W.heap.size ≤ b := Nat.le_trans hy3.size hb1
            have hga : g ≠ a := by omega
            have hgb : g ≠ b := by omega
            have hA0 : Hid (Iz wc a (fillL (outL c own lv) 0)) := hid (by unfold Iz; rw [fill_start, List.map_replicate, outL_length]; exact hA.out)
            have hB0 : Hid (Iz wc b (fillL (freedL c own lv) 0)) := hid (by unfold Iz; rw [fill_start, List.map_replicate, freedL_length]; exact hB.out)
            clear hA hB HP4 hy3 xw hgl ha1 hb1
            go_wp2
            go_loopw [76] (fun v76 wz => Ext W wz ∧ ∃ k : Nat, v76 = .int .i64 k ∧ k ≤ own.length ∧ Hid (Cx wz g ((List.range own.length).map (endP c own lv))) ∧ Hid (Iz wz a (fillL (outL c own lv) k)) ∧ Hid (Iz wz b (fillL (freedL c own lv) k))) (fun v76 _ => (own.length - intOf v76).toNat)
            case atStart => exact ⟨hy5, 0, rfl, by omega, hP, hA0, hB0⟩
            case round =>
              obtain ⟨hz, k, rfl, hk, hC, hA, hB⟩ := hrel
              by_cases hlt : k < own.length
              · have i1 : (k : Int) < own.length := by omega
                have hkl : k < ((List.range own.length).map (endP c own lv)).length := by simpa using hlt
                have c0 := hC.out.at hkl
                simp only [List.getElem_map, List.getElem_range] at c0
                have hka : k < (fillL (outL c own lv) k).length := by rw [fillL_length, outL_length]; exact hlt
                have hkb : k < (fillL (freedL c own lv) k).length := by rw [fillL_length, freedL_length]; exact hlt
                obtain ⟨olda, a0⟩ : ∃ o, wr.cell? ⟨a, k, none⟩ = some o := ⟨_, hA.out.at hka⟩
                obtain ⟨oldb, b0⟩ : ∃ o, wr.cell? ⟨b, k, none⟩ = some o := ⟨_, hB.out.at hkb⟩
                have a1 := hA.out.frozen k
                have b1 := hB.out.frozen k
                have a2 := hA.out.lt
                have b2 := hB.out.lt
                have e0 : endP c own lv k = (outAt c own lv k, freedAt c own lv k + 1) := rfl
                have SA : Hid (∀ u, Iz u a (fillL (outL c own lv) k) → Iz (u.setCell ⟨a, k, none⟩ (.int .i64 (outAt c own lv k))) a (fillL (outL c own lv) (k + 1))) := hid fun u hu => by
                  have := hu.set k (.int .i64 (outAt c own lv k))
                  have hk2 : k < (outL c own lv).length := by rw [outL_length]; exact hlt
                  rw [← fill_set hk2, Iz, List.map_set, outL_get]; exact this
                have SB : Hid (∀ u, Iz u b (fillL (freedL c own lv) k) → Iz (u.setCell ⟨b, k, none⟩ (.int .i64 (freedAt c own lv k))) b (fillL (freedL c own lv) (k + 1))) := hid fun u hu => by
                  have := hu.set k (.int .i64 (freedAt c own lv k))
                  have hk2 : k < (freedL c own lv).length := by rw [freedL_length]; exact hlt
                  rw [← fill_set hk2, Iz, List.map_set, freedL_get]; exact this
                have hob := HW.out _ (List.getElem_mem hlt)
                rw [← at0_get hlt] at hob
                have htb := HT.out (at0 own k)
                have hx1 : -1 ≤ outAt c own lv k ∧ outAt c own lv k ≤ 6 := by unfold outAt; split <;> omega
                have hx2 : -1 ≤ freedAt c own lv k ∧ freedAt c own lv k ≤ 6 := by unfold freedAt; split <;> omega
                have hC2 := hid hC.out
                have hA2 := hid hA.out
                have hB2 := hid hB.out
                rw [e0] at c0
                clear hob htb e0 hC hA hB hkl hka hkb
                simp only at c0
                generalize outAt c own lv k = x at *
                generalize freedAt c own lv k = y at *
                have hv1 := fun w => run_convert_float_int (P := Try.prog) w 53 3 .f64 .i64 (Fz x) x (by kernel_rfl) Try.underlying3 (intVal_Fz (by omega))
                have hv2 := fun w => run_convert_float_int (P := Try.prog) w 53 3 .f64 .i64 (Fz (y + 1)) (y + 1) (by kernel_rfl) Try.underlying3 (intVal_Fz (by omega))
                generalize Fz x = q1 at *
                generalize Fz (y + 1) = q2 at *
                have hy1 : y + 1 - 1 = y := by omega
                go_wp2
                all_goals
                  go_roundw
                  case rel => exact ⟨ext_by, k + 1, by go_num, by omega, hid ((hC2.out.other hga _ _).other hgb _ _), hid ((SA.out _ hA2.out).other hab _ _), hid (SB.out _ (hB2.out.other (fun e => hab e.symm) _ _))⟩
                  case measure => simp [intOf]; omega
              · obtain rfl : k = own.length := by omega
                have R1 : Hid (Ints wr (.slice (some ⟨a, 0, none⟩) own.length own.length) (outL c own lv)) := hid (by
                  have := hA.out
                  rw [show own.length = (outL c own lv).length from (outL_length _ _ _).symm, fill_end] at this
                  have := this.ints (by rw [outL_length]; unfold maxLen; omega)
                  rwa [outL_length] at this)
                have R2 : Hid (Ints wr (.slice (some ⟨b, 0, none⟩) own.length own.length) (freedL c own lv)) := hid (by
                  have := hB.out
                  rw [show own.length = (freedL c own lv).length from (freedL_length _ _ _).symm, fill_end] at this
                  have := this.ints (by rw [freedL_length]; unfold maxLen; omega)
                  rwa [freedL_length] at this)
                have hxw := X.trans hz
                clear hA hB hC
                go_wp2
                all_goals
                  refine bodyPost_ret (v := .tuple #[.slice (some ⟨a, 0, none⟩) own.length own.length, .slice (some ⟨b, 0, none⟩) own.length own.length]) (by simp [results, Try.results9, go_sem]) rfl ⟨_, _, rfl, hxw, R1.out, R2.out⟩
theorem turn_any {c : Cnf} {pv dv vo vl : Value} {own lv : List Int} {w : World} (hc : ConfV w c pv dv) (_ : ∀ d ∈ c.doms, ∀ r ∈ d.routes, r.length ≤ 300) (hO : Ints w vo own) (hL : Ints w vl lv) :
    Calls Try.prog 9 #[confV c pv dv, vo, vl] w fun e w' => ∃ a b, e = .returned (.tuple #[a, b]) ∧ Ext w w' ∧ Ints w' a (turnL c own lv).1 ∧ Ints w' b (turnL c own lv).2 := by
  cases h : okT c own lv
  · refine (turn_none hc hO hL h).mono ?_
    rintro e w' ⟨rfl, hx⟩
    have he : turnL c own lv = ([], []) := by unfold turnL; rw [h]; rfl
    rw [he]
    exact ⟨_, _, rfl, hx, nil_ints _, nil_ints _⟩
  · have he : turnL c own lv = (outL c own lv, freedL c own lv) := by unfold turnL; rw [h]; rfl
    rw [he]
    exact turn_some hc hO hL h
end Go.Proofs.Ytfjhcmpcnnjodaa
