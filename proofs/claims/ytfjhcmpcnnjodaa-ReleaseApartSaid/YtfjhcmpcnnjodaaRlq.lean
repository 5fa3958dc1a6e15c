/- The document's Owners (tontineref11), whatever configuration and plan. -/
import Derived.Test.YtfjhcmpcnnjodaaPl0
import Derived.Test.YtfjhcmpcnnjodaaRefAll
import Derived.Test.YtfjhcmpcnnjodaaRs1
import Derived.Test.YtfjhcmpcnnjodaaRp2
import Derived.Deep.RegionHeld3
namespace Go.Proofs.Ytfjhcmpcnnjodaa
open Go.RowKit

theorem rcounts_all {f : Int} {l : List Int} {v : Value} {w : World} (h : Ints w v l) : Calls Try.prog 29 #[.int .i64 f, v] w fun e w' => ∃ u, e = .returned u ∧ Ext w w' ∧ Ints w' u (countsC f l) := by
  unfold countsC
  cases hm : mayS f l
  · refine (rcounts_none h hm).mono ?_
    rintro e w' ⟨rfl, hx⟩
    exact ⟨_, rfl, hx, none, 0, rfl, by simp, by unfold maxLen; omega, fun hp => by simp at hp⟩
  · have hM := May.of hm
    refine (rcounts_any hm h).mono ?_
    rintro e w' ⟨g, rfl, _, hx, hI⟩
    refine ⟨_, rfl, hx, ?_⟩
    rw [if_pos rfl]
    have := Iz.ints hI (by rw [countsL_length]; have := hM.len; unfold maxLen; omega)
    rwa [countsL_length] at this
theorem rslots_C {c : List Int} {v : Value} {w : World} (h : Ints w v c) : Calls Try.prog 28 #[v] w fun e w' => ∃ u, e = .returned u ∧ Ext w w' ∧ Ints w' u (slotsC c) := rslots_all h _ rfl

set_option maxRecDepth 100000 in
set_option maxHeartbeats 2000000 in
theorem rowners_none {c : Cnf} {pv dv : Value} {w : World} (hc : ConfV w c pv dv) (hr : ∀ d ∈ c.doms, ∀ r ∈ d.routes, r.length ≤ 300) (i : Int) (h : isConf c ≠ 0 ∨ i < 0 ∨ (c.plans.length : Int) ≤ i) : Calls Try.prog 15 #[confV c pv dv, .int .i64 i] w (Yields w (.slice none 0 0)) := by
  obtain ⟨pp, cp, rfl, hp1, hp2⟩ := hc.plans.shape
  obtain ⟨pd, cd, rfl, hd1, hd2⟩ := hc.doms.shape
  unfold maxLen at hp2 hd2
  have HC := hid hc
  have HR := hid hr
  clear hc hr
  by_cases hi : isConf c = 0
  · have HI := hid hi
    clear hi
    by_cases h0 : i < 0
    · go_enter Try.func15, Try.ntmps15
      go_wp2_with (go_at_call 14; refine (isConf_to HI.out _ _ _ (HC.out.ext ext_by) HR.out).yields ?_; intro p1)
      go_returns
      exact ⟨by simp, ext_by⟩
    · have h1 : (c.plans.length : Int) ≤ i := by
        rcases h with h | h | h
        · exact (h HI.out).elim
        · exact (h0 h).elim
        · exact h
      clear h
      go_enter Try.func15, Try.ntmps15
      go_wp2_with (go_at_call 14; refine (isConf_to HI.out _ _ _ (HC.out.ext ext_by) HR.out).yields ?_; intro p1)
      go_returns
      exact ⟨by simp, ext_by⟩
  · clear h
    obtain ⟨m, hm⟩ : ∃ m, isConf c = m + 1 := ⟨isConf c - 1, by omega⟩
    have HI := hid hm
    have hm1 : (((m + 1 : Nat) : Int) == 0) = false := by simp; omega
    have hm2 : (((m + 1 : Nat) : Int) != 0) = true := by simp; omega
    clear hi hm
    go_enter Try.func15, Try.ntmps15
    go_wp2_with (go_at_call 14; refine (isConf_to HI.out _ _ _ (HC.out.ext ext_by) HR.out).yields ?_; intro p1)
    go_returns
    exact ⟨by simp, ext_by⟩

set_option maxRecDepth 100000 in
set_option maxHeartbeats 2000000 in
theorem rowners_any {c : Cnf} {pv dv : Value} {w : World} (hc : ConfV w c pv dv) (hr : ∀ d ∈ c.doms, ∀ r ∈ d.routes, r.length ≤ 300) (i : Int) : Calls Try.prog 15 #[confV c pv dv, .int .i64 i] w fun e w' => ∃ u, e = .returned u ∧ Ext w w' ∧ Ints w' u (ownersL c i) := by
  by_cases hn : isConf c ≠ 0 ∨ i < 0 ∨ (c.plans.length : Int) ≤ i
  · refine (rowners_none hc hr i hn).mono ?_
    rintro e w' ⟨rfl, hx⟩
    have he : ownersL c i = [] := by unfold ownersL; rw [if_neg]; omega
    rw [he]
    exact ⟨_, rfl, hx, none, 0, rfl, by simp, by unfold maxLen; omega, fun hp => by simp at hp⟩
  obtain ⟨k, rfl⟩ : ∃ k : Nat, i = k := ⟨i.toNat, by omega⟩
  have hk : k < c.plans.length := by omega
  have hi : isConf c = 0 := by omega
  have hE : Hid (ownersL c k = slotsC (countsC c.frame c.plans[k])) := hid (by
    unfold ownersL
    rw [if_pos ⟨hi, by omega, by omega⟩, Int.toNat_natCast, List.getD_eq_getElem?_getD, List.getElem?_eq_getElem hk, Option.getD_some])
  obtain ⟨pp, cp, rfl, hp1, hp2⟩ := hc.plans.shape
  obtain ⟨pd, cd, rfl, hd1, hd2⟩ := hc.doms.shape
  obtain ⟨b, off, rfl, v, k0, hv⟩ := hc.plans.at k hk
  unfold maxLen at hp2 hd2
  have HV := hid (nums_ints hv)
  have HC := hid hc
  have HR := hid hr
  have HI := hid hi
  have i1 : (k : Int) < c.plans.length := by omega
  have hb := World.block_lt_of_cell? _ _ k0
  clear hc hr hi hn hv
  generalize c.plans[k] = row at *
  go_enter Try.func15, Try.ntmps15
  go_upto_region 3 with (go_at_call 14; refine (isConf_to HI.out _ _ _ (HC.out.ext ext_by) HR.out).yields ?_; intro p1)
  refine wp_forget (fun u => Ext w u ∧ u.cell? ⟨w.heap.size, 0, none⟩ = some (.int .i64 c.frame) ∧ u.cell? ⟨w.heap.size, 2, none⟩ = some (.slice (some ⟨b, off, none⟩) c.plans.length cp)) ⟨ext_by, by simp [go_sem], by simp [go_sem]⟩ ?_
  rintro W ⟨X, k1, k2⟩
  have k3 := X.cell k0
  simp only [Nat.mul_one] at k3
  have HW := hid (HV.out.ext X)
  clear k0 HC HR HV
  go_region_held3 (fun wx => Ext W wx ∧ wx.cell? ⟨w.heap.size, 0, none⟩ = some (.int .i64 c.frame) ∧ wx.cell? ⟨w.heap.size, 2, none⟩ = some (.slice (some ⟨b, off, none⟩) c.plans.length cp) ∧ wx.cell? ⟨b, off + k, none⟩ = some v)
    (first | (go_split_ands; with_reducible exact ⟨Ext.trans (by assumption) hq, Ext.cell hq (by assumption), Ext.cell hq (by assumption), Ext.cell hq (by assumption)⟩) | (go_split_ands; with_reducible exact ⟨Ext.alloc (by assumption) _, Ext.cell (Ext.alloc (Ext.refl _) _) (by assumption), Ext.cell (Ext.alloc (Ext.refl _) _) (by assumption), Ext.cell (Ext.alloc (Ext.refl _) _) (by assumption)⟩) | exact ⟨Ext.drew (Ext.refl _), Ext.cell (Ext.drew (Ext.refl _)) k1, Ext.cell (Ext.drew (Ext.refl _)) k2, Ext.cell (Ext.drew (Ext.refl _)) k3⟩ | (go_split_ands; refine ⟨ext_by, ?_, ?_, ?_⟩ <;> go_keep))
    (first
      | (go_at_call 29; (with_reducible refine (rcounts_all (HW.out.ext (by go_split_ands; assumption))).mono ?_); rintro e w' ⟨u1, rfl, hq, hI1⟩)
      | (go_at_call 28; (with_reducible refine (rslots_C hI1).mono ?_); rintro e w' ⟨u2, rfl, hq, hI2⟩))
  all_goals
    go_split_ands
    go_wp2
    go_returns
    exact ⟨_, rfl, Ext.trans X (by assumption), by rw [hE.out]; exact hI2⟩
end Go.Proofs.Ytfjhcmpcnnjodaa
