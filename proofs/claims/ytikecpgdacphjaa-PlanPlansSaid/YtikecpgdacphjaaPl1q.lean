/- The program's Owners, Count, Slot, Epoch, Begins. -/
import Derived.Test.YtikecpgdacphjaaPl0
import Derived.Test.YtikecpgdacphjaaCfAll
import Derived.Test.YtikecpgdacphjaaShAll
import Derived.Test.YtikecpgdacphjaaSpAll
import Derived.Test.YtikecpgdacphjaaIdx
import Derived.Deep.RegionHeld3
namespace Go.Proofs.Ytikecpgdacphjaa
open Go.RowKit

theorem counts_C {f : Int} {l : List Int} {v : Value} {w : World} (h : Ints w v l) : Calls Try.prog 23 #[.int .i64 f, v] w fun e w' => ∃ u, e = .returned u ∧ Ext w w' ∧ Ints w' u (countsC f l) := counts_all h _ rfl
theorem slots_C {c : List Int} {v : Value} {w : World} (h : Ints w v c) : Calls Try.prog 22 #[v] w fun e w' => ∃ u, e = .returned u ∧ Ext w w' ∧ Ints w' u (slotsC c) := slots_all h _ rfl

set_option maxRecDepth 100000 in
set_option maxHeartbeats 2000000 in
theorem owners_none {c : Cnf} {pv dv : Value} {w : World} (hc : ConfV w c pv dv) (i : Int) (h : isConf c ≠ 0 ∨ i < 0 ∨ (c.plans.length : Int) ≤ i) : Calls Try.prog 10 #[confV c pv dv, .int .i64 i] w (Yields w (.slice none 0 0)) := by
  obtain ⟨pp, cp, rfl, hp1, hp2⟩ := hc.plans.shape
  obtain ⟨pd, cd, rfl, hd1, hd2⟩ := hc.doms.shape
  unfold maxLen at hp2 hd2
  have HC := hid hc
  clear hc
  by_cases hi : isConf c = 0
  · have HI := hid hi
    clear hi
    by_cases h0 : i < 0
    · go_enter Try.func10, Try.ntmps10
      go_wp2_with (go_at_call 21; refine (confIs_to HI.out _ _ _ (HC.out.ext ext_by)).yields ?_; rw [errV_0]; intro p1)
      go_returns
      exact ⟨by simp, ext_by⟩
    · have h1 : (c.plans.length : Int) ≤ i := by
        rcases h with h | h | h
        · exact (h HI.out).elim
        · exact (h0 h).elim
        · exact h
      clear h
      go_enter Try.func10, Try.ntmps10
      go_wp2_with (go_at_call 21; refine (confIs_to HI.out _ _ _ (HC.out.ext ext_by)).yields ?_; rw [errV_0]; intro p1)
      go_returns
      exact ⟨by simp, ext_by⟩
  · clear h
    have HI := hid hi
    have hn := fun v w => run_neq_iface_nil (P := Try.prog) w 56 v Try.underlying48
    clear hi
    go_enter Try.func10, Try.ntmps10
    go_wp2_with (go_at_call 21; refine (confIs_to rfl _ _ _ (HC.out.ext ext_by)).yields ?_; rw [errV_pos HI.out]; intro p1)
    go_returns
    exact ⟨by simp, ext_by⟩

set_option maxRecDepth 100000 in
set_option maxHeartbeats 2000000 in
theorem owners_all {c : Cnf} {pv dv : Value} {w : World} (hc : ConfV w c pv dv) (i : Int) : Calls Try.prog 10 #[confV c pv dv, .int .i64 i] w fun e w' => ∃ u, e = .returned u ∧ Ext w w' ∧ Ints w' u (ownersL c i) := by
  by_cases hn : isConf c ≠ 0 ∨ i < 0 ∨ (c.plans.length : Int) ≤ i
  · refine (owners_none hc i hn).mono ?_
    rintro e w' ⟨rfl, hx⟩
    have he : ownersL c i = [] := by unfold ownersL; rw [if_neg]; omega
    rw [he]
    exact ⟨_, rfl, hx, none, 0, rfl, by simp, by unfold maxLen; omega, fun hp => by simp at hp⟩
  obtain ⟨k, rfl⟩ : ∃ k : Nat, i = k := ⟨i.toNat, by omega⟩
  have hk : k < c.plans.length := by omega
  have hi : isConf c = 0 := by omega
  have hE : Hid (ownersL c k = slotsC (countsC c.frame c.plans[k])) := hid (by
    unfold ownersL
    rw [if_pos ⟨hi, by omega, by omega⟩, Int.toNat_natCast, List.getD_eq_getElem?_getD, List.getElem?_eq_getElem hk, Option.getD_some])
  obtain ⟨pp, cp, rfl, hp1, hp2⟩ := hc.plans.shape
  obtain ⟨pd, cd, rfl, hd1, hd2⟩ := hc.doms.shape
  obtain ⟨b, off, rfl, v, k0, hv⟩ := hc.plans.at k hk
  unfold maxLen at hp2 hd2
  have HV := hid (nums_ints hv)
  have HC := hid hc
  have HI := hid hi
  have i1 : (k : Int) < c.plans.length := by omega
  have hb := World.block_lt_of_cell? _ _ k0
  clear hc hi hn hv
  generalize c.plans[k] = row at *
  go_enter Try.func10, Try.ntmps10
  go_upto_region 3 with (go_at_call 21; refine (confIs_to HI.out _ _ _ (HC.out.ext ext_by)).yields ?_; rw [errV_0]; intro p1)
  refine wp_forget (fun u => Ext w u ∧ u.cell? ⟨w.heap.size, 0, none⟩ = some (.int .i64 c.frame) ∧ u.cell? ⟨w.heap.size, 2, none⟩ = some (.slice (some ⟨b, off, none⟩) c.plans.length cp)) ⟨ext_by, by simp [go_sem], by simp [go_sem]⟩ ?_
  rintro W ⟨X, k1, k2⟩
  have k3 := X.cell k0
  simp only [Nat.mul_one] at k3
  have HW := hid (HV.out.ext X)
  clear k0 HC HV
  go_region_held3 (fun wx => Ext W wx ∧ wx.cell? ⟨w.heap.size, 0, none⟩ = some (.int .i64 c.frame) ∧ wx.cell? ⟨w.heap.size, 2, none⟩ = some (.slice (some ⟨b, off, none⟩) c.plans.length cp) ∧ wx.cell? ⟨b, off + k, none⟩ = some v)
    (first | (go_split_ands; with_reducible exact ⟨Ext.trans (by assumption) hq, Ext.cell hq (by assumption), Ext.cell hq (by assumption), Ext.cell hq (by assumption)⟩) | (go_split_ands; with_reducible exact ⟨Ext.alloc (by assumption) _, Ext.cell (Ext.alloc (Ext.refl _) _) (by assumption), Ext.cell (Ext.alloc (Ext.refl _) _) (by assumption), Ext.cell (Ext.alloc (Ext.refl _) _) (by assumption)⟩) | exact ⟨Ext.drew (Ext.refl _), Ext.cell (Ext.drew (Ext.refl _)) k1, Ext.cell (Ext.drew (Ext.refl _)) k2, Ext.cell (Ext.drew (Ext.refl _)) k3⟩ | (go_split_ands; refine ⟨ext_by, ?_, ?_, ?_⟩ <;> go_keep))
    (first
      | (go_at_call 23; (with_reducible refine (counts_C (HW.out.ext (by go_split_ands; assumption))).mono ?_); rintro e w' ⟨u1, rfl, hq, hI1⟩)
      | (go_at_call 22; (with_reducible refine (slots_C hI1).mono ?_); rintro e w' ⟨u2, rfl, hq, hI2⟩))
  all_goals
    go_split_ands
    go_wp2
    go_returns
    exact ⟨_, rfl, Ext.trans X (by assumption), by rw [hE.out]; exact hI2⟩

def lenOfS : Value → Nat
  | .slice _ n _ => n
  | _ => 0
/-- At the label: what is left, and how many were met. -/
def CntJ (d : Int) (l : List Int) (w : World) (a' : Act) (w' : World) : Prop :=
  ∃ (u : Value) (s : Nat) (u2 u3 u4 u6 u7 u8 u9 u10 u11 u12 u13 u14 u15 u16 u17 u18 : Value), a' = { tmps := #[u, .int .i64 d, u2, u3, u4, .int .i64 s, u6, u7, u8, u9, u10, u11, u12, u13, u14, u15, u16, u17, u18], defers := [] } ∧ ∃ l', Ext w w' ∧ Ints w' u l' ∧ Hid (s + l'.length ≤ l.length ∧ s + l'.count d = l.count d)
set_option maxRecDepth 100000 in
set_option maxHeartbeats 1000000 in
theorem pcount_any {d : Int} {l : List Int} {v : Value} {w : World} (h : Ints w v l) : Calls Try.prog 12 #[v, .int .i64 d] w (Yields w (.int .i64 (cntTo l d l.length))) := by
  have HM : Hid (l.length ≤ maxLen) := by obtain ⟨_, _, _, h1, h2⟩ := h.shape; exact hid (Nat.le_trans h1 h2)
  have HA := hid h
  clear h
  go_enter Try.func12, Try.ntmps12
  go_wp2_with fail
  refine wp_goto 0 (CntJ d l w) (fun a' _ => lenOfS (a'.tmps.getD 0 undef)) rfl ?_ ?_
  · refine fun a' w1 => ex_elim fun u => ex_elim fun s => ex8 fun u2 u3 u4 u6 u7 u8 u9 u10 => ex8 fun u11 u12 u13 u14 u15 u16 u17 u18 => ?_
    rintro ⟨rfl, l', hX, hI, hS⟩
    obtain ⟨p, cap, rfl, hc1, hc2⟩ := hI.shape
    have HI := hid hI
    have hm : s + l'.length ≤ maxLen := by have := HM.out; have := hS.out.1; omega
    unfold maxLen at hm hc2
    rcases idx_cases l' d with ⟨e, h0⟩ | ⟨k, e, hk, h1⟩
    · have hE : Hid (cntTo l d l.length = s) := hid (by rw [cntTo_all]; have := hS.out.2; omega)
      have HE := hid e
      clear hI hS e h0
      go_wp2_with (go_at_call 26; (with_reducible refine (index_to HI.out HE.out).yields ?_); intro p1)
      simp only [Exit.jump]
      go_ret
      exact ⟨by simp [hE.out], ext_by⟩
    · obtain ⟨u2, hsl, hd⟩ := ints_drop hI (k := k + 1) (by omega)
      rw [show ((k + 1 : Nat) : Int) = (k : Int) + 1 by omega] at hsl
      have HD : Hid (∀ w', Ext w1 w' → Ints w' u2 (l'.drop (k + 1))) := hid hd
      have hF : Hid ((s + 1) + (l'.drop (k + 1)).length ≤ l.length ∧ (s + 1) + (l'.drop (k + 1)).count d = l.count d) := hid (by have := hS.out; rw [List.length_drop]; omega)
      have hL : Hid ((l'.drop (k + 1)).length < l'.length) := hid (by rw [List.length_drop]; omega)
      have HE := hid e
      have i1 : (k : Int) < l'.length := by omega
      clear hI hS e h1 hd
      go_wp2_with (go_at_call 26; (with_reducible refine (index_to HI.out HE.out).yields ?_); intro p1)
      go_region
      all_goals
        go_wp2
        go_step3
        simp only [Exit.then]
        refine ⟨rfl, ⟨_, s + 1, _, _, _, _, _, _, _, _, _, _, _, _, _, _, _, _, rfl, _, ext_by, HD.out _ ext_by, hF⟩, ?_⟩
        obtain ⟨p2, c2, e2, -⟩ := (HD.out _ (Ext.refl _)).shape
        rw [e2]
        exact hL.out
  · intro start
    have Start := hid start
    clear start
    go_wp2_with fail
    go_step3
    simp only [Exit.then]
    refine ‹∀ (a : Act) (w : World), Code.wp _ _ _ a w → _› _ _ ?_
    exact Start.out _ _ ⟨v, 0, _, _, _, _, _, _, _, _, _, _, _, _, _, _, _, _, rfl, l, Ext.refl _, HA.out, hid ⟨by omega, by omega⟩⟩
theorem pcount_to {d : Int} {l : List Int} {v : Value} {w : World} {r : Int} (h : Ints w v l) (e : cntTo l d l.length = r) : Calls Try.prog 12 #[v, .int .i64 d] w (Yields w (.int .i64 r)) := e ▸ pcount_any h

/-- A time held to 0 at least. -/
theorem held (t : Int) : (t < 0 ∧ max t 0 = 0) ∨ (0 ≤ t ∧ max t 0 = t) := by omega

set_option maxRecDepth 100000 in
set_option maxHeartbeats 2000000 in
theorem slot_any {c : Cnf} {pv dv : Value} {w : World} (hc : ConfV w c pv dv) (t : Int) (ht : wf64 t) : Calls Try.prog 15 #[confV c pv dv, .int .i64 t] w (Yields w (.int .i64 (slotN c t))) := by
  obtain ⟨pp, cp, rfl, hp1, hp2⟩ := hc.plans.shape
  obtain ⟨pd, cd, rfl, hd1, hd2⟩ := hc.doms.shape
  unfold maxLen at hp2 hd2
  obtain ⟨t1, t2⟩ := ht
  have HC := hid hc
  clear hc
  by_cases hi : isConf c = 0
  · have HI := hid hi
    obtain ⟨f1, f64, e1, e8, -⟩ := Good.of hi
    have hf0 : ¬ c.frame = 0 := by omega
    rcases held t with ⟨h0, h1⟩ | ⟨h0, h1⟩
    · have hE : Hid (slotN c t = 0) := hid (by unfold slotN; rw [if_pos hi, h1, Int.zero_emod])
      clear hi h1
      go_enter Try.func15, Try.ntmps15
      go_wp2_with (go_at_call 21; refine (confIs_to HI.out _ _ _ (HC.out.ext ext_by)).yields ?_; rw [errV_0]; intro p1)
      go_returns
      exact ⟨by simp [hE.out], ext_by⟩
    · have hE : Hid (slotN c t = t % c.frame) := hid (by unfold slotN; rw [if_pos hi, h1])
      have hm1 : 0 ≤ t % c.frame := Int.emod_nonneg _ (by omega)
      have hm2 : t % c.frame < c.frame := Int.emod_lt_of_pos _ (by omega)
      clear hi h1
      go_enter Try.func15, Try.ntmps15
      go_wp2_with (go_at_call 21; refine (confIs_to HI.out _ _ _ (HC.out.ext ext_by)).yields ?_; rw [errV_0]; intro p1)
      all_goals
        go_returns
        exact ⟨by simp [hE.out], ext_by⟩
  · have HI := hid hi
    have hE : Hid (slotN c t = 0) := hid (by unfold slotN; rw [if_neg hi])
    have hn := fun v w => run_neq_iface_nil (P := Try.prog) w 56 v Try.underlying48
    clear hi
    go_enter Try.func15, Try.ntmps15
    go_wp2_with (go_at_call 21; refine (confIs_to rfl _ _ _ (HC.out.ext ext_by)).yields ?_; rw [errV_pos HI.out]; intro p1)
    go_returns
    exact ⟨by simp [hE.out], ext_by⟩
theorem slot_to {c : Cnf} {pv dv : Value} {w : World} {t r : Int} (hc : ConfV w c pv dv) (ht : wf64 t) (e : slotN c t = r) : Calls Try.prog 15 #[confV c pv dv, .int .i64 t] w (Yields w (.int .i64 r)) := e ▸ slot_any hc t ht

theorem ticks_good {c : Cnf} (h : isConf c = 0) : ∃ n : Int, ticksN c = n ∧ c.frame * c.epoch = n ∧ 1 ≤ n ∧ n ≤ 512 := ⟨_, by unfold ticksN; rw [if_pos h], rfl, (Good.of h).ticks.1, (Good.of h).ticks.2⟩
theorem confTicks_q {c : Cnf} {n : Int} (e : ticksN c = n) {w : World} {pv dv : Value} (hc : ConfV w c pv dv) : Calls Try.prog 27 #[confV c pv dv] w (Yields w (.int .i64 n)) := e ▸ confTicks_any w c pv dv hc

set_option maxRecDepth 100000 in
set_option maxHeartbeats 2000000 in
theorem epoch_any {c : Cnf} {pv dv : Value} {w : World} (hc : ConfV w c pv dv) (t : Int) (ht : wf64 t) : Calls Try.prog 16 #[confV c pv dv, .int .i64 t] w (Yields w (.int .i64 (epochN c t))) := by
  obtain ⟨pp, cp, rfl, hp1, hp2⟩ := hc.plans.shape
  obtain ⟨pd, cd, rfl, hd1, hd2⟩ := hc.doms.shape
  unfold maxLen at hp2 hd2
  obtain ⟨t1, t2⟩ := ht
  have HC := hid hc
  clear hc
  by_cases hi : isConf c = 0
  · obtain ⟨n, hn, hfe, n1, n2⟩ := ticks_good hi
    have HN := hid hn
    have hf0 : ¬ n = 0 := by omega
    have hf1 : (n == 0) = false := by simpa using hf0
    rcases held t with ⟨h0, h1⟩ | ⟨h0, h1⟩
    · have hE : Hid (epochN c t = 0) := hid (by unfold epochN; rw [if_pos hi, h1, Int.zero_ediv])
      clear hi h1 hn hfe
      go_enter Try.func16, Try.ntmps16
      go_wp2_with (go_at_call 27; refine (confTicks_q HN.out (HC.out.ext ext_by)).yields ?_; intro p1)
      all_goals
        go_returns
        exact ⟨by simp [hE.out], ext_by⟩
    · have hE : Hid (epochN c t = t / n) := hid (by unfold epochN; rw [if_pos hi, h1, hfe])
      have hm1 : 0 ≤ t / n := Int.ediv_nonneg h0 (by omega)
      have hm2 : t / n ≤ t := Int.ediv_le_self _ h0
      clear hi h1 hn hfe
      go_enter Try.func16, Try.ntmps16
      go_wp2_with (go_at_call 27; refine (confTicks_q HN.out (HC.out.ext ext_by)).yields ?_; intro p1)
      all_goals
        go_returns
        exact ⟨by simp [hE.out], ext_by⟩
  · have hE : Hid (epochN c t = 0) := hid (by unfold epochN; rw [if_neg hi])
    have hn : Hid (ticksN c = 0) := hid (by unfold ticksN; rw [if_neg hi])
    clear hi
    go_enter Try.func16, Try.ntmps16
    go_wp2_with (go_at_call 27; refine (confTicks_q hn.out (HC.out.ext ext_by)).yields ?_; intro p1)
    go_returns
    exact ⟨by simp [hE.out], ext_by⟩
theorem epoch_to {c : Cnf} {pv dv : Value} {w : World} {t r : Int} (hc : ConfV w c pv dv) (ht : wf64 t) (e : epochN c t = r) : Calls Try.prog 16 #[confV c pv dv, .int .i64 t] w (Yields w (.int .i64 r)) := e ▸ epoch_any hc t ht

set_option maxRecDepth 100000 in
set_option maxHeartbeats 2000000 in
theorem begins_any {c : Cnf} {pv dv : Value} {w : World} (hc : ConfV w c pv dv) (t : Int) (ht : wf64 t) : Calls Try.prog 17 #[confV c pv dv, .int .i64 t] w (Yields w (.bool (beginsN c t))) := by
  obtain ⟨pp, cp, rfl, hp1, hp2⟩ := hc.plans.shape
  obtain ⟨pd, cd, rfl, hd1, hd2⟩ := hc.doms.shape
  unfold maxLen at hp2 hd2
  obtain ⟨t1, t2⟩ := ht
  have HC := hid hc
  clear hc
  by_cases hi : isConf c = 0
  · obtain ⟨n, hn, hfe, n1, n2⟩ := ticks_good hi
    have HN := hid hn
    have hf0 : ¬ n = 0 := by omega
    have hf1 : (0 : Int) < n := by omega
    rcases held t with ⟨h0, h1⟩ | ⟨h0, h1⟩
    · have hE : Hid (beginsN c t = true) := hid (by unfold beginsN; rw [hi, h1, Int.zero_emod]; simp)
      clear hi h1 hn hfe
      go_enter Try.func17, Try.ntmps17
      go_wp2_with (go_at_call 27; refine (confTicks_q HN.out (HC.out.ext ext_by)).yields ?_; intro p1)
      all_goals
        go_returns
        exact ⟨by simp [hE.out], ext_by⟩
    · have hE : Hid (beginsN c t = (t % n == 0)) := hid (by unfold beginsN; rw [hi, h1, hfe]; by_cases e : t % n = 0 <;> simp [e])
      have hm1 : 0 ≤ t % n := Int.emod_nonneg _ (by omega)
      have hm2 : t % n < n := Int.emod_lt_of_pos _ (by omega)
      clear hi h1 hn hfe
      go_enter Try.func17, Try.ntmps17
      go_wp2_with (go_at_call 27; refine (confTicks_q HN.out (HC.out.ext ext_by)).yields ?_; intro p1)
      all_goals
        go_returns
        exact ⟨by simp [hE.out], ext_by⟩
  · have hE : Hid (beginsN c t = false) := hid (by unfold beginsN; rw [decide_eq_false hi]; rfl)
    have hn : Hid (ticksN c = 0) := hid (by unfold ticksN; rw [if_neg hi])
    clear hi
    go_enter Try.func17, Try.ntmps17
    go_wp2_with (go_at_call 27; refine (confTicks_q hn.out (HC.out.ext ext_by)).yields ?_; intro p1)
    go_returns
    exact ⟨by simp [hE.out], ext_by⟩
theorem begins_to {c : Cnf} {pv dv : Value} {w : World} {t : Int} {r : Bool} (hc : ConfV w c pv dv) (ht : wf64 t) (e : beginsN c t = r) : Calls Try.prog 17 #[confV c pv dv, .int .i64 t] w (Yields w (.bool r)) := e ▸ begins_any hc t ht
end Go.Proofs.Ytikecpgdacphjaa
