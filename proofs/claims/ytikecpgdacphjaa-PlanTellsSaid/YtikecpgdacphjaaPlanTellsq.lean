/- PlanTells: of every configuration, plan, tick, row of slots, domain: the law answers true, and its arguments read as they did. No conditions. -/
import Derived.Test.YtikecpgdacphjaaPlKq
import Derived.Test.YtikecpgdacphjaaRlq
import Derived.Test.YtikecpgdacphjaaWideq
import Derived.Deep.RegionHeld3
import Derived.ChangeMaps5
import Derived.ChangeSame
import Derived.ChangeVars
import Derived.JoinedOf
import Derived.RowKitTokens
namespace Go.Proofs.Ytikecpgdacphjaa
set_option linter.unusedSimpArgs false
open Go.ChangeShapes Go.WideShapes Go.ChangeAt Go.RowKit Go.Joins Go.Deep

namespace planTells
theorem ticks_to {c : Cnf} {n : Int} (e : ticksN c = n) {w : World} {pv dv : Value} (hc : ConfV w c pv dv) (hr : ∀ d ∈ c.doms, ∀ r ∈ d.routes, r.length ≤ 300) : Calls Try.prog 14 #[confV c pv dv] w (Yields w (.int .i64 n)) := e ▸ ticks_any w c pv dv hc hr

set_option maxRecDepth 100000 in
set_option maxHeartbeats 8000000 in
theorem walk (c : Cnf) (i t d : Int) (O : List Int) (pv dv vo : Value) (w : World) (hc : ConfV w c pv dv) (ht : wf64 t) (hO : Ints w vo O) :
    Calls Try.prog 3 #[confV c pv dv, .int .i64 i, .int .i64 t, vo, .int .i64 d] w (Yields w (.bool true)) := by
  have HC := hid hc
  have HO := hid hO
  have HT := hid ht
  obtain ⟨t1, t2⟩ := ht
  obtain ⟨po, co, rfl, hco, hmo⟩ := hO.shape
  unfold maxLen at hmo
  clear hc hO
  cases hwa : wideB c
  case true =>
    have QA := hid hwa
    clear hwa
    go_enter Try.func3, Try.ntmps3
    go_wp2_with (first
      | (go_at_call 7; refine (known_any _).yields ?_; intro p0)
      | (go_at_call 8; (with_reducible refine (wide_to QA.out _ _ _ (HC.out.ext ext_by)).yields ?_); intro p1))
    go_returns
    exact ⟨rfl, ext_by⟩
  have QA := hid hwa
  have RA : Hid (∀ d ∈ c.doms, ∀ r ∈ d.routes, r.length ≤ 300) := hid (wide_routes hwa).2
  clear hwa
  by_cases hl : (100 : Int) < O.length
  · go_enter Try.func3, Try.ntmps3
    go_wp2_with (first
      | (go_at_call 7; refine (known_any _).yields ?_; intro p0)
      | (go_at_call 8; (with_reducible refine (wide_to QA.out _ _ _ (HC.out.ext ext_by)).yields ?_); intro p1))
    go_returns
    exact ⟨rfl, ext_by⟩
  go_enter Try.func3, Try.ntmps3
  go_upto_region 5 with (first
    | (go_at_call 7; refine (known_any _).yields ?_; intro p0)
    | (go_at_call 8; (with_reducible refine (wide_to QA.out _ _ _ (HC.out.ext ext_by)).yields ?_); intro p1))
  refine wp_forget (fun u => Ext w u ∧ u.cell? ⟨w.heap.size, 0, none⟩ = some (.int .i64 c.frame) ∧ u.cell? ⟨w.heap.size, 1, none⟩ = some (.int .i64 c.epoch) ∧ u.cell? ⟨w.heap.size, 2, none⟩ = some (pv) ∧ u.cell? ⟨w.heap.size, 3, none⟩ = some (dv)) ⟨ext_by, by simp [go_sem], by simp [go_sem], by simp [go_sem], by simp [go_sem]⟩ ?_
  rintro W ⟨X, k0, k1, k2, k3⟩
  have VC := hid (HC.out.ext X)
  have VO := hid (HO.out.ext X)
  have hq2 : (cntTo O d O.length != cntTo O d O.length) = false := by simp
  have hq3 : (cntTo O d O.length == cntTo O d O.length) = true := by simp
  have HCN := hid (fun u (h : Ints u (.slice po O.length co) O) => pcount_any (d := d) h)
  have HCR := hid (fun u (h : Ints u (.slice po O.length co) O) => count_any (d := d) h)
  generalize cntTo O d O.length = cn at *
  go_region_held3 (fun wx => Ext W wx ∧ wx.cell? ⟨w.heap.size, 0, none⟩ = some (.int .i64 c.frame) ∧ wx.cell? ⟨w.heap.size, 1, none⟩ = some (.int .i64 c.epoch) ∧ wx.cell? ⟨w.heap.size, 2, none⟩ = some (pv) ∧ wx.cell? ⟨w.heap.size, 3, none⟩ = some (dv))
    (first | (go_split_ands; with_reducible exact ⟨Ext.trans (by assumption) hq, Ext.cell hq (by assumption), Ext.cell hq (by assumption), Ext.cell hq (by assumption), Ext.cell hq (by assumption)⟩) | (go_split_ands; with_reducible exact ⟨Ext.alloc (by assumption) _, Ext.cell (Ext.alloc (Ext.refl _) _) (by assumption), Ext.cell (Ext.alloc (Ext.refl _) _) (by assumption), Ext.cell (Ext.alloc (Ext.refl _) _) (by assumption), Ext.cell (Ext.alloc (Ext.refl _) _) (by assumption)⟩) | exact ⟨Ext.drew (Ext.refl _), Ext.cell (Ext.drew (Ext.refl _)) k0, Ext.cell (Ext.drew (Ext.refl _)) k1, Ext.cell (Ext.drew (Ext.refl _)) k2, Ext.cell (Ext.drew (Ext.refl _)) k3⟩ | (go_split_ands; refine ⟨ext_by, ?_, ?_, ?_, ?_⟩ <;> go_keep))
    (first
      | (go_at_call 10; (with_reducible refine (owners_all (VC.out.ext (by go_split_ands; assumption)) i).mono ?_); rintro e w' ⟨u1, rfl, hq, hI1⟩)
      | (go_at_call 11; (with_reducible refine (rowners_any (VC.out.ext (by go_split_ands; assumption)) RA.out i).mono ?_); rintro e w' ⟨u2, rfl, hq, hI2⟩)
      | (go_at_call 9; (with_reducible refine (sameI_to (hI1.ext hq) hI2).mono ?_); rintro e w' ⟨rfl, hq⟩)
      | (go_at_call 12; (with_reducible refine (HCN.out _ (VO.out.ext (by go_split_ands; assumption))).mono ?_); rintro e w' ⟨rfl, hq⟩)
      | (go_at_call 13; (with_reducible refine (HCR.out _ (VO.out.ext (by go_split_ands; assumption))).mono ?_); rintro e w' ⟨rfl, hq⟩))
  all_goals
    go_split_ands
    clear HCN HCR VO hq2 hq3 k0 k1 k2 k3
    go_upto_region 7 with fail
    refine wp_forget (fun u => Ext w u ∧ u.cell? ⟨w.heap.size, 0, none⟩ = some (.int .i64 c.frame) ∧ u.cell? ⟨w.heap.size, 1, none⟩ = some (.int .i64 c.epoch) ∧ u.cell? ⟨w.heap.size, 2, none⟩ = some (pv) ∧ u.cell? ⟨w.heap.size, 3, none⟩ = some (dv)) ⟨Ext.trans X (by assumption), by assumption, by assumption, by assumption, by assumption⟩ ?_
    rintro W2 ⟨X2, k0, k1, k2, k3⟩
    have VC2 := hid (HC.out.ext X2)
    have hb2 : w.heap.size < W2.heap.size := World.block_lt_of_cell? _ _ k0
    by_cases hi : isConf c = 0
    · obtain ⟨n, hn, hfe, n1, n2⟩ := ticks_good hi
      obtain ⟨f1, f64, -⟩ := Good.of hi
      have HN := hid hn
      have hf0 : ¬ n = 0 := by omega
      have hf1 : (n == 0) = false := by simpa using hf0
      have hf2 : ¬ c.frame = 0 := by omega
      obtain ⟨T, hT⟩ : ∃ T, T = max t 0 := ⟨_, rfl⟩
      have hT0 : (if 0 < t then t else 0) = T := by split <;> omega
      have T0 : 0 ≤ T := by omega
      have T9 : T ≤ 9223372036854775807 := by omega
      have hm1 : 0 ≤ T % c.frame := Int.emod_nonneg _ (by omega)
      have hm2 : T % c.frame < c.frame := Int.emod_lt_of_pos _ (by omega)
      have hm3 : 0 ≤ T / n := Int.ediv_nonneg T0 (by omega)
      have hm4 : T / n ≤ T := Int.ediv_le_self _ T0
      have hm5 : 0 ≤ T % n := Int.emod_nonneg _ (by omega)
      have hm6 : T % n < n := Int.emod_lt_of_pos _ (by omega)
      have E1 : Hid (slotN c t = T % c.frame) := hid (by unfold slotN; rw [if_pos hi, hT])
      have E2 : Hid (epochN c t = T / n) := hid (by unfold epochN; rw [if_pos hi, hfe, hT])
      have E3 : Hid (beginsN c t = (T % n == 0)) := hid (by unfold beginsN; rw [hi, hfe, ← hT]; by_cases e : T % n = 0 <;> simp [e])
      clear hi hn hfe hT
      go_upto_region 11 with (go_at_call 14; (with_reducible refine (ticks_to HN.out VC2.out RA.out).yields ?_); intro p3)
      refine wp_forget (fun u => Ext w u ∧ u.cell? ⟨w.heap.size, 0, none⟩ = some (.int .i64 c.frame) ∧ u.cell? ⟨w.heap.size, 1, none⟩ = some (.int .i64 c.epoch) ∧ u.cell? ⟨w.heap.size, 2, none⟩ = some (pv) ∧ u.cell? ⟨w.heap.size, 3, none⟩ = some (dv)) ⟨ext_by, by simp [go_sem, *], by simp [go_sem, *], by simp [go_sem, *], by simp [go_sem, *]⟩ ?_
      rintro W3 ⟨X3, k0, k1, k2, k3⟩
      have VC3 := hid (HC.out.ext X3)
      have q1 : (T % c.frame == T % c.frame) = true := by simp
      have q2 : (T / n == T / n) = true := by simp
      have q3 : ((T % n == 0) == (T % n == 0)) = true := by simp
      have hb3 : w.heap.size < W3.heap.size := World.block_lt_of_cell? _ _ k0
      have m0 := more_cell k0
      have m1 := more_cell k1
      have m2 := more_cell k2
      have m3 := more_cell k3
      go_wp2
      ((first | refine wp_region_more (by kernel_rfl) (by kernel_rfl) ?_ | refine wp_region_ext (by kernel_rfl) (by kernel_rfl) ?_); (try dsimp only [append_cons', append_nil']); (repeat (go_big_quiet_step ((first | (go_at_call 15; (with_reducible refine Calls.more_of (slot_to (VC3.out.ext (ext_more _ _)) HT.out E1.out))) | (go_at_call 16; (with_reducible refine Calls.more_of (epoch_to (VC3.out.ext (ext_more _ _)) HT.out E2.out))) | (go_at_call 17; (with_reducible refine Calls.more_of (begins_to (VC3.out.ext (ext_more _ _)) HT.out E3.out))))))); refine wpQuiet_nil ?_; rintro _ ⟨pq, rfl⟩)
      go_wp2
      go_returns
      exact ⟨by simp, ext_by⟩
    · have HN : Hid (ticksN c = 0) := hid (by unfold ticksN; rw [if_neg hi])
      have E1 : Hid (slotN c t = 0) := hid (by unfold slotN; rw [if_neg hi])
      have E2 : Hid (epochN c t = 0) := hid (by unfold epochN; rw [if_neg hi])
      have E3 : Hid (beginsN c t = false) := hid (by unfold beginsN; rw [decide_eq_false hi]; rfl)
      clear hi
      go_wp2_with (first
        | (go_at_call 14; (with_reducible refine (ticks_to HN.out VC2.out RA.out).yields ?_); intro p3)
        | (go_at_call 15; (with_reducible refine (slot_to (VC2.out.ext ext_by) HT.out E1.out).yields ?_); intro p4)
        | (go_at_call 16; (with_reducible refine (epoch_to (VC2.out.ext ext_by) HT.out E2.out).yields ?_); intro p5)
        | (go_at_call 17; (with_reducible refine (begins_to (VC2.out.ext ext_by) HT.out E3.out).yields ?_); intro p6))
      go_returns
      exact ⟨by simp, ext_by⟩

set_option linter.unusedVariables false in
set_option maxRecDepth 100000 in
theorem lifted (os : Os) (started : os.Started) (H : Type) (enc : TypeId × Value → H) :
    ReturnsInHanded {} Try.checked os 3 .any (Rows.planTellsSpec.pre6 enc Try.prog Try.f3 Rows.planTellsRow.domain false) (Rows.planTellsSpec.post enc Try.prog Try.f3 false true false false) := by
  refine returnsInHanded_of_change (C := Try.checked) Own.own started (by kernel_rfl) Try.func3
    (ChangeSpec.witness6 (enc := enc) (C := Try.checked) false ⟨#[], #[.agg #[.int .i64 0, .int .i64 0, .slice none 0 0, .slice none 0 0], .int .i64 0, .int .i64 0, .slice none 0 0, .int .i64 0], []⟩ 8 (by kernel_rfl) (by kernel_rfl) (by kernel_rfl) (by kernel_rfl)) ?_
  intro W base args ds gs before hval0 hW hcnd _
  have hval : ∀ (j : Nat) t v, Try.f3.params[j]? = some t → args[j]? = some v → Value.okWide Try.prog W .any base t v := hval0
  have hW' := hW
  obtain ⟨p, q, hA0, hV, rfl, hfz, hnd⟩ := hW
  have hA : DataW.TrodAll enc Try.prog W 0 (fun _ => true) true Try.f3.params.toList args.toList ds p := hA0
  rw [Try.params3] at hA hval
  obtain ⟨v0, vs0, d0, ds0, p0, q0, hargs, rfl, rfl, h0, r0⟩ := trodAll_cons hA
  obtain ⟨v1, vs1, d1, ds1, p1, q1, rfl, rfl, rfl, h1, r1⟩ := trodAll_cons r0
  obtain ⟨v2, vs2, d2, ds2, p2, q2, rfl, rfl, rfl, h2, r2⟩ := trodAll_cons r1
  obtain ⟨v3, vs3, d3, ds3, p3, q3, rfl, rfl, rfl, h3, r3⟩ := trodAll_cons r2
  obtain ⟨v4, vs4, d4, ds4, p4, q4, rfl, rfl, rfl, h4, r4⟩ := trodAll_cons r3
  obtain ⟨rfl, rfl, rfl⟩ := trodAll_nil r4
  obtain rfl : args = #[v0, v1, v2, v3, v4] := by cases args; simp_all
  obtain ⟨rfl, rfl⟩ := trodVars_none hV
  have k0 := h0
  have lt0 : ∀ x ∈ p0, x.block < W.heap.size := by obtain ⟨m, hm⟩ := k0; exact DataW.trod_lt m _ _ _ hm
  have k1 := h1
  have lt1 : ∀ x ∈ p1, x.block < W.heap.size := by obtain ⟨m, hm⟩ := k1; exact DataW.trod_lt m _ _ _ hm
  have k2 := h2
  have lt2 : ∀ x ∈ p2, x.block < W.heap.size := by obtain ⟨m, hm⟩ := k2; exact DataW.trod_lt m _ _ _ hm
  have k3 := h3
  have lt3 : ∀ x ∈ p3, x.block < W.heap.size := by obtain ⟨m, hm⟩ := k3; exact DataW.trod_lt m _ _ _ hm
  have k4 := h4
  have lt4 : ∀ x ∈ p4, x.block < W.heap.size := by obtain ⟨m, hm⟩ := k4; exact DataW.trod_lt m _ _ _ hm
  obtain ⟨c, pv, dv, rfl, hc⟩ := Own.open_conf (hval 0 25 v0 rfl rfl) (by exact h0)
  obtain ⟨i, rfl, rfl, rfl, wi⟩ := open_int Try.underlying3 (hval 1 3 v1 rfl rfl) h1
  obtain ⟨t, rfl, rfl, rfl, wt⟩ := open_int Try.underlying3 (hval 2 3 v2 rfl rfl) h2
  obtain ⟨a3, len3, cap3, rfl⟩ := okWide_slice Try.underlying26 (hval 3 26 v3 rfl rfl)
  obtain ⟨O, hO⟩ := Own.open_nums Try.underlying26 Try.underlying3 (by kernel_rfl) h3
  obtain ⟨d, rfl, rfl, rfl, wd⟩ := open_int Try.underlying3 (hval 4 3 v4 rfl rfl) h4
  clear hA0 hval0
  refine (walk c i t d O pv dv _ W hc (wf_bounds64 wt) (nums_ints hO)).mono fun e W' ⟨he, hx⟩ => ?_
  subst he
  exact ⟨_, rfl, _, _, _, [], _, [], hW', trodAll_mk1 (shut_bool Try.underlying4 _), (trodAll_cons_mk (Below.trod Own.laidOut (by kernel_rfl) (of_decide_eq_true (by kernel_rfl)) k0 hx.below lt0) (trodAll_cons_mk (Below.trod Own.laidOut (by kernel_rfl) (of_decide_eq_true (by kernel_rfl)) k1 hx.below lt1) (trodAll_cons_mk (Below.trod Own.laidOut (by kernel_rfl) (of_decide_eq_true (by kernel_rfl)) k2 hx.below lt2) (trodAll_cons_mk (Below.trod Own.laidOut (by kernel_rfl) (of_decide_eq_true (by kernel_rfl)) k3 hx.below lt3) (trodAll_cons_mk (Below.trod Own.laidOut (by kernel_rfl) (of_decide_eq_true (by kernel_rfl)) k4 hx.below lt4) trodAll_mk0))))), rfl, hx.below.frame _, fun h => by cases h⟩

theorem proved : Rows.PlanTellsSaid :=
  OpenClaim.holds_of_wide 3 Try.f3 rfl rfl rfl rfl rfl rfl rfl ⟨rfl, rfl, rfl, rfl, rfl⟩ rfl rfl rfl rfl rfl (by kernel_rfl) Try.func3 (by kernel_rfl)
    (of_decide_eq_true (by kernel_rfl)) (by unfold Func.isWrapper; first | (rw [if_pos (by decide +kernel)]; kernel_rfl) | (rw [if_neg (by decide +kernel)]; exact ⟨rfl, rfl⟩))
    (fun os started H enc _ => lifted os started H enc)

end planTells
end Go.Proofs.Ytikecpgdacphjaa
