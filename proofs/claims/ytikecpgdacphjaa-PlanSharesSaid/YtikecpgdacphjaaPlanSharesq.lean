/- PlanShares: in each plan each domain has as many slots as its share makes, within one, and nobody else has any: the law answers true for every configuration and plan. No conditions. -/
import Derived.Test.YtikecpgdacphjaaPlTq
import Derived.Test.YtikecpgdacphjaaRp0
import Derived.Test.YtikecpgdacphjaaRs2
import Derived.Test.YtikecpgdacphjaaRwL
import Derived.Deep.RegionHeld3
import Derived.ChangeMaps5
import Derived.ChangeSame
import Derived.ChangeVars
import Derived.JoinedOf
import Derived.RowKitTokens
namespace Go.Proofs.Ytikecpgdacphjaa
set_option linter.unusedSimpArgs false
open Go.ChangeShapes Go.WideShapes Go.ChangeAt Go.RowKit Go.Joins Go.Deep

namespace planShares
set_option maxRecDepth 100000 in
set_option maxHeartbeats 8000000 in
theorem walk (c : Cnf) (i : Int) (pv dv : Value) (w : World) (hc : ConfV w c pv dv) (i0 : 0 ≤ i) (i9 : i ≤ 255) :
    Calls Try.prog 4 #[confV c pv dv, .int .u8 i] w (Yields w (.bool true)) := by
  have HC := hid hc
  cases hwa : wideB c
  case true =>
    have QA := hid hwa
    clear hwa hc
    go_enter Try.func4, Try.ntmps4
    go_wp2_with (first
      | (go_at_call 7; refine (known_any _).yields ?_; intro p0)
      | (go_at_call 8; (with_reducible refine (wide_to QA.out _ _ _ (HC.out.ext ext_by)).yields ?_); intro p1))
    go_returns
    exact ⟨rfl, ext_by⟩
  have QA := hid hwa
  have RA : Hid (∀ d ∈ c.doms, ∀ r ∈ d.routes, r.length ≤ 300) := hid (wide_routes hwa).2
  clear hwa
  cases hi : isConf c
  case succ m =>
    have HI := hid hi
    have hm1 : (((m + 1 : Nat) : Int) == 0) = false := by simp; omega
    have hm2 : (((m + 1 : Nat) : Int) != 0) = true := by simp; omega
    clear hi hc
    go_enter Try.func4, Try.ntmps4
    go_wp2_with (first
      | (go_at_call 7; refine (known_any _).yields ?_; intro p0)
      | (go_at_call 8; (with_reducible refine (wide_to QA.out _ _ _ (HC.out.ext ext_by)).yields ?_); intro p1)
      | (go_at_call 18; (with_reducible refine (isConf_to HI.out _ _ _ (HC.out.ext ext_by) RA.out).yields ?_); intro p2))
    go_returns
    exact ⟨rfl, ext_by⟩
  have HI := hid hi
  have G := Good.of hi
  obtain ⟨k, hk⟩ : ∃ k : Nat, i % (c.plans.length : Int) = k := ⟨(i % (c.plans.length : Int)).toNat, by have := Int.emod_nonneg i (b := (c.plans.length : Int)) (by have := G.p1; omega); omega⟩
  have hkl : k < c.plans.length := by have := Int.emod_lt_of_pos i (b := (c.plans.length : Int)) (by have := G.p1; omega); omega
  obtain ⟨eO, hM, hm, hMC⟩ := owners_in hi hkl
  have hpl := (G.mayS (List.getElem_mem hkl)).2
  have hcl : (countsL c.frame c.plans[k]).length = c.doms.length := by rw [countsL_length, hpl]
  have HX := hid (counts_exact hM hm)
  have hsl : ((slotsL (countsL c.frame c.plans[k])).length : Int) = c.frame := by rw [slotsL_length hMC, counts_tot hM]
  have HCN : Hid (∀ d : Nat, (hd : d < (countsL c.frame c.plans[k]).length) → cntTo (slotsL (countsL c.frame c.plans[k])) d (slotsL (countsL c.frame c.plans[k])).length = (countsL c.frame c.plans[k])[d]) := hid fun d hd => by rw [cnt_all hMC hd, at0_get hd]
  obtain ⟨pp, cp, rfl, hp1, hp2⟩ := hc.plans.shape
  obtain ⟨pd, cd, rfl, hd1, hd2⟩ := hc.doms.shape
  obtain ⟨b, off, rfl, v, k8, hv⟩ := hc.plans.at k hkl
  simp only [Nat.mul_one] at k8
  unfold maxLen at hp2 hd2
  have HV := hid (nums_ints hv)
  have EO := hid eO
  have p1 := G.p1
  have p3 := G.p3
  have d6 := G.d6
  have d1 := G.d1
  clear hc hv eO hM hm hMC hi G hpl
  generalize slotsL (countsL c.frame c.plans[k]) = Z at *
  generalize countsL c.frame c.plans[k] = A at *
  generalize c.plans[k] = row at *
  go_enter Try.func4, Try.ntmps4
  go_upto_region 5 with (first
      | (go_at_call 7; refine (known_any _).yields ?_; intro p0)
      | (go_at_call 8; (with_reducible refine (wide_to QA.out _ _ _ (HC.out.ext ext_by)).yields ?_); intro p1)
      | (go_at_call 18; (with_reducible refine (isConf_to HI.out _ _ _ (HC.out.ext ext_by) RA.out).yields ?_); intro p2))
  refine wp_forget (fun u => Ext w u ∧ u.cell? ⟨w.heap.size, 0, none⟩ = some (.int .i64 c.frame) ∧ u.cell? ⟨w.heap.size, 1, none⟩ = some (.int .i64 c.epoch) ∧ u.cell? ⟨w.heap.size, 2, none⟩ = some (.slice (some ⟨b, off, none⟩) c.plans.length cp) ∧ u.cell? ⟨w.heap.size, 3, none⟩ = some (.slice pd c.doms.length cd)) ⟨ext_by, by simp [go_sem], by simp [go_sem], by simp [go_sem], by simp [go_sem]⟩ ?_
  rintro W ⟨X, k0, k1, k2, k3⟩
  have VC := hid (HC.out.ext X)
  clear HC
  have hpl0 : ¬ (c.plans.length : Int) = 0 := by omega
  go_upto_region 7 with (go_at_call 10; (refine (owners_all VC.out k).mono ?_); rw [EO.out]; rintro e w2 ⟨u2, rfl, hx2, hI2⟩)
  have HZ := hid hI2
  obtain ⟨p2, q2, rfl, hq2, hmq2⟩ := hI2.shape
  unfold maxLen at hmq2
  clear hI2
  have X2 := X.trans hx2
  have c0 := hx2.cell k0
  have c2 := hx2.cell k2
  have c3 := hx2.cell k3
  have c8 := X2.cell k8
  have HROW := hid (HV.out.ext X2)
  have hW2 : w.heap.size < w2.heap.size := World.block_lt_of_cell? _ _ c0
  clear k0 k1 k2 k3 k8 HV X VC hx2
  go_wp2
  go_loopw [7, 8] (fun v7 v8 wr => Ext w2 wr ∧ ∃ d : Nat, v8 = .int .i64 d ∧ d ≤ A.length ∧ Hid (wr.ownsRow w2.heap.size 3 1 v7 d ((A.take d).map iV))) (fun _ v8 _ => (A.length - intOf v8).toNat)
  case atStart => exact ⟨Ext.refl _, 0, rfl, by omega, hid (by simpa using World.ownsRow_nil _ _ _ _)⟩
  case round =>
    obtain ⟨hx, d, rfl, hd, hA⟩ := hrel
    have m0 := hx.cell c0
    have m2 := hx.cell c2
    have m3 := hx.cell c3
    have hwr : w.heap.size < wr.heap.size := World.block_lt_of_cell? _ _ m0
    by_cases hlt : d < A.length
    · have i1 : (d : Int) < c.doms.length := by omega
      have HQ := hid (pcount_to (HZ.out.ext hx) (HCN.out d hlt))
      have hst : Hid ((A.take (d + 1)).map iV = (A.take d).map iV ++ [.int .i64 A[d]]) := hid (by rw [List.take_succ_eq_append_getElem hlt, List.map_append]; rfl)
      have hw2 := hx.size
      generalize A[d] = x at *
      go_wp2_with (first
        | (go_at_call 12; (with_reducible refine (HQ.out).yields ?_); intro p1; have hA2 := hid (owns_ext hA.out (ext_more wr p1)); have hx3 := hx.trans (ext_more wr p1); have hw3 := (ext_more wr p1).size; generalize more wr p1 = wm at *)
        | (at_builtin; refine wpList_push_own rfl (.tmp 34) (.tmp 38) 26 3 (.int .i64 0) 1 8 rfl Try.underlying26 infoI rfl (by decide) (w := wm) (base := w2.heap.size) hA2.out (news := [.int .i64 x]) rfl (ints_oneCell .i64 [x]) (by unfold maxLen; omega) (by omega) (by omega) (by rfl) (nb := wm.heap.size) (by rfl) rfl ?_; intro p4 c4 w4 ho4 hb4; have hx4 : Ext w2 w4 := ⟨Below.trans hx3.below hb4⟩; have HO := hid ho4; clear ho4 hb4))
      all_goals
        go_roundw
        case rel => exact ⟨hx4, d + 1, by go_num, by omega, hid (by rw [hst.out]; exact HO.out)⟩
        case measure => simp [intOf]; omega
    · obtain rfl : d = A.length := by omega
      have i1 : ¬ (A.length : Int) < c.doms.length := by omega
      have i2 : (k : Int) < c.plans.length := by omega
      have hA2 := hA.out
      rw [List.take_length] at hA2
      have HA := hid (owns_map _ _ hA2).2
      obtain ⟨pa, ca, rfl, hca, hma⟩ := HA.out.shape
      unfold maxLen at hma
      have HA3 : Hid (Ints wr (.slice pa c.doms.length ca) A) := hid (by have := HA.out; rw [hcl] at this; exact this)
      have hzf : ((Z.length : Int) == c.frame) = true := by simpa using hsl
      have m8 := hx.cell c8
      have HRW := hid (HROW.out.ext hx)
      have n0 := more_cell m0
      have n2 := more_cell m2
      have n8 := more_cell m8
      clear hA hA2 hsl c0 c2 c3 c8
      go_wp2
      ((first | refine wp_region_more (by kernel_rfl) (by kernel_rfl) ?_ | refine wp_region_ext (by kernel_rfl) (by kernel_rfl) ?_); (try dsimp only [append_cons', append_nil']); (repeat (go_big_quiet_step ((go_at_call 19; with_reducible refine Calls.more_of (rexact_to (HRW.out.ext (ext_more _ _)) (HA3.out.ext (ext_more _ _)) HX.out))))); refine wpQuiet_nil ?_; rintro _ ⟨pq, rfl⟩)
      go_wp2
      all_goals
        go_returns
        exact ⟨by simp, ext_by⟩

set_option linter.unusedVariables false in
set_option maxRecDepth 100000 in
theorem lifted (os : Os) (started : os.Started) (H : Type) (enc : TypeId × Value → H) :
    ReturnsInHanded {} Try.checked os 4 .any (Rows.planSharesSpec.pre6 enc Try.prog Try.f4 Rows.planSharesRow.domain false) (Rows.planSharesSpec.post enc Try.prog Try.f4 false true false false) := by
  refine returnsInHanded_of_change (C := Try.checked) Own.own started (by kernel_rfl) Try.func4
    (ChangeSpec.witness6 (enc := enc) (C := Try.checked) false ⟨#[], #[.agg #[.int .i64 0, .int .i64 0, .slice none 0 0, .slice none 0 0], .int .u8 0], []⟩ 8 (by kernel_rfl) (by kernel_rfl) (by kernel_rfl) (by kernel_rfl)) ?_
  intro W base args ds gs before hval0 hW hcnd _
  have hval : ∀ (j : Nat) t v, Try.f4.params[j]? = some t → args[j]? = some v → Value.okWide Try.prog W .any base t v := hval0
  have hW' := hW
  obtain ⟨p, q, hA0, hV, rfl, hfz, hnd⟩ := hW
  have hA : DataW.TrodAll enc Try.prog W 0 (fun _ => true) true Try.f4.params.toList args.toList ds p := hA0
  rw [Try.params4] at hA hval
  obtain ⟨v0, vs0, d0, ds0, p0, q0, hargs, rfl, rfl, h0, r0⟩ := trodAll_cons hA
  obtain ⟨v1, vs1, d1, ds1, p1, q1, rfl, rfl, rfl, h1, r1⟩ := trodAll_cons r0
  obtain ⟨rfl, rfl, rfl⟩ := trodAll_nil r1
  obtain rfl : args = #[v0, v1] := by cases args; simp_all
  obtain ⟨rfl, rfl⟩ := trodVars_none hV
  have k0 := h0
  have lt0 : ∀ x ∈ p0, x.block < W.heap.size := by obtain ⟨m, hm⟩ := k0; exact DataW.trod_lt m _ _ _ hm
  have k1 := h1
  have lt1 : ∀ x ∈ p1, x.block < W.heap.size := by obtain ⟨m, hm⟩ := k1; exact DataW.trod_lt m _ _ _ hm
  obtain ⟨c, pv, dv, rfl, hc⟩ := Own.open_conf (hval 0 25 v0 rfl rfl) (by exact h0)
  obtain ⟨i, rfl, rfl, rfl, wi⟩ := open_int Try.underlying5 (hval 1 5 v1 rfl rfl) h1
  clear hA0 hval0
  refine (walk c i pv dv W hc (wf_bounds8 wi).1 (wf_bounds8 wi).2).mono fun e W' ⟨he, hx⟩ => ?_
  subst he
  exact ⟨_, rfl, _, _, _, [], _, [], hW', trodAll_mk1 (shut_bool Try.underlying4 _), (trodAll_cons_mk (Below.trod Own.laidOut (by kernel_rfl) (of_decide_eq_true (by kernel_rfl)) k0 hx.below lt0) (trodAll_cons_mk (Below.trod Own.laidOut (by kernel_rfl) (of_decide_eq_true (by kernel_rfl)) k1 hx.below lt1) trodAll_mk0)), rfl, hx.below.frame _, fun h => by cases h⟩

theorem proved : Rows.PlanSharesSaid :=
  OpenClaim.holds_of_wide 4 Try.f4 rfl rfl rfl rfl rfl rfl rfl ⟨rfl, rfl, rfl, rfl, rfl⟩ rfl rfl rfl rfl rfl (by kernel_rfl) Try.func4 (by kernel_rfl)
    (of_decide_eq_true (by kernel_rfl)) (by unfold Func.isWrapper; first | (rw [if_pos (by decide +kernel)]; kernel_rfl) | (rw [if_neg (by decide +kernel)]; exact ⟨rfl, rfl⟩))
    (fun os started H enc _ => lifted os started H enc)

end planShares
end Go.Proofs.Ytikecpgdacphjaa
