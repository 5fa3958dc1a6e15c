/- LatchTurns: two turns with nothing asked between are as one; what is refused counts for nothing: the law answers true for every configuration and row of asks. No conditions. -/
import Derived.Test.YtbnjfahjbemleaaLp2q
import Derived.Test.YtbnjfahjbemleaaOwnF
import Derived.Test.YtbnjfahjbemleaaRefAll
import Derived.Test.YtbnjfahjbemleaaWideq
import Derived.ChangeMaps5
import Derived.ChangeSame
import Derived.ChangeVars
import Derived.JoinedOf
import Derived.RowKitTokens
namespace Go.Proofs.Ytbnjfahjbemleaa
set_option linter.unusedSimpArgs false
open Go.ChangeShapes Go.WideShapes Go.ChangeAt Go.RowKit Go.Joins Go.Deep

namespace latchTurns
theorem _root_.Go.Proofs.Ytbnjfahjbemleaa.Stps.ext' {w w' : World} {v : Value} {l : List Stp} (h : Stps w v l) (k : Ext w w') : Stps w' v l := h.mono fun _ _ _ h => ⟨k.cell h.1, k.cell h.2.1, k.cell h.2.2.1, h.2.2.2⟩
set_option maxRecDepth 100000 in
set_option maxHeartbeats 8000000 in
theorem walk (c : Cnf) (L : List Stp) (pv dv vl : Value) (w : World) (hc : ConfV w c pv dv) (hL : Stps w vl L) :
    Calls Try.prog 4 #[confV c pv dv, vl] w (Yields w (.bool true)) := by
  obtain ⟨pl, cl, rfl, hcl, hml⟩ := hL.shape
  unfold maxLen at hml
  have HC := hid hc
  have HL := hid hL
  clear hL
  cases hwa : wideB c
  case true =>
    have QA := hid hwa
    clear hwa hc
    go_enter Try.func4, Try.ntmps4
    go_wp2_with (first
      | (go_at_call 5; refine (known_any _).yields ?_; intro p0)
      | (go_at_call 14; (with_reducible refine (wide_to QA.out _ _ _ (HC.out.ext ext_by)).yields ?_); intro p1))
    go_returns
    exact ⟨rfl, ext_by⟩
  have QA := hid hwa
  have RA : Hid (∀ d ∈ c.doms, ∀ r ∈ d.routes, r.length ≤ 300) := hid (wide_routes hwa).2
  clear hwa
  cases hi : isConf c
  case succ m =>
    have HI := hid hi
    have hm1 : (((m + 1 : Nat) : Int) == 0) = false := by simp; omega
    have hm2 : (((m + 1 : Nat) : Int) != 0) = true := by simp; omega
    clear hi hc
    go_enter Try.func4, Try.ntmps4
    go_wp2_with (first
      | (go_at_call 5; refine (known_any _).yields ?_; intro p0)
      | (go_at_call 14; (with_reducible refine (wide_to QA.out _ _ _ (HC.out.ext ext_by)).yields ?_); intro p1)
      | (go_at_call 15; (with_reducible refine (isConf_to HI.out _ _ _ (HC.out.ext ext_by) RA.out).yields ?_); intro p2))
    go_returns
    exact ⟨rfl, ext_by⟩
  have HI := hid hi
  have hd1 : 0 < c.doms.length := (Good.of hi).d1
  clear hi
  by_cases hlen : (40 : Int) < L.length
  · clear hc
    go_enter Try.func4, Try.ntmps4
    go_wp2_with (first
      | (go_at_call 5; refine (known_any _).yields ?_; intro p0)
      | (go_at_call 14; (with_reducible refine (wide_to QA.out _ _ _ (HC.out.ext ext_by)).yields ?_); intro p1)
      | (go_at_call 15; (with_reducible refine (isConf_to HI.out _ _ _ (HC.out.ext ext_by) RA.out).yields ?_); intro p2))
    go_returns
    exact ⟨rfl, ext_by⟩
  obtain ⟨qp, cq, rfl, hq1, hq2⟩ := hc.doms.shape
  unfold maxLen at hq2
  clear hc
  go_enter Try.func4, Try.ntmps4
  go_upto_region 5 with (first
      | (go_at_call 5; refine (known_any _).yields ?_; intro p0)
      | (go_at_call 14; (with_reducible refine (wide_to QA.out _ _ _ (HC.out.ext ext_by)).yields ?_); intro p1)
      | (go_at_call 15; (with_reducible refine (isConf_to HI.out _ _ _ (HC.out.ext ext_by) RA.out).yields ?_); intro p2))
  refine wp_forget (fun u => Ext w u ∧ u.cell? ⟨w.heap.size, 0, none⟩ = some (.int .i64 c.frame) ∧ u.cell? ⟨w.heap.size, 1, none⟩ = some (.int .i64 c.epoch) ∧ u.cell? ⟨w.heap.size, 2, none⟩ = some pv ∧ u.cell? ⟨w.heap.size, 3, none⟩ = some (.slice qp c.doms.length cq)) ⟨ext_by, by simp [go_sem], by simp [go_sem], by simp [go_sem], by simp [go_sem]⟩ ?_
  rintro W ⟨X, k0, k1, k2, k3⟩
  have VC := hid (HC.out.ext X)
  have HP := hid (fun u (h : ConfV u c pv (.slice qp c.doms.length cq)) => pNew h HI.out)
  go_region_held3 (fun wx => Ext W wx ∧ wx.cell? ⟨w.heap.size, 0, none⟩ = some (.int .i64 c.frame) ∧ wx.cell? ⟨w.heap.size, 1, none⟩ = some (.int .i64 c.epoch) ∧ wx.cell? ⟨w.heap.size, 2, none⟩ = some pv ∧ wx.cell? ⟨w.heap.size, 3, none⟩ = some (.slice qp c.doms.length cq))
    (first | (go_split_ands; with_reducible exact ⟨Ext.trans (by assumption) hq, Ext.cell hq (by assumption), Ext.cell hq (by assumption), Ext.cell hq (by assumption), Ext.cell hq (by assumption)⟩) | (go_split_ands; with_reducible exact ⟨Ext.alloc (by assumption) _, Ext.cell (Ext.alloc (Ext.refl _) _) (by assumption), Ext.cell (Ext.alloc (Ext.refl _) _) (by assumption), Ext.cell (Ext.alloc (Ext.refl _) _) (by assumption), Ext.cell (Ext.alloc (Ext.refl _) _) (by assumption)⟩) | exact ⟨Ext.drew (Ext.refl _), Ext.cell (Ext.drew (Ext.refl _)) k0, Ext.cell (Ext.drew (Ext.refl _)) k1, Ext.cell (Ext.drew (Ext.refl _)) k2, Ext.cell (Ext.drew (Ext.refl _)) k3⟩ | (go_split_ands; refine ⟨ext_by, ?_, ?_, ?_, ?_⟩ <;> go_keep))
    (first
      | (go_at_call 6; have hz := hfirst; (with_reducible refine (HP.out _ (VC.out.ext (by go_split_ands; assumption))).mono ?_); rintro e w' ⟨A2, b2, rfl, hq, hA2, hP2⟩; have hsecond := hq)
      | (go_at_call 6; (with_reducible refine (HP.out _ (VC.out.ext (by go_split_ands; assumption))).mono ?_); rintro e w1 ⟨A1, b1, rfl, hq, hA1, hP1⟩; have hfirst := hq))
  go_split_ands
  go_upto_region 6 with fail
  have hsz : W.drew.heap.size = W.heap.size := rfl
  have HP2 : Hid (P2 W b1 b2 c (Lt.new c) (Lt.new c) nF w') := hid (P2.new (Ext.trans (Ext.drew (Ext.refl _)) hfirst) hP1 (fun k hk => by have := hA1 k hk; omega) (fun _ h => h.elim) hsecond hP2 hA2)
  refine wp_forget (fun u => Hid (P2 W b1 b2 c (Lt.new c) (Lt.new c) nF u)) HP2 ?_
  clear hz hsz HP2 hfirst hsecond hP1 hP2 hA1 hA2 HP VC
  rintro W2 HP2
  go_wp2
  go_loopw [7] (fun v7 wr => ∃ i : Nat, v7 = .int .i64 i ∧ i ≤ L.length ∧ ∃ s, Hid (P2 W b1 b2 c s s nF wr)) (fun v7 _ => (L.length - intOf v7).toNat)
  case atStart => exact ⟨0, rfl, by omega, _, HP2⟩
  case round =>
    obtain ⟨i, rfl, hi, s, hP⟩ := hrel
    have hxw : Ext w wr := X.trans hP.out.x
    by_cases hlt : i < L.length
    · obtain ⟨lb, lo, rfl, a0, a1, a2, -, -⟩ := (HL.out.ext' hxw).at i hlt
      have i1 : (i : Int) < L.length := by omega
      have hlb := World.block_lt_of_cell? _ _ a0
      generalize L[i].what = t0 at *
      generalize L[i].id = t1 at *
      generalize L[i].n = t2 at *
      obtain ⟨g, hg⟩ : ∃ g, g = wr.heap.size := ⟨_, rfl⟩
      go_upto_region 10 with fail
      refine wp_forget (fun u => Hid (P2 W b1 b2 c s s (fun k => nF k ∨ k = g) u) ∧ u.cell? ⟨g, 0, none⟩ = some (.int .i64 t0) ∧ u.cell? ⟨g, 1, none⟩ = some (.int .i64 t1) ∧ u.cell? ⟨g, 2, none⟩ = some (.int .i64 t2)) ⟨hid (hP.out.more (by exact ext_by) (by omega) (by rw [hg]; simp)), by rw [hg]; simp [go_sem], by rw [hg]; simp [go_sem], by rw [hg]; simp [go_sem]⟩ ?_
      rw [← hg]
      clear hg a0 a1 a2 hP
      rintro w5 ⟨HP5, q0, q1, q2⟩
      by_cases ht : t0 ≤ 1
      · skip
        obtain ⟨n, s', e⟩ : ∃ n s', s.askPlan c t2 = (n, s') := ⟨_, _, rfl⟩
        have HE := hid e
        by_cases hn : n = 0
        · subst hn
          have hx5 := HP5.out
          go_wp2_with (first
            | (go_at_call 10; have hz := hfirst; (refine (p2_askPlan HP6.swap HE.out).mono ?_); rw [errV_0]; rintro e w7 ⟨rfl, HP7, hk7⟩)
            | (go_at_call 10; (refine (p2_askPlan hx5 HE.out).mono ?_); rw [errV_0]; rintro e w6 ⟨rfl, HP6, hk6⟩; have hfirst := hk6; have q0' := (hk6.cell (j := 0) (.inr rfl)).trans q0; have q1' := (hk6.cell (j := 1) (.inr rfl)).trans q1; have q2' := (hk6.cell (j := 2) (.inr rfl)).trans q2))
          all_goals
            go_roundw
            case rel => exact ⟨i + 1, by go_num, by omega, s', hid (HP7.swap.less fun _ h => h.elim)⟩
            case measure => simp [intOf]; omega
        · have hs := askPlan_bad e hn
          have HN := hid hn
          have hnn := fun v w => run_eql_iface_nil (P := Try.prog) (w := w) 47 v Try.underlying38
          subst hs
          clear e hn
          go_wp2_with (go_at_call 10; (refine (p2_askPlan HP5.out HE.out).mono ?_); rw [errV_pos HN.out]; rintro e w6 ⟨rfl, HP6, hk6⟩)
          all_goals
            go_roundw
            case rel => exact ⟨i + 1, by go_num, by omega, _, hid (HP6.less fun _ h => h.elim)⟩
            case measure => simp [intOf]; omega
      · skip
        obtain ⟨n, s', e⟩ : ∃ n s', s.askLevel c t1 t2 = (n, s') := ⟨_, _, rfl⟩
        have HE := hid e
        by_cases hn : n = 0
        · subst hn
          have hx5 := HP5.out
          go_wp2_with (first
            | (go_at_call 11; have hz := hfirst; (refine (p2_askLevel HP6.swap HE.out).mono ?_); rw [errV_0]; rintro e w7 ⟨rfl, HP7, hk7⟩)
            | (go_at_call 11; (refine (p2_askLevel hx5 HE.out).mono ?_); rw [errV_0]; rintro e w6 ⟨rfl, HP6, hk6⟩; have hfirst := hk6; have q0' := (hk6.cell (j := 0) (.inr rfl)).trans q0; have q1' := (hk6.cell (j := 1) (.inr rfl)).trans q1; have q2' := (hk6.cell (j := 2) (.inr rfl)).trans q2))
          all_goals
            go_roundw
            case rel => exact ⟨i + 1, by go_num, by omega, s', hid (HP7.swap.less fun _ h => h.elim)⟩
            case measure => simp [intOf]; omega
        · have hs := askLevel_bad e hn
          have HN := hid hn
          have hnn := fun v w => run_eql_iface_nil (P := Try.prog) (w := w) 47 v Try.underlying38
          subst hs
          clear e hn
          go_wp2_with (go_at_call 11; (refine (p2_askLevel HP5.out HE.out).mono ?_); rw [errV_pos HN.out]; rintro e w6 ⟨rfl, HP6, hk6⟩)
          all_goals
            go_roundw
            case rel => exact ⟨i + 1, by go_num, by omega, _, hid (HP6.less fun _ h => h.elim)⟩
            case measure => simp [intOf]; omega
    · obtain rfl : i = L.length := by omega
      have hP0 := hP.out
      go_upto_region 16 with (go_at_call 13; (refine (p2_turn hP0).mono ?_); rintro e w3 ⟨rfl, hP1, -⟩)
      go_upto_region 17 with (go_at_call 13; (refine (p2_turn hP1.swap).mono ?_); rintro e w4 ⟨rfl, hP2, -⟩)
      have hP3 := hP2.swap
      clear hP0 hP1 hP2 hP
      go_upto_region 18 with (first
        | (go_at_call 9; (refine (p2_plan hP3).yields ?_); intro p7)
        | (go_at_call 8; (refine (p2_levels (hP3.ext (ext_more _ _)) hd1).mono ?_); rintro e w8 ⟨g1, cap1, rfl, hx8, hg1, hr1⟩))
      have hP4 := (hP3.ext (ext_more _ p7)).more hx8 hg1 hr1.blk.2.1
      clear hP3 hx8 hg1
      go_upto_region 19 with (go_at_call 13; (refine (p2_turn hP4).mono ?_); rintro e w9 ⟨rfl, hP5, hk9⟩)
      have hr2 := hk9.row (.inr rfl) hr1
      have hxx : Ext w w9 := X.trans hP5.x
      have hbW : w.heap.size < W.heap.size := World.block_lt_of_cell? _ _ k0
      have hbx : w.heap.size < w9.heap.size := by have := hP5.x.size; omega
      have d0 := hP5.x.cell k0
      have d3 := hP5.x.cell k3
      clear hk9 hr1 hP4 hxw
      rw [Lt.turn_turn] at hP5
      have hok : Hid (s.turn.l.length = c.doms.length) := hid (by obtain ⟨B, h1, -⟩ := hP5.one; exact h1.ok.ll)
      generalize s.turn = S at *
      have hpp : (S.p == S.p) = true := by simp
      have HX := hid hP5
      have HY := hid hP5.swap
      have HR := hid (hr2.ints' hok.out)
      have HPX := hid (fun u (h : Ext w9 u) => p2_plan (HX.out.ext h))
      have HPY := hid (fun u (h : Ext w9 u) => p2_plan (HY.out.ext h))
      have HLX := hid (fun u (h : Ext w9 u) => p2_levels (HX.out.ext h) hd1)
      have HLY := hid (fun u (h : Ext w9 u) => p2_levels (HY.out.ext h) hd1)
      generalize S.p = P0 at *
      clear hP5 hr2
      go_wp2_with (first
        | (go_at_call 9; (with_reducible refine (HPY.out _ ?hx).yields ?_); (case hx => first | exact Ext.refl _ | exact ext_by); intro p8)
        | (go_at_call 9; (with_reducible refine (HPX.out _ ?hx).yields ?_); (case hx => first | exact Ext.refl _ | exact ext_by); intro p9)
        | (go_at_call 8; (with_reducible refine (HLY.out _ ?hx).mono ?_); (case hx => exact ext_by); rintro e w10 ⟨g2, cap2, rfl, hx10, hg2, hr3⟩; have hxA : Ext w9 w10 := Ext.trans ext_by hx10)
        | (go_at_call 12; (with_reducible refine (sameI_to (HR.out.ext hxA) (hr3.ints' hok.out)).yields ?_); intro p10)
        | (go_at_call 8; (with_reducible refine (HLX.out _ ?hx).mono ?_); (case hx => exact ext_by); rintro e w11 ⟨g3, cap3, rfl, hx11, hg3, hr4⟩; have hxB : Ext w9 w11 := Ext.trans (Ext.trans hxA (ext_more _ _)) hx11; have e0 := hxB.cell d0; have e3 := hxB.cell d3; have hb11 : w.heap.size < w11.heap.size := World.block_lt_of_cell? _ _ e0)
        | (go_at_call 12; (with_reducible refine (sameI_to (HR.out.ext hxB) (hr4.ints' hok.out)).yields ?_); intro p11))
      go_returns
      exact ⟨by simp, hxx.trans (hxB.trans (ext_more _ _))⟩

set_option linter.unusedVariables false in
set_option maxRecDepth 100000 in
theorem lifted (os : Os) (started : os.Started) (H : Type) (enc : TypeId × Value → H) :
    ReturnsInHanded {} Try.checked os 4 .any (Rows.latchTurnsSpec.pre6 enc Try.prog Try.f4 Rows.latchTurnsRow.domain false) (Rows.latchTurnsSpec.post enc Try.prog Try.f4 false true false false) := by
  refine returnsInHanded_of_change (C := Try.checked) Own.own started (by kernel_rfl) Try.func4
    (ChangeSpec.witness6 (enc := enc) (C := Try.checked) false ⟨#[], #[.agg #[.int .i64 0, .int .i64 0, .slice none 0 0, .slice none 0 0], .slice none 0 0], []⟩ 8 (by kernel_rfl) (by kernel_rfl) (by kernel_rfl) (by kernel_rfl)) ?_
  intro W base args ds gs before hval0 hW hcnd _
  have hval : ∀ (j : Nat) t v, Try.f4.params[j]? = some t → args[j]? = some v → Value.okWide Try.prog W .any base t v := hval0
  have hW' := hW
  obtain ⟨p, q, hA0, hV, rfl, hfz, hnd⟩ := hW
  have hA : DataW.TrodAll enc Try.prog W 0 (fun _ => true) true Try.f4.params.toList args.toList ds p := hA0
  rw [Try.params4] at hA hval
  obtain ⟨v0, vs0, d0, ds0, p0, q0, hargs, rfl, rfl, h0, r0⟩ := trodAll_cons hA
  obtain ⟨v1, vs1, d1, ds1, p1, q1, rfl, rfl, rfl, h1, r1⟩ := trodAll_cons r0
  obtain ⟨rfl, rfl, rfl⟩ := trodAll_nil r1
  obtain rfl : args = #[v0, v1] := by cases args; simp_all
  obtain ⟨rfl, rfl⟩ := trodVars_none hV
  have k0 := h0
  have lt0 : ∀ x ∈ p0, x.block < W.heap.size := by obtain ⟨m, hm⟩ := k0; exact DataW.trod_lt m _ _ _ hm
  have k1 := h1
  have lt1 : ∀ x ∈ p1, x.block < W.heap.size := by obtain ⟨m, hm⟩ := k1; exact DataW.trod_lt m _ _ _ hm
  obtain ⟨c, pv, dv, rfl, hc⟩ := Own.open_conf (hval 0 29 v0 rfl rfl) (by exact h0)
  obtain ⟨a1, len1, cap1, rfl⟩ := okWide_slice Try.underlying22 (hval 1 22 v1 rfl rfl)
  obtain ⟨L, hL⟩ := Own.open_stps h1
  clear hA0 hval0
  refine (walk c L pv dv _ W hc hL).mono fun e W' ⟨he, hx⟩ => ?_
  subst he
  exact ⟨_, rfl, _, _, _, [], _, [], hW', trodAll_mk1 (shut_bool Try.underlying4 _), (trodAll_cons_mk (Below.trod Own.laidOut (by kernel_rfl) (of_decide_eq_true (by kernel_rfl)) k0 hx.below lt0) (trodAll_cons_mk (Below.trod Own.laidOut (by kernel_rfl) (of_decide_eq_true (by kernel_rfl)) k1 hx.below lt1) trodAll_mk0)), rfl, hx.below.frame _, fun h => by cases h⟩

theorem proved : Rows.LatchTurnsSaid :=
  OpenClaim.holds_of_wide 4 Try.f4 rfl rfl rfl rfl rfl rfl rfl ⟨rfl, rfl, rfl, rfl, rfl⟩ rfl rfl rfl rfl rfl (by kernel_rfl) Try.func4 (by kernel_rfl)
    (of_decide_eq_true (by kernel_rfl)) (by unfold Func.isWrapper; first | (rw [if_pos (by decide +kernel)]; kernel_rfl) | (rw [if_neg (by decide +kernel)]; exact ⟨rfl, rfl⟩))
    (fun os started H enc _ => lifted os started H enc)

end latchTurns
end Go.Proofs.Ytbnjfahjbemleaa
