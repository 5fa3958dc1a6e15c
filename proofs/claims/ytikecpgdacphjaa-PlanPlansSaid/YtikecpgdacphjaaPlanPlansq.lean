/- PlanPlans: each plan has its own slots, which hang on its shares and on the frame alone: the law answers true for every two configurations. No conditions. -/
import Derived.Test.YtikecpgdacphjaaPlTq
import Derived.Test.YtikecpgdacphjaaRwL
import Derived.Test.YtikecpgdacphjaaTail
import Derived.Deep.RegionHeld3
import Derived.ChangeMaps5
import Derived.ChangeSame
import Derived.ChangeVars
import Derived.JoinedOf
import Derived.RowKitTokens
namespace Go.Proofs.Ytikecpgdacphjaa
set_option linter.unusedSimpArgs false
open Go.ChangeShapes Go.WideShapes Go.ChangeAt Go.RowKit Go.Joins Go.Deep

namespace planPlans
/-- The one with the frame and the plans of the other. -/
abbrev mix (c d : Cnf) : Cnf := ⟨c.frame, d.epoch, c.plans, d.doms⟩
theorem none_any {c : Cnf} {i : Int} (e : ownersL c i = []) {pv dv : Value} {w : World} (hc : ConfV w c pv dv) : Calls Try.prog 10 #[confV c pv dv, .int .i64 i] w fun e w' => ∃ p q, e = .returned (.slice p 0 q) ∧ Ext w w' := by
  refine (owners_all hc i).mono ?_
  rw [e]
  rintro e w' ⟨u, rfl, hx, hI⟩
  obtain ⟨p, q, rfl, -, -⟩ := hI.shape
  exact ⟨p, q, rfl, hx⟩
set_option maxRecDepth 100000 in
set_option maxHeartbeats 8000000 in
theorem walk (c d : Cnf) (pc dc pd dd : Value) (w : World) (hc : ConfV w c pc dc) (hd : ConfV w d pd dd) :
    Calls Try.prog 6 #[confV c pc dc, confV d pd dd] w (Yields w (.bool true)) := by
  obtain ⟨pp, cp, rfl, hp1, hp2⟩ := hc.plans.shape
  obtain ⟨qp, cq, rfl, hq1, hq2⟩ := hc.doms.shape
  obtain ⟨rp, cr, rfl, hr1, hr2⟩ := hd.plans.shape
  obtain ⟨sp, cs, rfl, hs1, hs2⟩ := hd.doms.shape
  unfold maxLen at hp2 hq2 hr2 hs2
  have HC := hid hc
  have HD := hid hd
  have HE : Hid (ConfV w (mix c d) (.slice pp c.plans.length cp) (.slice sp d.doms.length cs)) := hid ⟨hc.plans, hd.doms⟩
  clear hc hd
  cases hwc : wideB c
  case true =>
    have QC := hid hwc
    clear hwc
    go_enter Try.func6, Try.ntmps6
    go_wp2_with (first
      | (go_at_call 7; refine (known_any _).yields ?_; intro p0)
      | (go_at_call 8; (with_reducible refine (wide_to QC.out _ _ _ (HC.out.ext ext_by)).yields ?_); intro p1))
    go_returns
    exact ⟨rfl, ext_by⟩
  have QC := hid hwc
  have RC : Hid (∀ x ∈ c.doms, ∀ r ∈ x.routes, r.length ≤ 300) := hid (wide_routes hwc).2
  clear hwc
  cases hwd : wideB d
  case true =>
    have QD := hid hwd
    clear hwd
    go_enter Try.func6, Try.ntmps6
    go_wp2_with (first
      | (go_at_call 7; refine (known_any _).yields ?_; intro p0)
      | (go_at_call 8; (with_reducible refine (wide_to QC.out _ _ _ (HC.out.ext ext_by)).yields ?_); intro p1)
      | (go_at_call 8; (with_reducible refine (wide_to QD.out _ _ _ (HD.out.ext ext_by)).yields ?_); intro p2))
    go_returns
    exact ⟨rfl, ext_by⟩
  have QD := hid hwd
  have RD : Hid (∀ x ∈ d.doms, ∀ r ∈ x.routes, r.length ≤ 300) := hid (wide_routes hwd).2
  clear hwd
  cases hec : isConf c
  case succ m =>
    have IC := hid hec
    have hm1 : (((m + 1 : Nat) : Int) == 0) = false := by simp; omega
    have hm2 : (((m + 1 : Nat) : Int) != 0) = true := by simp; omega
    clear hec
    go_enter Try.func6, Try.ntmps6
    go_wp2_with (first
      | (go_at_call 7; refine (known_any _).yields ?_; intro p0)
      | (go_at_call 8; (with_reducible refine (wide_to QC.out _ _ _ (HC.out.ext ext_by)).yields ?_); intro p1)
      | (go_at_call 8; (with_reducible refine (wide_to QD.out _ _ _ (HD.out.ext ext_by)).yields ?_); intro p2)
      | (go_at_call 18; (with_reducible refine (isConf_to IC.out _ _ _ (HC.out.ext ext_by) RC.out).yields ?_); intro p3))
    go_returns
    exact ⟨rfl, ext_by⟩
  have IC := hid hec
  cases hed : isConf d
  case succ m =>
    have ID := hid hed
    have hm1 : (((m + 1 : Nat) : Int) == 0) = false := by simp; omega
    have hm2 : (((m + 1 : Nat) : Int) != 0) = true := by simp; omega
    clear hed
    go_enter Try.func6, Try.ntmps6
    go_wp2_with (first
      | (go_at_call 7; refine (known_any _).yields ?_; intro p0)
      | (go_at_call 8; (with_reducible refine (wide_to QC.out _ _ _ (HC.out.ext ext_by)).yields ?_); intro p1)
      | (go_at_call 8; (with_reducible refine (wide_to QD.out _ _ _ (HD.out.ext ext_by)).yields ?_); intro p2)
      | (go_at_call 18; (with_reducible refine (isConf_to IC.out _ _ _ (HC.out.ext ext_by) RC.out).yields ?_); intro p3)
      | (go_at_call 18; (with_reducible refine (isConf_to ID.out _ _ _ (HD.out.ext ext_by) RD.out).yields ?_); intro p4))
    go_returns
    exact ⟨rfl, ext_by⟩
  have ID := hid hed
  by_cases hlen : c.doms.length = d.doms.length
  case neg =>
    have hb1 : ((c.doms.length : Int) == d.doms.length) = false := by simp; omega
    have hb2 : ((c.doms.length : Int) != d.doms.length) = true := by simp; omega
    clear hec hed
    go_enter Try.func6, Try.ntmps6
    go_wp2_with (first
      | (go_at_call 7; refine (known_any _).yields ?_; intro p0)
      | (go_at_call 8; (with_reducible refine (wide_to QC.out _ _ _ (HC.out.ext ext_by)).yields ?_); intro p1)
      | (go_at_call 8; (with_reducible refine (wide_to QD.out _ _ _ (HD.out.ext ext_by)).yields ?_); intro p2)
      | (go_at_call 18; (with_reducible refine (isConf_to IC.out _ _ _ (HC.out.ext ext_by) RC.out).yields ?_); intro p3)
      | (go_at_call 18; (with_reducible refine (isConf_to ID.out _ _ _ (HD.out.ext ext_by) RD.out).yields ?_); intro p4))
    go_returns
    exact ⟨rfl, ext_by⟩
  have HL := hid hlen
  have hb1 : ((c.doms.length : Int) == d.doms.length) = true := by simp; omega
  have hb2 : ((c.doms.length : Int) != d.doms.length) = false := by simp; omega
  clear hlen
  go_enter Try.func6, Try.ntmps6
  go_upto_region 5 with (first
    | (go_at_call 7; refine (known_any _).yields ?_; intro p0)
    | (go_at_call 8; (with_reducible refine (wide_to QC.out _ _ _ (HC.out.ext ext_by)).yields ?_); intro p1)
    | (go_at_call 8; (with_reducible refine (wide_to QD.out _ _ _ (HD.out.ext ext_by)).yields ?_); intro p2)
    | (go_at_call 18; (with_reducible refine (isConf_to IC.out _ _ _ (HC.out.ext ext_by) RC.out).yields ?_); intro p3)
    | (go_at_call 18; (with_reducible refine (isConf_to ID.out _ _ _ (HD.out.ext ext_by) RD.out).yields ?_); intro p4))
  refine wp_forget (fun u => Ext w u ∧ u.cell? ⟨w.heap.size, 0, none⟩ = some (.int .i64 c.frame) ∧ u.cell? ⟨w.heap.size, 1, none⟩ = some (.int .i64 c.epoch) ∧ u.cell? ⟨w.heap.size, 2, none⟩ = some (.slice pp c.plans.length cp) ∧ u.cell? ⟨w.heap.size, 3, none⟩ = some (.slice qp c.doms.length cq) ∧ u.cell? ⟨w.heap.size + 1, 0, none⟩ = some (.int .i64 d.frame) ∧ u.cell? ⟨w.heap.size + 1, 1, none⟩ = some (.int .i64 d.epoch) ∧ u.cell? ⟨w.heap.size + 1, 2, none⟩ = some (.slice rp d.plans.length cr) ∧ u.cell? ⟨w.heap.size + 1, 3, none⟩ = some (.slice sp d.doms.length cs)) ⟨ext_by, by simp [go_sem], by simp [go_sem], by simp [go_sem], by simp [go_sem], by simp [go_sem], by simp [go_sem], by simp [go_sem], by simp [go_sem]⟩ ?_
  rintro W0 ⟨X0, k0, k1, k2, k3, j0, j1, j2, j3⟩
  obtain ⟨g, hg⟩ : ∃ g, g = W0.heap.size := ⟨_, rfl⟩
  have hwg : w.heap.size < g := by rw [hg]; exact World.block_lt_of_cell? _ _ k0
  go_upto_region 6 with fail
  refine wp_forget (fun u => Ext w u ∧ u.cell? ⟨w.heap.size, 0, none⟩ = some (.int .i64 c.frame) ∧ u.cell? ⟨w.heap.size, 1, none⟩ = some (.int .i64 c.epoch) ∧ u.cell? ⟨w.heap.size, 2, none⟩ = some (.slice pp c.plans.length cp) ∧ u.cell? ⟨w.heap.size, 3, none⟩ = some (.slice qp c.doms.length cq) ∧ Hid (Blk u g 25 [.int .i64 d.frame, .int .i64 d.epoch, .slice rp d.plans.length cr, .slice sp d.doms.length cs])) ⟨ext_by, (Ext.alloc (Ext.refl _) _).cell k0, (Ext.alloc (Ext.refl _) _).cell k1, (Ext.alloc (Ext.refl _) _).cell k2, (Ext.alloc (Ext.refl _) _).cell k3, hid (by rw [hg]; exact Blk.new W0 _ _)⟩ ?_
  clear k0 k1 k2 k3 j0 j1 j2 j3
  rintro W1 ⟨X1, k0, k1, k2, k3, B1⟩
  rw [← hg]
  clear hg X0
  have z0 : W1.cell? ⟨g, 0, none⟩ = some (.int .i64 d.frame) := B1.out.cell (i := 0) (by simp)
  have z2 : W1.cell? ⟨g, 2, none⟩ = some (.slice rp d.plans.length cr) := B1.out.cell (i := 2) (by simp)
  have zf0 := B1.out.frozen 0
  have zf2 := B1.out.frozen 2
  have zl := B1.out.lt
  have hgne : ¬ w.heap.size = g := by omega
  go_region
  go_upto_region 7 with fail
  refine wp_forget (fun u => Ext w u ∧ u.cell? ⟨w.heap.size, 0, none⟩ = some (.int .i64 c.frame) ∧ u.cell? ⟨w.heap.size, 1, none⟩ = some (.int .i64 c.epoch) ∧ u.cell? ⟨w.heap.size, 2, none⟩ = some (.slice pp c.plans.length cp) ∧ u.cell? ⟨w.heap.size, 3, none⟩ = some (.slice qp c.doms.length cq) ∧ Hid (Blk u g 25 [.int .i64 c.frame, .int .i64 d.epoch, .slice pp c.plans.length cp, .slice sp d.doms.length cs])) ⟨ext_by, by simp [go_sem, *], by simp [go_sem, *], by simp [go_sem, *], by simp [go_sem, *], hid ((B1.out.set 0 _).set 2 _)⟩ ?_
  clear k0 k1 k2 k3 z0 z2 zf0 zf2 zl B1
  rintro W2 ⟨X2, k0, k1, k2, k3, B2⟩
  have z0 : W2.cell? ⟨g, 0, none⟩ = some (.int .i64 c.frame) := B2.out.cell (i := 0) (by simp)
  have z1 : W2.cell? ⟨g, 1, none⟩ = some (.int .i64 d.epoch) := B2.out.cell (i := 1) (by simp)
  have z2 : W2.cell? ⟨g, 2, none⟩ = some (.slice pp c.plans.length cp) := B2.out.cell (i := 2) (by simp)
  have z3 : W2.cell? ⟨g, 3, none⟩ = some (.slice sp d.doms.length cs) := B2.out.cell (i := 3) (by simp)
  have hb3 : w.heap.size < W2.heap.size := World.block_lt_of_cell? _ _ k0
  have hb4 : g < W2.heap.size := World.block_lt_of_cell? _ _ z0
  clear B2 X1
  have VE := hid (HE.out.ext X2)
  have VC := hid (HC.out.ext X2)
  cases hee : isConf (mix c d)
  case succ m =>
    have IE := hid hee
    have hm1 : (((m + 1 : Nat) : Int) == 0) = false := by simp; omega
    have hm2 : (((m + 1 : Nat) : Int) != 0) = true := by simp; omega
    clear hee
    go_wp2_with (go_at_call 18; (with_reducible refine (isConf_to IE.out _ _ _ VE.out RD.out).yields ?_); intro p5)
    go_returns
    exact ⟨by simp, ext_by⟩
  have IE := hid hee
  have HS := hid (owners_same hec hee rfl rfl)
  clear hec hed hee
  go_upto_region 9 with (go_at_call 18; (with_reducible refine (isConf_to IE.out _ _ _ VE.out RD.out).yields ?_); intro p5)
  have n0 := more_cell k0 p5
  have n1 := more_cell k1 p5
  have n2 := more_cell k2 p5
  have n3 := more_cell k3 p5
  have y0 := more_cell z0 p5
  have y1 := more_cell z1 p5
  have y2 := more_cell z2 p5
  have y3 := more_cell z3 p5
  have X3 := X2.more p5
  clear k0 k1 k2 k3 z0 z1 z2 z3 VE VC hb3 hb4 X2
  generalize more W2 p5 = W3 at *
  have VE := hid (HE.out.ext X3)
  have VC := hid (HC.out.ext X3)
  go_wp2
  go_loopw [6] (fun v6 wr => Ext W3 wr ∧ ∃ i : Nat, v6 = .int .i64 i ∧ i ≤ c.plans.length) (fun v6 _ => (c.plans.length - intOf v6).toNat)
  case atStart => exact ⟨Ext.refl _, 0, rfl, by omega⟩
  case round =>
    obtain ⟨hx, i, rfl, hi⟩ := hrel
    have k0 := hx.cell n0
    have k1 := hx.cell n1
    have k2 := hx.cell n2
    have k3 := hx.cell n3
    have z0 := hx.cell y0
    have z1 := hx.cell y1
    have z2 := hx.cell y2
    have z3 := hx.cell y3
    have hb3 : w.heap.size < wr.heap.size := World.block_lt_of_cell? _ _ k0
    have hb4 : g < wr.heap.size := World.block_lt_of_cell? _ _ z0
    have VE := hid (VE.out.ext hx)
    have VC := hid (VC.out.ext hx)
    clear n0 n1 n2 n3 y0 y1 y2 y3
    by_cases hlt : i < c.plans.length
    · have i1 : (i : Int) < c.plans.length := by omega
      go_wp2
      go_region_held3 (fun wx => Ext wr wx ∧ wx.cell? ⟨w.heap.size, 0, none⟩ = some (.int .i64 c.frame) ∧ wx.cell? ⟨w.heap.size, 1, none⟩ = some (.int .i64 c.epoch) ∧ wx.cell? ⟨w.heap.size, 2, none⟩ = some (.slice pp c.plans.length cp) ∧ wx.cell? ⟨w.heap.size, 3, none⟩ = some (.slice qp c.doms.length cq) ∧ wx.cell? ⟨g, 0, none⟩ = some (.int .i64 c.frame) ∧ wx.cell? ⟨g, 1, none⟩ = some (.int .i64 d.epoch) ∧ wx.cell? ⟨g, 2, none⟩ = some (.slice pp c.plans.length cp) ∧ wx.cell? ⟨g, 3, none⟩ = some (.slice sp d.doms.length cs))
        (first | (go_split_ands; with_reducible exact ⟨Ext.trans (by assumption) hq, Ext.cell hq (by assumption), Ext.cell hq (by assumption), Ext.cell hq (by assumption), Ext.cell hq (by assumption), Ext.cell hq (by assumption), Ext.cell hq (by assumption), Ext.cell hq (by assumption), Ext.cell hq (by assumption)⟩) | (go_split_ands; with_reducible exact ⟨Ext.alloc (by assumption) _, Ext.cell (Ext.alloc (Ext.refl _) _) (by assumption), Ext.cell (Ext.alloc (Ext.refl _) _) (by assumption), Ext.cell (Ext.alloc (Ext.refl _) _) (by assumption), Ext.cell (Ext.alloc (Ext.refl _) _) (by assumption), Ext.cell (Ext.alloc (Ext.refl _) _) (by assumption), Ext.cell (Ext.alloc (Ext.refl _) _) (by assumption), Ext.cell (Ext.alloc (Ext.refl _) _) (by assumption), Ext.cell (Ext.alloc (Ext.refl _) _) (by assumption)⟩) | exact ⟨Ext.drew (Ext.refl _), Ext.cell (Ext.drew (Ext.refl _)) k0, Ext.cell (Ext.drew (Ext.refl _)) k1, Ext.cell (Ext.drew (Ext.refl _)) k2, Ext.cell (Ext.drew (Ext.refl _)) k3, Ext.cell (Ext.drew (Ext.refl _)) z0, Ext.cell (Ext.drew (Ext.refl _)) z1, Ext.cell (Ext.drew (Ext.refl _)) z2, Ext.cell (Ext.drew (Ext.refl _)) z3⟩ | (go_split_ands; refine ⟨ext_by, ?_, ?_, ?_, ?_, ?_, ?_, ?_, ?_⟩ <;> go_keep))
        (first
          | (go_at_call 10; (with_reducible refine (owners_all (c := c) (VC.out.ext (by go_split_ands; assumption)) (i : Int)).mono ?_); rintro e w' ⟨u1, rfl, hq, hI1⟩)
          | (go_at_call 10; (with_reducible refine (owners_all (c := mix c d) (VE.out.ext (by go_split_ands; assumption)) (i : Int)).mono ?_); rw [HS.out]; rintro e w' ⟨u2, rfl, hq, hI2⟩)
          | (go_at_call 9; (with_reducible refine (sameI_to (hI1.ext hq) hI2).mono ?_); rintro e w' ⟨rfl, hq⟩))
      all_goals
        go_split_ands
        go_wp2
        go_roundw
        case rel => exact ⟨hx.trans (by assumption), i + 1, by go_num, by omega⟩
        case measure => simp [intOf]; omega
    · obtain rfl : i = c.plans.length := by omega
      have O1 := hid (owners_out (c := c) (i := (c.plans.length : Int)) (by omega))
      have O2 := hid (owners_out (c := c) (i := -1) (by omega))
      clear VE
      go_wp2_with (first
        | (go_at_call 10; (with_reducible refine (none_any O1.out VC.out).mono ?_); rintro e w7 ⟨p7, q7, rfl, hx7⟩; have d0 := hx7.cell k0; have d1 := hx7.cell k1; have d2 := hx7.cell k2; have d3 := hx7.cell k3; have hb7 : w.heap.size < w7.heap.size := World.block_lt_of_cell? _ _ d0)
        | (go_at_call 10; (with_reducible refine (none_any O2.out (VC.out.ext hx7)).mono ?_); rintro e w8 ⟨p8, q8, rfl, hx8⟩))
      go_returns
      exact ⟨by simp, X3.trans (hx.trans (hx7.trans hx8))⟩

set_option linter.unusedVariables false in
set_option maxRecDepth 100000 in
theorem lifted (os : Os) (started : os.Started) (H : Type) (enc : TypeId × Value → H) :
    ReturnsInHanded {} Try.checked os 6 .any (Rows.planPlansSpec.pre6 enc Try.prog Try.f6 Rows.planPlansRow.domain false) (Rows.planPlansSpec.post enc Try.prog Try.f6 false true false false) := by
  refine returnsInHanded_of_change (C := Try.checked) Own.own started (by kernel_rfl) Try.func6
    (ChangeSpec.witness6 (enc := enc) (C := Try.checked) false ⟨#[], #[.agg #[.int .i64 0, .int .i64 0, .slice none 0 0, .slice none 0 0], .agg #[.int .i64 0, .int .i64 0, .slice none 0 0, .slice none 0 0]], []⟩ 8 (by kernel_rfl) (by kernel_rfl) (by kernel_rfl) (by kernel_rfl)) ?_
  intro W base args ds gs before hval0 hW hcnd _
  have hval : ∀ (j : Nat) t v, Try.f6.params[j]? = some t → args[j]? = some v → Value.okWide Try.prog W .any base t v := hval0
  have hW' := hW
  obtain ⟨p, q, hA0, hV, rfl, hfz, hnd⟩ := hW
  have hA : DataW.TrodAll enc Try.prog W 0 (fun _ => true) true Try.f6.params.toList args.toList ds p := hA0
  rw [Try.params6] at hA hval
  obtain ⟨v0, vs0, d0, ds0, p0, q0, hargs, rfl, rfl, h0, r0⟩ := trodAll_cons hA
  obtain ⟨v1, vs1, d1, ds1, p1, q1, rfl, rfl, rfl, h1, r1⟩ := trodAll_cons r0
  obtain ⟨rfl, rfl, rfl⟩ := trodAll_nil r1
  obtain rfl : args = #[v0, v1] := by cases args; simp_all
  obtain ⟨rfl, rfl⟩ := trodVars_none hV
  have k0 := h0
  have lt0 : ∀ x ∈ p0, x.block < W.heap.size := by obtain ⟨m, hm⟩ := k0; exact DataW.trod_lt m _ _ _ hm
  have k1 := h1
  have lt1 : ∀ x ∈ p1, x.block < W.heap.size := by obtain ⟨m, hm⟩ := k1; exact DataW.trod_lt m _ _ _ hm
  obtain ⟨c, pc, dc, rfl, hc⟩ := Own.open_conf (hval 0 25 v0 rfl rfl) (by exact h0)
  obtain ⟨d, pd, dd, rfl, hd⟩ := Own.open_conf (hval 1 25 v1 rfl rfl) (by exact h1)
  clear hA0 hval0
  refine (walk c d pc dc pd dd W hc hd).mono fun e W' ⟨he, hx⟩ => ?_
  subst he
  exact ⟨_, rfl, _, _, _, [], _, [], hW', trodAll_mk1 (shut_bool Try.underlying4 _), (trodAll_cons_mk (Below.trod Own.laidOut (by kernel_rfl) (of_decide_eq_true (by kernel_rfl)) k0 hx.below lt0) (trodAll_cons_mk (Below.trod Own.laidOut (by kernel_rfl) (of_decide_eq_true (by kernel_rfl)) k1 hx.below lt1) trodAll_mk0)), rfl, hx.below.frame _, fun h => by cases h⟩

theorem proved : Rows.PlanPlansSaid :=
  OpenClaim.holds_of_wide 6 Try.f6 rfl rfl rfl rfl rfl rfl rfl ⟨rfl, rfl, rfl, rfl, rfl⟩ rfl rfl rfl rfl rfl (by kernel_rfl) Try.func6 (by kernel_rfl)
    (of_decide_eq_true (by kernel_rfl)) (by unfold Func.isWrapper; first | (rw [if_pos (by decide +kernel)]; kernel_rfl) | (rw [if_neg (by decide +kernel)]; exact ⟨rfl, rfl⟩))
    (fun os started H enc _ => lifted os started H enc)

end planPlans
end Go.Proofs.Ytikecpgdacphjaa
