/- LatchPlays: every row of asks and turns: each error, the plan, all levels, behind each: as the document's latch: the law answers true. No conditions. -/
import Derived.Test.YtbnjfahjbemleaaDoorLpDq
import Derived.Test.YtbnjfahjbemleaaDoorLpKq
import Derived.Test.YtbnjfahjbemleaaDoorAs
import Derived.Test.YtbnjfahjbemleaaDoorOwnF
import Derived.Test.YtbnjfahjbemleaaDoorRefAll
import Derived.Test.YtbnjfahjbemleaaDoorWideq
import Derived.Test.YtbnjfahjbemleaaDoorSI
import Derived.Test.YtbnjfahjbemleaaDoorTie
import Derived.Test.YtbnjfahjbemleaaDoorCards
import Derived.SevenTiedAt
import Derived.ChangeMaps5
import Derived.ChangeSame
import Derived.ChangeVars
import Derived.JoinedOf
import Derived.RowKitTokens
import Derived.LaidLaws
import Derived.LaidHandle
import Derived.Stop.Joined
import Derived.SizedLaws
import Derived.WalkSpells
import Derived.WalkLawsBesides
import Derived.Deep.LoopGhost
import Derived.Deep.CutBlock
import Derived.Deep.DeepCutAuto
namespace Go.Proofs.YtbnjfahjbemleaaDoor
set_option linter.unusedSimpArgs false
open Go.ChangeShapes Go.WideShapes Go.ChangeAt Go.RowKit Go.Joins Go.Deep

namespace latchPlays
theorem stps_ext {w w' : World} {v : Value} {l : List Stp} (h : Stps w v l) (k : Ext w w') : Stps w' v l := h.mono fun _ _ _ h => ⟨k.cell h.1, k.cell h.2.1, k.cell h.2.2.1, h.2.2.2⟩
/-- What stays of a step while the region draws. -/
def SF (g : Nat) (t1 t2 : Int) (u : World) : Prop := u.cell? ⟨g, 1, none⟩ = some (.int .i64 t1) ∧ u.cell? ⟨g, 2, none⟩ = some (.int .i64 t2)
theorem sf_kept {g : Nat} {t1 t2 : Int} {w w' : World} (k : Kept (fun k => nF k ∨ k = g) w w') (h : SF g t1 t2 w) : SF g t1 t2 w' := ⟨(k.cell (.inr rfl)).trans h.1, (k.cell (.inr rfl)).trans h.2⟩
theorem sf_ext {g : Nat} {t1 t2 : Int} {w w' : World} (k : Ext w w') (h : SF g t1 t2 w) : SF g t1 t2 w' := ⟨k.cell h.1, k.cell h.2⟩
theorem tAny_of {w W : World} (hg : w.cell? ⟨0, 0, none⟩ = some As.tAny) (h0 : Ext w W) : W.cell? ⟨0, 0, none⟩ = some As.tAny := h0.cell hg
theorem code_any (e : Nat) (w : World) (hg : w.cell? ⟨0, 0, none⟩ = some As.tAny) : Calls Tryd.prog 9 #[errV e] w (Yields w (.int .i64 e)) := by
  by_cases he : e = 0
  · subst he
    exact As.code15_nil w
  · rw [errV_pos he]; exact As.code15_errno e w hg
set_option maxRecDepth 100000 in
set_option maxHeartbeats 8000000 in
theorem walk (c : Cnf) (L : List Stp) (pv dv vl : Value) (w : World) (hc : ConfV w c pv dv) (hL : Stps w vl L) (hg : w.cell? ⟨0, 0, none⟩ = some As.tAny) :
    Calls Tryd.prog 3 #[confV c pv dv, vl] w (Yields w (.bool true)) := by
  obtain ⟨pl, cl, rfl, hcl, hml⟩ := hL.shape
  unfold maxLen at hml
  have HC := hid hc
  have HL := hid hL
  have HG := hid hg
  clear hL hg
  cases hwa : wideB c
  case true =>
    have QA := hid hwa
    clear hwa hc
    go_enter Tryd.func3, Tryd.ntmps3
    go_wp2_with (first
      | (go_at_call 4; refine (known_any _).yields ?_; intro p0)
      | (go_at_call 5; (with_reducible refine (wide_to QA.out _ _ _ (HC.out.ext ext_by)).yields ?_); intro p1))
    go_returns
    exact ⟨rfl, ext_by⟩
  have QA := hid hwa
  have RA : Hid (∀ d ∈ c.doms, ∀ r ∈ d.routes, r.length ≤ 300) := hid (wide_routes hwa).2
  clear hwa
  cases hi : isConf c
  case succ m =>
    have HI := hid hi
    have hm1 : (((m + 1 : Nat) : Int) == 0) = false := by simp; omega
    have hm2 : (((m + 1 : Nat) : Int) != 0) = true := by simp; omega
    clear hi hc
    go_enter Tryd.func3, Tryd.ntmps3
    go_wp2_with (first
      | (go_at_call 4; refine (known_any _).yields ?_; intro p0)
      | (go_at_call 5; (with_reducible refine (wide_to QA.out _ _ _ (HC.out.ext ext_by)).yields ?_); intro p1)
      | (go_at_call 6; (with_reducible refine (isConf_to HI.out _ _ _ (HC.out.ext ext_by) RA.out).yields ?_); intro p2))
    go_returns
    exact ⟨rfl, ext_by⟩
  have HI := hid hi
  have hd1 : 0 < c.doms.length := (Good.of hi).d1
  clear hi
  by_cases hlen : (60 : Int) < L.length
  · clear hc
    go_enter Tryd.func3, Tryd.ntmps3
    go_wp2_with (first
      | (go_at_call 4; refine (known_any _).yields ?_; intro p0)
      | (go_at_call 5; (with_reducible refine (wide_to QA.out _ _ _ (HC.out.ext ext_by)).yields ?_); intro p1)
      | (go_at_call 6; (with_reducible refine (isConf_to HI.out _ _ _ (HC.out.ext ext_by) RA.out).yields ?_); intro p2))
    go_returns
    exact ⟨rfl, ext_by⟩
  obtain ⟨qp, cq, rfl, hq1, hq2⟩ := hc.doms.shape
  obtain ⟨pp, cp, rfl, hp1, hp2⟩ := hc.plans.shape
  unfold maxLen at hp2
  unfold maxLen at hq2
  clear hc
  go_enter Tryd.func3, Tryd.ntmps3
  go_upto_region 5 with (first
      | (go_at_call 4; refine (known_any _).yields ?_; intro p0)
      | (go_at_call 5; (with_reducible refine (wide_to QA.out _ _ _ (HC.out.ext ext_by)).yields ?_); intro p1)
      | (go_at_call 6; (with_reducible refine (isConf_to HI.out _ _ _ (HC.out.ext ext_by) RA.out).yields ?_); intro p2))
  refine wp_forget (fun u => Ext w u ∧ u.cell? ⟨w.heap.size, 0, none⟩ = some (.int .i64 c.frame) ∧ u.cell? ⟨w.heap.size, 1, none⟩ = some (.int .i64 c.epoch) ∧ u.cell? ⟨w.heap.size, 2, none⟩ = some (.slice pp c.plans.length cp) ∧ u.cell? ⟨w.heap.size, 3, none⟩ = some (.slice qp c.doms.length cq)) ⟨ext_by, by simp [go_sem], by simp [go_sem], by simp [go_sem], by simp [go_sem]⟩ ?_
  rintro W ⟨X, k0, k1, k2, k3⟩
  have VC := hid (HC.out.ext X)
  have HP := hid (fun u (h : ConfV u c (.slice pp c.plans.length cp) (.slice qp c.doms.length cq)) => pNew h HI.out)
  have HN := hid (fun u (h : ConfV u c (.slice pp c.plans.length cp) (.slice qp c.doms.length cq)) => rnew_any h (Good.of HI.out))
  go_region_held3 (fun wx => Ext W wx ∧ wx.cell? ⟨w.heap.size, 0, none⟩ = some (.int .i64 c.frame) ∧ wx.cell? ⟨w.heap.size, 1, none⟩ = some (.int .i64 c.epoch) ∧ wx.cell? ⟨w.heap.size, 2, none⟩ = some (.slice pp c.plans.length cp) ∧ wx.cell? ⟨w.heap.size, 3, none⟩ = some (.slice qp c.doms.length cq))
    (first | (go_split_ands; with_reducible exact ⟨Ext.trans (by assumption) hq, Ext.cell hq (by assumption), Ext.cell hq (by assumption), Ext.cell hq (by assumption), Ext.cell hq (by assumption)⟩) | (go_split_ands; with_reducible exact ⟨Ext.alloc (by assumption) _, Ext.cell (Ext.alloc (Ext.refl _) _) (by assumption), Ext.cell (Ext.alloc (Ext.refl _) _) (by assumption), Ext.cell (Ext.alloc (Ext.refl _) _) (by assumption), Ext.cell (Ext.alloc (Ext.refl _) _) (by assumption)⟩) | exact ⟨Ext.drew (Ext.refl _), Ext.cell (Ext.drew (Ext.refl _)) k0, Ext.cell (Ext.drew (Ext.refl _)) k1, Ext.cell (Ext.drew (Ext.refl _)) k2, Ext.cell (Ext.drew (Ext.refl _)) k3⟩ | (go_split_ands; refine ⟨ext_by, ?_, ?_, ?_, ?_⟩ <;> go_keep))
    (first
      | (go_at_call 8; (with_reducible refine (HN.out _ (VC.out.ext (by go_split_ands; assumption))).mono ?_); rintro e w' ⟨y, gl, ga, rfl, hq, hy1, hy2, hy3, hR2⟩; have hsecond := hq)
      | (go_at_call 7; (with_reducible refine (HP.out _ (VC.out.ext (by go_split_ands; assumption))).mono ?_); rintro e w1 ⟨A1, b, rfl, hq, hA1, hP1⟩; have hfirst := hq))
  go_split_ands
  go_upto_region 6 with fail
  have hsz : W.drew.heap.size = W.heap.size := rfl
  have HD2 : Hid (Du W b y c (.slice pp c.plans.length cp) (.slice qp c.doms.length cq) (Lt.new c) (Lt.new c) nF w') := hid (Du.new (Ext.trans (Ext.drew (Ext.refl _)) hfirst) hP1 (fun k hk => by have := hA1 k hk; omega) (fun _ h => h.elim) hsecond hR2 hy1 hy2 hy3)
  refine wp_forget (fun u => Hid (Du W b y c (.slice pp c.plans.length cp) (.slice qp c.doms.length cq) (Lt.new c) (Lt.new c) nF u)) HD2 ?_
  clear hsz HD2 hfirst hsecond hP1 hR2 hA1 HP HN k0 k1 k2 k3
  rintro W2 HD2
  have hg0 := tAny_of HG.out X
  have HG2 := hid hg0
  clear hg0
  go_wp2
  go_loopw [7] (fun v7 wr => ∃ i : Nat, v7 = .int .i64 i ∧ i ≤ L.length ∧ ∃ s, Hid (Du W b y c (.slice pp c.plans.length cp) (.slice qp c.doms.length cq) s s nF wr)) (fun v7 _ => (L.length - intOf v7).toNat)
  case atStart => exact ⟨0, rfl, by omega, _, HD2⟩
  case round =>
    obtain ⟨i, rfl, hi, s, hP⟩ := hrel
    clear HD2
    have hxw : Ext w wr := X.trans hP.out.x
    by_cases hlt : i < L.length
    · obtain ⟨lb, lo, rfl, a0, a1, a2, -, -⟩ := (stps_ext HL.out hxw).at i hlt
      have i1 : (i : Int) < L.length := by omega
      have hlb := World.block_lt_of_cell? _ _ a0
      generalize L[i].what = t0 at *
      generalize L[i].id = t1 at *
      generalize L[i].n = t2 at *
      obtain ⟨g, hg⟩ : ∃ g, g = wr.heap.size := ⟨_, rfl⟩
      go_upto_region 10 with fail
      refine wp_forget (fun u => Hid (Du W b y c (.slice pp c.plans.length cp) (.slice qp c.doms.length cq) s s (fun k => nF k ∨ k = g) u) ∧ u.cell? ⟨g, 0, none⟩ = some (.int .i64 t0) ∧ u.cell? ⟨g, 1, none⟩ = some (.int .i64 t1) ∧ u.cell? ⟨g, 2, none⟩ = some (.int .i64 t2)) ⟨hid (hP.out.more (by exact ext_by) (by omega) (by rw [hg]; simp)), by rw [hg]; simp [go_sem], by rw [hg]; simp [go_sem], by rw [hg]; simp [go_sem]⟩ ?_
      rw [← hg]
      clear hg a0 a1 a2 hP hxw
      rintro w5 ⟨HD5, q0, q1, q2⟩
      go_upto_block 2 with fail
      go_cut [9, 10] (fun v9 v10 wx => ∃ (n : Nat) (s' : Lt), v9 = .int .i64 n ∧ v10 = .int .i64 n ∧ Hid (Du W b y c (.slice pp c.plans.length cp) (.slice qp c.doms.length cq) s' s' (fun k => nF k ∨ k = g) wx))
      case first =>
        by_cases ht : t0 ≤ 1
        · obtain ⟨n, s', e0⟩ : ∃ n s', s.askPlan c t2 = (n, s') := ⟨_, _, rfl⟩
          have HE := hid e0
          clear e0
          go_upto_region 14 with fail
          refine wp_region_T 9 2 (SF g t1 t2) (by kernel_rfl) (by kernel_rfl) ?_
          have HD0 := hid (HD5.out.ext (Ext.drew (Ext.refl _)))
          have HS0 : SF g t1 t2 w5.drew := ⟨Ext.cell (Ext.drew (Ext.refl _)) q1, Ext.cell (Ext.drew (Ext.refl _)) q2⟩
          clear HD5 q0 q1 q2
          generalize w5.drew = z0 at *
          have HSS := HS0
          refine wpT_tk 0 HSS ?_ (hy := by intro u hu; obtain ⟨hs1, hs2⟩ := hu; go_simp; first | done | (with_reducible rfl)); (try simp only [nrm])
          refine wpT_tk 1 HSS ?_ (hy := by intro u hu; obtain ⟨hs1, hs2⟩ := hu; go_simp; first | done | (with_reducible rfl)); (try simp only [nrm])
          refine wpT_tk 2 HSS ?_ (hy := by intro u hu; obtain ⟨hs1, hs2⟩ := hu; go_simp; first | done | (with_reducible rfl)); (try simp only [nrm])
          refine wpT_tk 5 HSS ?_ (hy := by intro u hu; obtain ⟨hs1, hs2⟩ := hu; go_simp; first | done | (with_reducible rfl)); (try simp only [nrm])
          refine wpT_tk 6 HSS ?_ (hy := by intro u hu; obtain ⟨hs1, hs2⟩ := hu; go_simp; first | done | (with_reducible rfl)); (try simp only [nrm])
          refine wpT_tk 7 HSS ?_ (hy := by intro u hu; obtain ⟨hs1, hs2⟩ := hu; go_simp; first | done | (with_reducible rfl)); (try simp only [nrm])
          refine wpT_on 3 (fun K' hK => ?_)
          go_simp
          refine (d_askPlan HD0.out t2).mono ?_
          rw [HE.out]
          rintro e v1 ⟨rfl, hd1', hk1⟩
          have HD1 := hid hd1'
          have HS1 := sf_kept hk1 HS0
          clear hd1' hk1 HD0 HS0
          refine hK.out _ _ HS1 ?_
          clear hK K' HSS
          have HSS := HS1
          (try simp only [nrm])
          refine wpT_on 4 (fun K' hK => ?_)
          go_simp
          refine (code_any n v1 (tAny_of HG2.out HD1.out.x)).mono ?_
          rintro e v2 ⟨rfl, hq⟩
          have HD2 := hid (HD1.out.ext hq)
          have HS2 := sf_ext hq HS1
          clear hq HD1 HS1
          refine hK.out _ _ HS2 ?_
          clear hK K' HSS
          have HSS := HS2
          (try simp only [nrm])
          refine wpT_on 8 (fun K' hK => ?_)
          go_simp
          refine (d_raskPlan HD2.out t2).mono ?_
          rw [HE.out]
          rintro e v3 ⟨rfl, hd3, hk3⟩
          have HD3 := hid hd3
          have HS3 := sf_kept hk3 HS2
          clear hd3 hk3 HD2 HS2
          refine hK.out _ _ HS3 ?_
          clear hK K' HSS
          have HSS := HS3
          (try simp only [nrm])
          refine wpT_done (by kernel_rfl) ?_
          refine wpAny_tk 9 ?_; (try simp only [nrm])
          refine wpAny_tk 10 ?_; (try simp only [nrm])
          refine wpAny_done (by kernel_rfl) ?_ _
          go_wp2
          go_meet
          case rel => exact ⟨n, s', rfl, rfl, HD3⟩
        by_cases ht4 : t0 ≤ 4
        · obtain ⟨n, s', e0⟩ : ∃ n s', s.askLevel c t1 t2 = (n, s') := ⟨_, _, rfl⟩
          have HE := hid e0
          clear e0
          go_upto_region 16 with fail
          refine wp_region_T 13 2 (SF g t1 t2) (by kernel_rfl) (by kernel_rfl) ?_
          have HD0 := hid (HD5.out.ext (Ext.drew (Ext.refl _)))
          have HS0 : SF g t1 t2 w5.drew := ⟨Ext.cell (Ext.drew (Ext.refl _)) q1, Ext.cell (Ext.drew (Ext.refl _)) q2⟩
          clear HD5 q0 q1 q2
          generalize w5.drew = z0 at *
          have HSS := HS0
          refine wpT_tk 0 HSS ?_ (hy := by intro u hu; obtain ⟨hs1, hs2⟩ := hu; go_simp; first | done | (with_reducible rfl)); (try simp only [nrm])
          refine wpT_tk 1 HSS ?_ (hy := by intro u hu; obtain ⟨hs1, hs2⟩ := hu; go_simp; first | done | (with_reducible rfl)); (try simp only [nrm])
          refine wpT_tk 2 HSS ?_ (hy := by intro u hu; obtain ⟨hs1, hs2⟩ := hu; go_simp; first | done | (with_reducible rfl)); (try simp only [nrm])
          refine wpT_tk 3 HSS ?_ (hy := by intro u hu; obtain ⟨hs1, hs2⟩ := hu; go_simp; first | done | (with_reducible rfl)); (try simp only [nrm])
          refine wpT_tk 4 HSS ?_ (hy := by intro u hu; obtain ⟨hs1, hs2⟩ := hu; go_simp; first | done | (with_reducible rfl)); (try simp only [nrm])
          refine wpT_tk 7 HSS ?_ (hy := by intro u hu; obtain ⟨hs1, hs2⟩ := hu; go_simp; first | done | (with_reducible rfl)); (try simp only [nrm])
          refine wpT_tk 8 HSS ?_ (hy := by intro u hu; obtain ⟨hs1, hs2⟩ := hu; go_simp; first | done | (with_reducible rfl)); (try simp only [nrm])
          refine wpT_tk 9 HSS ?_ (hy := by intro u hu; obtain ⟨hs1, hs2⟩ := hu; go_simp; first | done | (with_reducible rfl)); (try simp only [nrm])
          refine wpT_tk 10 HSS ?_ (hy := by intro u hu; obtain ⟨hs1, hs2⟩ := hu; go_simp; first | done | (with_reducible rfl)); (try simp only [nrm])
          refine wpT_tk 11 HSS ?_ (hy := by intro u hu; obtain ⟨hs1, hs2⟩ := hu; go_simp; first | done | (with_reducible rfl)); (try simp only [nrm])
          refine wpT_on 5 (fun K' hK => ?_)
          go_simp
          refine (d_askLevel HD0.out t1 t2).mono ?_
          rw [HE.out]
          rintro e v1 ⟨rfl, hd1', hk1⟩
          have HD1 := hid hd1'
          have HS1 := sf_kept hk1 HS0
          clear hd1' hk1 HD0 HS0
          refine hK.out _ _ HS1 ?_
          clear hK K' HSS
          have HSS := HS1
          (try simp only [nrm])
          refine wpT_on 6 (fun K' hK => ?_)
          go_simp
          refine (code_any n v1 (tAny_of HG2.out HD1.out.x)).mono ?_
          rintro e v2 ⟨rfl, hq⟩
          have HD2 := hid (HD1.out.ext hq)
          have HS2 := sf_ext hq HS1
          clear hq HD1 HS1
          refine hK.out _ _ HS2 ?_
          clear hK K' HSS
          have HSS := HS2
          (try simp only [nrm])
          refine wpT_on 12 (fun K' hK => ?_)
          go_simp
          refine (d_raskLevel HD2.out (VC.out.ext HD2.out.x) (Good.of HI.out) t1 t2).mono ?_
          rw [HE.out]
          rintro e v3 ⟨rfl, hd3, hk3⟩
          have HD3 := hid hd3
          have HS3 := sf_kept hk3 HS2
          clear hd3 hk3 HD2 HS2
          refine hK.out _ _ HS3 ?_
          clear hK K' HSS
          have HSS := HS3
          (try simp only [nrm])
          refine wpT_done (by kernel_rfl) ?_
          refine wpAny_tk 13 ?_; (try simp only [nrm])
          refine wpAny_tk 14 ?_; (try simp only [nrm])
          refine wpAny_done (by kernel_rfl) ?_ _
          go_wp2
          go_meet
          case rel => exact ⟨n, s', rfl, rfl, HD3⟩
        · have hx5 := HD5.out
          go_wp2_with (first
            | (go_at_call 15; (refine (d_rturn HD6 (Good.of HI.out)).mono ?_); rintro e w7 ⟨rfl, HD7, hk7⟩)
            | (go_at_call 14; (refine (d_turn hx5).mono ?_); rintro e w6 ⟨rfl, HD6, hk6⟩))
          go_meet
          case rel => exact ⟨0, s.turn, rfl, rfl, hid HD7⟩
      case rest =>
        obtain ⟨n, s', rfl, rfl, hD0⟩ := hcut
        go_upto_region 17 with fail
        refine wp_forget (fun u => Hid (Du W b y c (.slice pp c.plans.length cp) (.slice qp c.doms.length cq) s' s' nF u)) (hid (hD0.out.less fun _ h => h.elim)) ?_
        clear hD0 HD5 q0 q1 q2
        rintro wx HD6
        obtain ⟨gl, cl', ga, ca, hp, hr, -, -⟩ := HD6.out.ex
        obtain ⟨-, -, -, -, k4, -, k6, -, -, -⟩ := hr.cells
        have hll := hid hr.ok.ll
        have HI2 := hid (fun u (h : Ext wx u) => (hr.ext h).l.ints' hll.out)
        have HPL := hid (fun u (h : Ext wx u) => d_plan (HD6.out.ext h))
        have HLV := hid (fun u (h : Ext wx u) => d_levels (HD6.out.ext h) hd1)
        have z1 : ((n : Int) != (n : Int)) = false := by simp
        have z2 : (s'.p != s'.p) = false := by simp
        have z3 : (s'.l == s'.l) = true := by simp
        clear hp hr
        go_region_held3 (fun u => Ext wx u ∧ u.cell? ⟨y, 4, none⟩ = some (.int .i64 s'.p) ∧ u.cell? ⟨y, 6, none⟩ = some (.slice (some ⟨gl, 0, none⟩) c.doms.length cl'))
          (first | (go_split_ands; with_reducible exact ⟨Ext.trans (by assumption) hq, Ext.cell hq (by assumption), Ext.cell hq (by assumption)⟩) | (go_split_ands; with_reducible exact ⟨Ext.alloc (by assumption) _, Ext.cell (Ext.alloc (Ext.refl _) _) (by assumption), Ext.cell (Ext.alloc (Ext.refl _) _) (by assumption)⟩) | exact ⟨Ext.drew (Ext.refl _), Ext.cell (Ext.drew (Ext.refl _)) k4, Ext.cell (Ext.drew (Ext.refl _)) k6⟩ | (go_split_ands; refine ⟨ext_by, ?_, ?_⟩ <;> go_keep))
          (first
            | (go_at_call 16; (refine (HPL.out _ (by go_split_ands; assumption)).mono ?_); rintro e w' ⟨rfl, hq⟩)
            | (go_at_call 18; (refine (HLV.out _ (by go_split_ands; assumption)).mono ?_); rintro e w9 ⟨g2, cap2, rfl, hq, hg2, hr2⟩)
            | (go_at_call 17; (with_reducible refine (sameI_to (hr2.ints' hll.out) (HI2.out _ (by go_split_ands; assumption))).mono ?_); rintro e w' ⟨rfl, hq⟩))
        go_split_ands
        go_wp2
        go_roundw
        case rel => exact ⟨i + 1, by go_num, by omega, s', hid (HD6.out.ext (by assumption))⟩
        case measure => simp [intOf]; omega
    · obtain rfl : i = L.length := by omega
      go_wp2
      go_returns
      exact ⟨by simp, hxw⟩

set_option linter.unusedVariables false in
theorem et : Tryd.prog.globalNamed "errors.errorType" = some 0 := by kernel_rfl
theorem rt : (Tryd.prog.cutTypes.find? (·.1 == "internal/reflectlite.rtype")).map (·.2) = some 88 := by kernel_rfl
theorem oneRow : ((List.range 136).filter fun t => Tryd.prog.rowNamed t [101, 114, 114, 111, 114]) = [38] := by kernel_rfl
theorem tsize : Tryd.prog.types.size = 136 := by kernel_rfl
theorem handle_of_laid {W : World} (h : laidMetH Tryd.prog Rows.latchPlaysRow.laid W) : W.cell? ⟨0, 0, none⟩ = some As.tAny := by
  have h' : laidMet Tryd.prog [] W ∧ handlesMet Tryd.prog Rows.latchPlaysRow.laid W := h
  obtain ⟨name, u, ty, e1, e2, e3, e4, e5⟩ := h'.2 _ (List.mem_singleton.2 rfl)
  have en : name = [101, 114, 114, 111, 114] := (Option.some.inj e1).symm
  subst en
  obtain rfl := Option.some.inj (rt.symm.trans e2)
  have hm : ty ∈ (List.range 136).filter fun t => Tryd.prog.rowNamed t [101, 114, 114, 111, 114] := List.mem_filter.2 ⟨List.mem_range.2 (by rw [← tsize]; exact e3), e4⟩
  rw [oneRow] at hm
  obtain rfl := List.mem_singleton.1 hm
  have hh : typeHandle Tryd.prog 38 = .pointer (some ⟨1, 38, none⟩) := by kernel_rfl
  rw [hh] at e5
  simpa using World.var?_cell et e5 0
/-- A world that meets the condition: the settled one, the variable's cell laid. -/
noncomputable def laidWorld (os : Os) : World :=
  let w0 := World.holding Tryd.prog os ⟨#[], #[], []⟩
  { w0 with heap := w0.heap.modify 0 fun
      | .cells _ t frozen => .cells #[.iface 88 (.agg #[.pointer (some ⟨1, 38, none⟩)])] t frozen
      | o => o }
theorem laidWorld_met (os : Os) (args : Array Value) : laidMetH Tryd.prog Rows.latchPlaysRow.laid ((laidWorld os).forCall (fun _ _ => 0) ⟨#[], args, []⟩).memory :=
  laidMetH_of_parts (laidMet_nil _ _) (by kernel_rfl)
set_option maxRecDepth 100000 in
theorem lifted (os : Os) (started : os.Started) (H : Type) (enc : TypeId × Value → H) :
    ReturnsInHanded {} Tryd.checked os 3 .any (fun w args => (Rows.latchPlaysSpec.pre enc Tryd.prog Tryd.f3 [] false w args ∧ laidMetH Tryd.prog Rows.latchPlaysRow.laid w) ∧ sizedMet enc Tryd.prog Tryd.f3 (OpenSpec.ofChange Rows.latchPlaysSpec) false w args)
      (Rows.latchPlaysSpec.post enc Tryd.prog Tryd.f3 false true false false) := by
  refine returnsInHanded_of_change_and (C := Tryd.checked) (X := fun w _ => laidMetH Tryd.prog Rows.latchPlaysRow.laid w) (fun _ _ _ hh h => h.of_heap hh) Own.own started (by kernel_rfl) Tryd.func3
    (ChangeSpec.witness_at (enc := enc) (C := Tryd.checked) (os := os) (X := fun w _ => laidMetH Tryd.prog Rows.latchPlaysRow.laid w) false (laidWorld os) #[.agg #[.int .i64 0, .int .i64 0, .slice none 0 0, .slice none 0 0], .slice none 0 0] 8 rfl (by kernel_rfl) (by kernel_rfl) (by kernel_rfl) (by kernel_rfl) (by kernel_rfl) (laidWorld_met os _)) ?_
  intro W base args ds gs before hval0 hW _ hsz0 hL _
  have hval : ∀ (j : Nat) t v, Tryd.f3.params[j]? = some t → args[j]? = some v → Value.okWide Tryd.prog W .any base t v := hval0
  have hW' := hW
  obtain ⟨p, q, hA0, hV0, rfl, hfz, hnd⟩ := hW
  have hA : DataW.TrodAll enc Tryd.prog W 0 (fun _ => true) true Tryd.f3.params.toList args.toList ds p := hA0
  have hV : DataW.TrodVars enc Tryd.prog W (fun _ => true) [] gs q := hV0
  rw [Tryd.params3] at hA hval
  obtain ⟨rfl, rfl⟩ := trodVars_none hV
  have hsz : (DataW.weightsEach Tryd.prog [25, 26] ds).all (· ≤ reachBytes) = true := by rw [List.append_nil] at hsz0; exact hsz0
  have hg := handle_of_laid hL
  obtain ⟨v0, vs0, d0, ds0, p0, q0, hargs, rfl, rfl, h0, r0⟩ := trodAll_cons hA
  obtain ⟨v1, vs1, d1, ds1, p1, q1, rfl, rfl, rfl, h1, r1⟩ := trodAll_cons r0
  obtain ⟨rfl, rfl, rfl⟩ := trodAll_nil r1
  obtain rfl : args = #[v0, v1] := by cases args; simp_all
  have k0 := h0
  have lt0 : ∀ x ∈ p0, x.block < W.heap.size := by obtain ⟨m, hm⟩ := k0; exact DataW.trod_lt m _ _ _ hm
  have k1 := h1
  have lt1 : ∀ x ∈ p1, x.block < W.heap.size := by obtain ⟨m, hm⟩ := k1; exact DataW.trod_lt m _ _ _ hm
  obtain ⟨c, pv, dv, rfl, hc⟩ := Own.open_conf (hval 0 25 v0 rfl rfl) (by exact h0)
  obtain ⟨a1, len1, cap1, rfl⟩ := okWide_slice Tryd.underlying26 (hval 1 26 v1 rfl rfl)
  obtain ⟨L, hL⟩ := Own.open_stps h1
  clear hA0 hval0 hsz0 hV0
  refine (walk c L pv dv _ W hc hL hg).mono fun e W' ⟨he, hx⟩ => ?_
  subst he
  exact ⟨_, rfl, _, _, _, [], _, [], hW', trodAll_mk1 (shut_bool Tryd.underlying4 _), (trodAll_cons_mk (Below.trod Own.laidOut (by kernel_rfl) (of_decide_eq_true (by kernel_rfl)) k0 hx.below lt0) (trodAll_cons_mk (Below.trod Own.laidOut (by kernel_rfl) (of_decide_eq_true (by kernel_rfl)) k1 hx.below lt1) trodAll_mk0)), rfl, hx.below.frame _, fun h => by cases h⟩

theorem plain : Rows.LatchPlaysSaid :=
  OpenClaim.holds_of_wide 3 Tryd.f3 rfl rfl rfl rfl rfl rfl rfl ⟨rfl, rfl, rfl, rfl, rfl⟩ rfl rfl rfl rfl rfl (by kernel_rfl) Tryd.func3 (by kernel_rfl)
    (of_decide_eq_true (by kernel_rfl)) (by unfold Func.isWrapper; first | (rw [if_pos (by decide +kernel)]; kernel_rfl) | (rw [if_neg (by decide +kernel)]; exact ⟨rfl, rfl⟩))
    (fun os started H enc _ => lifted os started H enc)

theorem proved : Rows.LatchPlaysCardSaid :=
  Claim7.holds_tied_plain_at .later [] [.handle] true _ true
    plain (fun _ h => by cases h) (by kernel_rfl) (fun _ h => by cases h) latchPlays_row_tie rfl ⟨rfl, rfl⟩ (by kernel_rfl) rfl
    (fun f fn hf hfn => by
      obtain rfl : f = 3 := Option.some.inj ((show Tryd.prog.funcNamed "tontine/tontinelaw15.LatchPlays" = some 3 by kernel_rfl).symm.trans hf) |>.symm
      obtain rfl : fn = Tryd.f3 := (Option.some.inj (Tryd.func3.symm.trans hfn)).symm
      exact ⟨by kernel_rfl, fun j t ht => by
        rw [Tryd.params3] at ht
        match j, ht with
        | 0, ht => simp at ht; subst ht; exact (show Tryd.prog.wantsStandIn 25 = false by kernel_rfl)
        | 1, ht => simp at ht; subst ht; exact (show Tryd.prog.wantsStandIn 26 = false by kernel_rfl)
        | j + 2, ht => simp at ht⟩)
    (by kernel_rfl)

end latchPlays
end Go.Proofs.YtbnjfahjbemleaaDoor
