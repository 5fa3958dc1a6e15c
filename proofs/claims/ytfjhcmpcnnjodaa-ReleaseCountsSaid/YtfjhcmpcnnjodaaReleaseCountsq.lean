/- ReleaseCounts: each domain gives away just as many slots as its level says, or all it has, its last ones, each to its recipient; all others stay: the law answers true for every configuration, plan, row of levels. No conditions. -/
import Derived.Test.YtfjhcmpcnnjodaaReKq
import Derived.Test.YtfjhcmpcnnjodaaReTq
import Derived.Test.YtfjhcmpcnnjodaaRlq
import Derived.Test.YtfjhcmpcnnjodaaWideq
import Derived.Deep.RegionHeld3
import Derived.Deep.LoopGhost
import Derived.IntWalk
import Derived.ChangeMaps5
import Derived.ChangeSame
import Derived.ChangeVars
import Derived.JoinedOf
import Derived.RowKitTokens
namespace Go.Proofs.Ytfjhcmpcnnjodaa
set_option linter.unusedSimpArgs false
open Go.ChangeShapes Go.WideShapes Go.ChangeAt Go.RowKit Go.Joins Go.Deep

namespace releaseCounts
set_option maxRecDepth 100000 in
set_option maxHeartbeats 8000000 in
theorem walk (c : Cnf) (i : Int) (V : List Int) (pv dv vv : Value) (w : World) (hc : ConfV w c pv dv) (i0 : 0 ≤ i) (i9 : i ≤ 255) (hV : Nums .u8 w vv V) :
    Calls Try.prog 4 #[confV c pv dv, .int .u8 i, vv] w (Yields w (.bool true)) := by
  obtain ⟨pl, cl, rfl, hcl, hml⟩ := hV.shape
  unfold maxLen at hml
  have HC := hid hc
  have HV := hid hV
  have HVB : Hid (∀ x ∈ V, 0 ≤ x ∧ x ≤ 255) := hid fun x hx => wf_bounds8 (nums_wf hV x hx)
  clear hV
  cases hwa : wideB c
  case true =>
    have QA := hid hwa
    clear hwa hc
    go_enter Try.func4, Try.ntmps4
    go_wp2_with (first
      | (go_at_call 7; refine (known_any _).yields ?_; intro p0)
      | (go_at_call 8; (with_reducible refine (wide_to QA.out _ _ _ (HC.out.ext ext_by)).yields ?_); intro p1))
    go_returns
    exact ⟨rfl, ext_by⟩
  have QA := hid hwa
  have RA : Hid (∀ d ∈ c.doms, ∀ r ∈ d.routes, r.length ≤ 300) := hid (wide_routes hwa).2
  clear hwa
  cases hi : isConf c
  case succ m =>
    have HI := hid hi
    have hm1 : (((m + 1 : Nat) : Int) == 0) = false := by simp; omega
    have hm2 : (((m + 1 : Nat) : Int) != 0) = true := by simp; omega
    clear hi hc
    go_enter Try.func4, Try.ntmps4
    go_wp2_with (first
      | (go_at_call 7; refine (known_any _).yields ?_; intro p0)
      | (go_at_call 8; (with_reducible refine (wide_to QA.out _ _ _ (HC.out.ext ext_by)).yields ?_); intro p1)
      | (go_at_call 14; (with_reducible refine (isConf_to HI.out _ _ _ (HC.out.ext ext_by) RA.out).yields ?_); intro p2))
    go_returns
    exact ⟨rfl, ext_by⟩
  have HI := hid hi
  have G := Good.of hi
  obtain ⟨k, hk⟩ : ∃ k : Nat, i % (c.plans.length : Int) = k := ⟨(i % (c.plans.length : Int)).toNat, by have := Int.emod_nonneg i (b := (c.plans.length : Int)) (by have := G.p1; omega); omega⟩
  have hkl : k < c.plans.length := by have := Int.emod_lt_of_pos i (b := (c.plans.length : Int)) (by have := G.p1; omega); omega
  obtain ⟨hof, hoo⟩ := owners_ok hi hkl
  obtain ⟨pp, cp, rfl, hp1, hp2⟩ := hc.plans.shape
  obtain ⟨pd, cd, rfl, hd1, hd2⟩ := hc.doms.shape
  unfold maxLen at hp2 hd2
  have p1 := G.p1
  have p3 := G.p3
  have d6 := G.d6
  have d1 := G.d1
  have f1 := G.f1
  have f64 := G.f64
  have HOF := hid hof
  have HOO := hid hoo
  have HOW := hid (fun u (h : ConfV u c (.slice pp c.plans.length cp) (.slice pd c.doms.length cd)) => rowners_any h RA.out (k : Int))
  have hol : 0 < (ownersL c k).length := by omega
  have hol9 : (ownersL c k).length ≤ 64 := by omega
  clear hc hi G hof hoo
  generalize ownersL c k = own at *
  go_enter Try.func4, Try.ntmps4
  go_upto_region 5 with (first
      | (go_at_call 7; refine (known_any _).yields ?_; intro p0)
      | (go_at_call 8; (with_reducible refine (wide_to QA.out _ _ _ (HC.out.ext ext_by)).yields ?_); intro p1)
      | (go_at_call 14; (with_reducible refine (isConf_to HI.out _ _ _ (HC.out.ext ext_by) RA.out).yields ?_); intro p2))
  refine wp_forget (fun u => Ext w u ∧ u.cell? ⟨w.heap.size, 0, none⟩ = some (.int .i64 c.frame) ∧ u.cell? ⟨w.heap.size, 1, none⟩ = some (.int .i64 c.epoch) ∧ u.cell? ⟨w.heap.size, 2, none⟩ = some (.slice pp c.plans.length cp) ∧ u.cell? ⟨w.heap.size, 3, none⟩ = some (.slice pd c.doms.length cd)) ⟨ext_by, by simp [go_sem], by simp [go_sem], by simp [go_sem], by simp [go_sem]⟩ ?_
  rintro W ⟨X, k0, k1, k2, k3⟩
  have VC := hid (HC.out.ext X)
  have hpl0 : ¬ (c.plans.length : Int) = 0 := by omega
  have hk2 : i.tmod (c.plans.length : Int) = k := by rw [Int.tmod_eq_emod_of_nonneg i0]; exact hk
  have hk3 : (0 : Int) ≤ k := by omega
  have hk4 : (k : Int) ≤ 9223372036854775807 := by omega
  have hwi : IntKind.i64.wrap i = i := IntWalk.i64_in _ (by omega)
  have hpn : ¬ c.plans.length = 0 := by omega
  have hpe : ¬ c.plans = [] := fun e => by rw [e] at hpn; exact hpn rfl
  go_region_held3 (fun wx => Ext W wx ∧ wx.cell? ⟨w.heap.size, 0, none⟩ = some (.int .i64 c.frame) ∧ wx.cell? ⟨w.heap.size, 1, none⟩ = some (.int .i64 c.epoch) ∧ wx.cell? ⟨w.heap.size, 2, none⟩ = some (.slice pp c.plans.length cp) ∧ wx.cell? ⟨w.heap.size, 3, none⟩ = some (.slice pd c.doms.length cd))
    (first | (go_split_ands; with_reducible exact ⟨Ext.trans (by assumption) hq, Ext.cell hq (by assumption), Ext.cell hq (by assumption), Ext.cell hq (by assumption), Ext.cell hq (by assumption)⟩) | (go_split_ands; with_reducible exact ⟨Ext.alloc (by assumption) _, Ext.cell (Ext.alloc (Ext.refl _) _) (by assumption), Ext.cell (Ext.alloc (Ext.refl _) _) (by assumption), Ext.cell (Ext.alloc (Ext.refl _) _) (by assumption), Ext.cell (Ext.alloc (Ext.refl _) _) (by assumption)⟩) | exact ⟨Ext.drew (Ext.refl _), Ext.cell (Ext.drew (Ext.refl _)) k0, Ext.cell (Ext.drew (Ext.refl _)) k1, Ext.cell (Ext.drew (Ext.refl _)) k2, Ext.cell (Ext.drew (Ext.refl _)) k3⟩ | (go_split_ands; refine ⟨ext_by, ?_, ?_, ?_, ?_⟩ <;> go_keep))
    (first | (go_at_call 15; (with_reducible refine (HOW.out _ (VC.out.ext (by go_split_ands; assumption))).mono ?_); rintro e w' ⟨u1, rfl, hq, hI1⟩))
  go_split_ands
  go_upto_region 6 with fail
  refine wp_forget (fun u => Ext w u ∧ u.cell? ⟨w.heap.size, 0, none⟩ = some (.int .i64 c.frame) ∧ u.cell? ⟨w.heap.size, 1, none⟩ = some (.int .i64 c.epoch) ∧ u.cell? ⟨w.heap.size, 2, none⟩ = some (.slice pp c.plans.length cp) ∧ u.cell? ⟨w.heap.size, 3, none⟩ = some (.slice pd c.doms.length cd) ∧ Ints u u1 own) ⟨Ext.trans X (by assumption), by assumption, by assumption, by assumption, by assumption, by assumption⟩ ?_
  clear hI1 VC HOW hk hk2 hk3 hk4 hwi hpl0 hpn hpe X k0 k1 k2 k3
  rintro W2 ⟨X2, k0, k1, k2, k3, hI⟩
  have HO := hid hI
  obtain ⟨po, co, rfl, ho1, ho2⟩ := hI.shape
  unfold maxLen at ho2
  have hb2 : w.heap.size < W2.heap.size := World.block_lt_of_cell? _ _ k0
  clear hI
  -- the levels
  have hmk := run_makeI c.doms.length d6
  obtain ⟨g, hg⟩ : ∃ g, g = W2.heap.size := ⟨_, rfl⟩
  go_upto_region 7 with fail
  refine wp_forget (fun u => Ext W2 u ∧ Hid (Iz u g (lvTo V c.doms.length 0))) ⟨ext_by, hid (by
    have := Blk.new W2 3 (List.replicate c.doms.length (Value.int .i64 0))
    rw [hg]; unfold Iz; rw [lvTo_zero]
    simpa using this)⟩ ?_
  rintro W3 ⟨X3, hL3⟩
  rw [← hg]
  have hgb : W2.heap.size ≤ g := by omega
  have hwg : w.heap.size < g := by omega
  clear hg hmk
  go_upto_block 0 with fail
  go_cut [9] from 36 to 56 (fun _ wx => Ext W2 wx ∧ Hid (Iz wx g (lvTo V c.doms.length c.doms.length)))
  case first =>
    go_wp2_with fail
    go_loopw [9] (fun v9 wr => Ext W2 wr ∧ ∃ j : Nat, v9 = .int .i64 j ∧ j ≤ c.doms.length ∧ Hid (Iz wr g (lvTo V c.doms.length j))) (fun v9 _ => (c.doms.length - intOf v9).toNat)
    case atStart => exact ⟨X3, 0, rfl, by omega, hL3⟩
    case round =>
      obtain ⟨hx, j, rfl, hj, hL⟩ := hrel
      by_cases hlt : j < c.doms.length ∧ j < V.length
      · obtain ⟨h1, h2⟩ := hlt
        obtain ⟨vb, vo, rfl, a0, -⟩ := (HV.out.ext (X2.trans hx)).at j h2
        simp only [Nat.mul_one] at a0
        have hxb := HVB.out _ (List.getElem_mem h2)
        have hst : Hid ((lvTo V c.doms.length j).set j (V[j] % 5) = lvTo V c.doms.length (j + 1)) := hid (by have := lvTo_set (n := c.doms.length) h2; rwa [at0_get h2] at this)
        have c0 := Iz.at hL.out (i := j) (by rw [lvTo_length]; exact h1)
        obtain ⟨old, c0⟩ : ∃ old, wr.cell? ⟨g, j, none⟩ = some old := ⟨_, c0⟩
        have c1 := hL.out.frozen j
        have c2 := hL.out.lt
        have hS2 : Hid (∀ u, Iz u g (lvTo V c.doms.length j) → Iz (u.setCell ⟨g, j, none⟩ (.int .i64 (V[j] % 5))) g (lvTo V c.doms.length (j + 1))) := hid fun u hu => by
          have := hu.set j (iV (V[j] % 5))
          rw [← hst.out, Iz, List.map_set]
          exact this
        have i1 : (j : Int) < c.doms.length := by omega
        have i2 : (j : Int) < V.length := by omega
        have e1 : 0 ≤ V[j] % 5 := Int.emod_nonneg _ (by omega)
        have e2 : V[j] % 5 < 5 := Int.emod_lt_of_pos _ (by omega)
        clear hst
        generalize V[j] = x at *
        go_wp2
        all_goals
          go_roundw
          case rel => exact ⟨ext_by, j + 1, by go_num, by omega, hid (hS2.out _ hL.out)⟩
          case measure => simp [intOf]; omega
      · have hend : Hid (lvTo V c.doms.length j = lvTo V c.doms.length c.doms.length) := hid (by
          by_cases h1 : j < c.doms.length
          · exact lvTo_end (by omega)
          · rw [show j = c.doms.length by omega])
        have hLV : Hid (Iz wr g (lvTo V c.doms.length c.doms.length)) := hid (by rw [← hend.out]; exact hL.out)
        clear hL hend
        by_cases h1 : j < c.doms.length
        · have h2 : ¬ (j : Int) < V.length := by omega
          have h3 : (j : Int) < c.doms.length := by omega
          go_wp2
          all_goals
            go_meet
            case rel => exact ⟨hx, hLV⟩
        · have h3 : ¬ (j : Int) < c.doms.length := by omega
          go_wp2
          all_goals
            go_meet
            case rel => exact ⟨hx, hLV⟩
  case rest =>
    obtain ⟨hx, hLV⟩ := hcut
    have m0 := hx.cell k0
    have m1 := hx.cell k1
    have m2 := hx.cell k2
    have m3 := hx.cell k3
    have X4 := X2.trans hx
    have HO4 := hid (HO.out.ext hx)
    clear hL3 X3 k0 k1 k2 k3 HO
    have hLl := lvTo_length V c.doms.length c.doms.length
    generalize lvTo V c.doms.length c.doms.length = L at *
    have htl := turnL_of HI.out HOF.out hLl HOO.out
    have HLI : Hid (Ints wc (.slice (some ⟨g, 0, none⟩) c.doms.length c.doms.length) L) := hid (by
      have := hLV.out.ints (by rw [hLl]; unfold maxLen; omega)
      rwa [hLl] at this)
    have HLL := hid hLl
    clear hLV hLl
    have hbc : w.heap.size < wc.heap.size := World.block_lt_of_cell? _ _ m0
    go_upto_region 12 with (go_at_call 9; (with_reducible refine (turn_any (HC.out.ext X4) RA.out HO4.out HLI.out).mono ?_); rw [htl]; rintro e w5 ⟨va, vf, rfl, hx5, hA, hB⟩)
    have HA := hid hA
    have HB := hid hB
    obtain ⟨pa, ca, rfl, ha1, ha2⟩ := hA.shape
    obtain ⟨pf, cf, rfl, hf1, hf2⟩ := hB.shape
    unfold maxLen at ha2 hf2
    simp only [outL_length] at ha1
    simp only [freedL_length] at hf1
    simp only [outL_length] at HA
    simp only [freedL_length] at HB
    simp only [outL_length, freedL_length]
    have X5 := X4.trans hx5
    have HO5 := hid (HO4.out.ext hx5)
    have HL5 := hid (HLI.out.ext hx5)
    have c0 := hx5.cell m0
    have c1 := hx5.cell m1
    have c2 := hx5.cell m2
    have c3 := hx5.cell m3
    have hoe : ((own.length : Int) == (own.length : Int)) = true := by simp
    have hon : ((own.length : Int) != (own.length : Int)) = false := by simp
    clear hA hB X4 hx5 m0 m1 m2 m3 HO4 HLI htl hbc hx X2
    go_wp2
    go_loopw [12] (fun v12 wr => Ext w5 wr ∧ ∃ d : Nat, v12 = .int .i64 d ∧ d ≤ c.doms.length) (fun v12 _ => (c.doms.length - intOf v12).toNat)
    case atStart => exact ⟨Ext.refl _, 0, rfl, by omega⟩
    case round =>
      obtain ⟨hx, d, rfl, hd⟩ := hrel
      have m0 := hx.cell c0
      have m1 := hx.cell c1
      have m2 := hx.cell c2
      have m3 := hx.cell c3
      have hbr : w.heap.size < wr.heap.size := World.block_lt_of_cell? _ _ m0
      by_cases hlt : d < c.doms.length
      · have hdL : d < L.length := by have := HLL.out; omega
        obtain ⟨lb, lo, e5, a0⟩ := (HL5.out.ext hx).at d hdL
        injection e5 with e5
        injection e5 with e6 e7
        subst e6 e7
        simp only [Nat.mul_one, Nat.zero_add] at a0
        have hlv : Hid (at0 L ((d : Nat) : Int).toNat = L[d]) := hid (by rw [Int.toNat_natCast, at0_get hdL])
        have VC := hid (HC.out.ext (X5.trans hx))
        have HO6 := hid (HO5.out.ext hx)
        obtain ⟨am, ham⟩ : ∃ am, amtN c d L[d] = am := ⟨_, rfl⟩
        obtain ⟨cn, hcn⟩ : ∃ cn, cntTo own d own.length = cn := ⟨_, rfl⟩
        have hab := amtN_bounds c d L[d]
        have hcb := cntTo_le own d own.length
        rw [ham] at hab
        rw [hcn] at hcb
        obtain ⟨ha0, ha9⟩ := hab
        obtain ⟨hc0, hc9⟩ := hcb
        have HAM : Hid (∀ u, ConfV u c (.slice pp c.plans.length cp) (.slice pd c.doms.length cd) → Calls Try.prog 11 #[confV c (.slice pp c.plans.length cp) (.slice pd c.doms.length cd), .int .i64 d, .int .i64 L[d]] u (Yields u (.int .i64 am))) := hid fun u hu => amount_to hu RA.out ham
        have HCN : Hid (∀ u, Ints u (.slice po own.length co) own → Calls Try.prog 16 #[.slice po own.length co, .int .i64 d] u (Yields u (.int .i64 cn))) := hid fun u hu => count_to hu hcn
        obtain ⟨s, hs⟩ : ∃ s, s = min am cn := ⟨_, rfl⟩
        have HGV : Hid (∀ k, at0 own k = (d : Int) → giv c own L k = decide (0 < leftAt own d s (k + 1))) := hid fun k h => by
          have := left_giv (c := c) (lv := L) h
          rwa [hlv.out, ham, hcn, ← hs] at this
        have hsi : (if cn < am then cn else am) = s := by rw [hs, min_if]
        have s0 : 0 ≤ s := by omega
        have s9 : s ≤ 64 := by omega
        have n0 := more_cell m0
        have n1 := more_cell m1
        have n2 := more_cell m2
        have n3 := more_cell m3
        have n4 := more_cell a0
        have hgr := World.block_lt_of_cell? _ _ a0
        clear ham hcn hlv hs
        generalize L[d] = x at *
        have i1 : (d : Int) < c.doms.length := by omega
        go_wp2
        ((first | refine wp_region_more (by kernel_rfl) (by kernel_rfl) ?_ | refine wp_region_ext (by kernel_rfl) (by kernel_rfl) ?_); (try dsimp only [append_cons', append_nil']); (repeat (go_big_quiet_step ((first | (go_at_call 11; (with_reducible refine Calls.more_of (HAM.out _ (VC.out.ext (ext_more _ _))))) | (go_at_call 16; (with_reducible refine Calls.more_of (HCN.out _ (HO6.out.ext (ext_more _ _))))))))); refine wpQuiet_nil ?_; rintro _ ⟨pq, rfl⟩)
        have xq := ext_more wr pq
        have hx3 := hx.trans xq
        have HO7 := hid (HO6.out.ext xq)
        have HA7 := hid (HA.out.ext hx3)
        have HB7 := hid (HB.out.ext hx3)
        have t0 := xq.cell m0
        have t3 := xq.cell m3
        have VC7 := hid (VC.out.ext xq)
        clear m0 m1 m2 m3 n0 n1 n2 n3 n4 a0 hgr hbr HAM HCN VC HO6 xq hx
        generalize more wr pq = w7 at *
        go_wp2
        go_loopw [13, 14] (fun v13 v14 wy => Ext w7 wy ∧ ∃ (m : Nat) (j left : Int), v13 = .int .i64 left ∧ v14 = .int .i64 j ∧ m ≤ own.length ∧ j ≤ (m : Int) - 1 ∧ (m : Int) - 1 ≤ j ∧ 0 ≤ left ∧ left ≤ 64 ∧ Hid (left = leftAt own d s m)) (fun _ v14 _ => (intOf v14 + 1).toNat)
        case atStart => exact ⟨Ext.refl _, own.length, _, s, rfl, rfl, Nat.le_refl _, by omega, by omega, s0, s9, hid (left_start own d s s0).symm⟩
        case round =>
          obtain ⟨hz, m, j, left, rfl, rfl, hm, hj1, hj2, hl1, hl2, hleft⟩ := hrel
          cases m with
          | zero =>
            obtain rfl : j = -1 := by omega
            go_wp2
            all_goals
              go_roundw
              case rel => exact ⟨hx3.trans hz, d + 1, by go_num, by omega⟩
              case measure => simp [intOf]; omega
          | succ k =>
            obtain rfl : j = (k : Int) := by omega
            have hko : k < own.length := by omega
            obtain ⟨ob, oo, e5, a0⟩ := (HO7.out.ext hz).at k hko
            have e5' := hid e5
            simp only [Nat.mul_one] at a0
            have hat : at0 own k = own[k] := at0_get hko
            have i3 : (k : Int) < own.length := by omega
            have i4 : (0 : Int) ≤ (k : Int) := by omega
            subst e5
            by_cases hd1 : own[k] = (d : Int)
            · have hgv := HGV.out k (hat.trans hd1)
              rw [← hleft.out] at hgv
              have hln := left_own (hat.trans hd1) s
              rw [← hleft.out] at hln
              have hka : k < (outL c own L).length := by rw [outL_length]; exact hko
              have hkf : k < (freedL c own L).length := by rw [freedL_length]; exact hko
              obtain ⟨ab, ao, rfl, q0⟩ := (HA7.out.ext hz).at k hka
              obtain ⟨fb, fo, rfl, q1⟩ := (HB7.out.ext hz).at k hkf
              rw [outL_get, outAt, hat, hd1] at q0
              rw [freedL_get, freedAt, hat, hd1] at q1
              simp only [Nat.mul_one] at q0 q1
              rw [hd1] at a0
              have hb0 : ((d : Int) != (d : Int)) = false := by simp
              have hb1 : ((d : Int) == (d : Int)) = true := by simp
              clear hd1 hat hka hkf e5'
              by_cases hp : 0 < left
              · rw [decide_eq_true hp] at hgv
                rw [if_pos hgv] at q0 q1
                obtain ⟨db, doff, rfl, vr, ve, DC, -, -, -⟩ := (VC7.out.ext hz).doms.at d hlt
                have t4 := DC.to
                rw [toOf_get hlt] at q0
                have hln2 : Hid (left - 1 = leftAt own d s k) := hid (by rw [hln]; omega)
                have z3 := hz.cell t3
                clear hln hgv DC
                generalize c.doms[d].to = tz at *
                have hb2 : (tz != tz) = false := by simp
                have hb3 : (tz == tz) = true := by simp
                have e0 := more_cell q0
                have e1 := more_cell q1
                have e2 := more_cell t4
                have e3 := more_cell z3
                go_wp2
                ((first | refine wp_region_more (by kernel_rfl) (by kernel_rfl) ?_ | refine wp_region_ext (by kernel_rfl) (by kernel_rfl) ?_); (try dsimp only [append_cons', append_nil']); (repeat (go_big_quiet_step ((fail)))); refine wpQuiet_nil ?_; rintro _ ⟨pq, rfl⟩)
                go_wp2
                all_goals
                  go_roundw
                  case rel => exact ⟨hz.trans (ext_more _ _), k, _, left - 1, rfl, rfl, by omega, by omega, by omega, by omega, by omega, hln2⟩
                  case measure => simp [intOf]
              · rw [decide_eq_false hp] at hgv
                rw [if_neg (by rw [hgv]; decide)] at q0 q1
                have hln2 : Hid (left = leftAt own d s k) := hid (by rw [hln]; omega)
                clear hln hgv
                go_wp2
                all_goals
                  go_roundw
                  case rel => exact ⟨hz, k, _, left, rfl, rfl, by omega, by omega, by omega, by omega, by omega, hln2⟩
                  case measure => simp [intOf]
            · have hb0 : (own[k] != (d : Int)) = true := by simpa using hd1
              have hb1 : (own[k] == (d : Int)) = false := by simpa using hd1
              have hln2 : Hid (left = leftAt own d s k) := hid (by rw [hleft.out]; exact left_other (by rw [hat]; exact hd1) s)
              clear hat
              generalize own[k] = x9 at *
              go_wp2
              all_goals
                go_roundw
                case rel => exact ⟨hz, k, _, left, rfl, rfl, by omega, by omega, by omega, by omega, by omega, hln2⟩
                case measure => simp [intOf]
      · obtain rfl : d = c.doms.length := by omega
        go_wp2
        go_returns
        exact ⟨by simp, X5.trans hx⟩

set_option linter.unusedVariables false in
set_option maxRecDepth 100000 in
theorem lifted (os : Os) (started : os.Started) (H : Type) (enc : TypeId × Value → H) :
    ReturnsInHanded {} Try.checked os 4 .any (Rows.releaseCountsSpec.pre6 enc Try.prog Try.f4 Rows.releaseCountsRow.domain false) (Rows.releaseCountsSpec.post enc Try.prog Try.f4 false true false false) := by
  refine returnsInHanded_of_change (C := Try.checked) Own.own started (by kernel_rfl) Try.func4
    (ChangeSpec.witness6 (enc := enc) (C := Try.checked) false ⟨#[], #[.agg #[.int .i64 0, .int .i64 0, .slice none 0 0, .slice none 0 0], .int .u8 0, .slice none 0 0], []⟩ 8 (by kernel_rfl) (by kernel_rfl) (by kernel_rfl) (by kernel_rfl)) ?_
  intro W base args ds gs before hval0 hW hcnd _
  have hval : ∀ (j : Nat) t v, Try.f4.params[j]? = some t → args[j]? = some v → Value.okWide Try.prog W .any base t v := hval0
  have hW' := hW
  obtain ⟨p, q, hA0, hV, rfl, hfz, hnd⟩ := hW
  have hA : DataW.TrodAll enc Try.prog W 0 (fun _ => true) true Try.f4.params.toList args.toList ds p := hA0
  rw [Try.params4] at hA hval
  obtain ⟨v0, vs0, d0, ds0, p0, q0, hargs, rfl, rfl, h0, r0⟩ := trodAll_cons hA
  obtain ⟨v1, vs1, d1, ds1, p1, q1, rfl, rfl, rfl, h1, r1⟩ := trodAll_cons r0
  obtain ⟨v2, vs2, d2, ds2, p2, q2, rfl, rfl, rfl, h2, r2⟩ := trodAll_cons r1
  obtain ⟨rfl, rfl, rfl⟩ := trodAll_nil r2
  obtain rfl : args = #[v0, v1, v2] := by cases args; simp_all
  obtain ⟨rfl, rfl⟩ := trodVars_none hV
  have k0 := h0
  have lt0 : ∀ x ∈ p0, x.block < W.heap.size := by obtain ⟨m, hm⟩ := k0; exact DataW.trod_lt m _ _ _ hm
  have k1 := h1
  have lt1 : ∀ x ∈ p1, x.block < W.heap.size := by obtain ⟨m, hm⟩ := k1; exact DataW.trod_lt m _ _ _ hm
  have k2 := h2
  have lt2 : ∀ x ∈ p2, x.block < W.heap.size := by obtain ⟨m, hm⟩ := k2; exact DataW.trod_lt m _ _ _ hm
  obtain ⟨c, pv, dv, rfl, hc⟩ := Own.open_conf (hval 0 25 v0 rfl rfl) (by exact h0)
  obtain ⟨i, rfl, rfl, rfl, wi⟩ := open_int Try.underlying5 (hval 1 5 v1 rfl rfl) h1
  obtain ⟨a2, len2, cap2, rfl⟩ := okWide_slice Try.underlying34 (hval 2 34 v2 rfl rfl)
  obtain ⟨V, hV⟩ := Own.open_nums Try.underlying34 Try.underlying5 (by kernel_rfl) h2
  clear hA0 hval0
  refine (walk c i V pv dv _ W hc (wf_bounds8 wi).1 (wf_bounds8 wi).2 hV).mono fun e W' ⟨he, hx⟩ => ?_
  subst he
  exact ⟨_, rfl, _, _, _, [], _, [], hW', trodAll_mk1 (shut_bool Try.underlying4 _), (trodAll_cons_mk (Below.trod Own.laidOut (by kernel_rfl) (of_decide_eq_true (by kernel_rfl)) k0 hx.below lt0) (trodAll_cons_mk (Below.trod Own.laidOut (by kernel_rfl) (of_decide_eq_true (by kernel_rfl)) k1 hx.below lt1) (trodAll_cons_mk (Below.trod Own.laidOut (by kernel_rfl) (of_decide_eq_true (by kernel_rfl)) k2 hx.below lt2) trodAll_mk0))), rfl, hx.below.frame _, fun h => by cases h⟩

theorem proved : Rows.ReleaseCountsSaid :=
  OpenClaim.holds_of_wide 4 Try.f4 rfl rfl rfl rfl rfl rfl rfl ⟨rfl, rfl, rfl, rfl, rfl⟩ rfl rfl rfl rfl rfl (by kernel_rfl) Try.func4 (by kernel_rfl)
    (of_decide_eq_true (by kernel_rfl)) (by unfold Func.isWrapper; first | (rw [if_pos (by decide +kernel)]; kernel_rfl) | (rw [if_neg (by decide +kernel)]; exact ⟨rfl, rfl⟩))
    (fun os started H enc _ => lifted os started H enc)

end releaseCounts
end Go.Proofs.Ytfjhcmpcnnjodaa
