/- ReleaseApart: what one domain gives away changes no other's slots, but its recipient's: the law answers true for every configuration, row of levels, domain, other level. No conditions. -/
import Derived.Test.YtfjhcmpcnnjodaaReKq
import Derived.Test.YtfjhcmpcnnjodaaReTq
import Derived.Test.YtfjhcmpcnnjodaaRlq
import Derived.Test.YtfjhcmpcnnjodaaWideq
import Derived.Test.YtfjhcmpcnnjodaaCopy
import Derived.Deep.RegionHeld3
import Derived.Deep.LoopGhost
import Derived.IntWalk
import Derived.ChangeMaps5
import Derived.ChangeSame
import Derived.ChangeVars
import Derived.JoinedOf
import Derived.RowKitTokens
namespace Go.Proofs.Ytfjhcmpcnnjodaa
set_option linter.unusedSimpArgs false
open Go.ChangeShapes Go.WideShapes Go.ChangeAt Go.RowKit Go.Joins Go.Deep

namespace releaseApart
set_option maxRecDepth 100000 in
set_option maxHeartbeats 8000000 in
theorem walk (c : Cnf) (dd tt : Int) (V : List Int) (pv dv vv : Value) (w : World) (hc : ConfV w c pv dv) (i0 : 0 ≤ dd) (i9 : dd ≤ 255) (t0 : 0 ≤ tt) (t9 : tt ≤ 255) (hV : Nums .u8 w vv V) :
    Calls Try.prog 5 #[confV c pv dv, vv, .int .u8 dd, .int .u8 tt] w (Yields w (.bool true)) := by
  obtain ⟨pl, cl, rfl, hcl, hml⟩ := hV.shape
  unfold maxLen at hml
  have HC := hid hc
  have HV := hid hV
  have HVB : Hid (∀ x ∈ V, 0 ≤ x ∧ x ≤ 255) := hid fun x hx => wf_bounds8 (nums_wf hV x hx)
  clear hV
  cases hwa : wideB c
  case true =>
    have QA := hid hwa
    clear hwa hc
    go_enter Try.func5, Try.ntmps5
    go_wp2_with (first
      | (go_at_call 7; refine (known_any _).yields ?_; intro p0)
      | (go_at_call 8; (with_reducible refine (wide_to QA.out _ _ _ (HC.out.ext ext_by)).yields ?_); intro p1))
    go_returns
    exact ⟨rfl, ext_by⟩
  have QA := hid hwa
  have RA : Hid (∀ d ∈ c.doms, ∀ r ∈ d.routes, r.length ≤ 300) := hid (wide_routes hwa).2
  clear hwa
  cases hi : isConf c
  case succ m =>
    have HI := hid hi
    have hm1 : (((m + 1 : Nat) : Int) == 0) = false := by simp; omega
    have hm2 : (((m + 1 : Nat) : Int) != 0) = true := by simp; omega
    clear hi hc
    go_enter Try.func5, Try.ntmps5
    go_wp2_with (first
      | (go_at_call 7; refine (known_any _).yields ?_; intro p0)
      | (go_at_call 8; (with_reducible refine (wide_to QA.out _ _ _ (HC.out.ext ext_by)).yields ?_); intro p1)
      | (go_at_call 14; (with_reducible refine (isConf_to HI.out _ _ _ (HC.out.ext ext_by) RA.out).yields ?_); intro p2))
    go_returns
    exact ⟨rfl, ext_by⟩
  have HI := hid hi
  have G := Good.of hi
  have hkl : 0 < c.plans.length := by have := G.p1; omega
  obtain ⟨hof, hoo⟩ := owners_ok hi hkl
  rw [Int.natCast_zero] at hof hoo
  obtain ⟨pp, cp, rfl, hp1, hp2⟩ := hc.plans.shape
  obtain ⟨pd, cd, rfl, hd1, hd2⟩ := hc.doms.shape
  unfold maxLen at hp2 hd2
  have p1 := G.p1
  have p3 := G.p3
  have d6 := G.d6
  have d1 := G.d1
  have f1 := G.f1
  have f64 := G.f64
  have HOF := hid hof
  have HOO := hid hoo
  have HOW := hid (fun u (h : ConfV u c (.slice pp c.plans.length cp) (.slice pd c.doms.length cd)) => rowners_any h RA.out 0)
  have hol : 0 < (ownersL c 0).length := by omega
  have hol9 : (ownersL c 0).length ≤ 64 := by omega
  clear hc hi G hof hoo
  generalize ownersL c 0 = own at *
  go_enter Try.func5, Try.ntmps5
  go_upto_region 5 with (first
      | (go_at_call 7; refine (known_any _).yields ?_; intro p0)
      | (go_at_call 8; (with_reducible refine (wide_to QA.out _ _ _ (HC.out.ext ext_by)).yields ?_); intro p1)
      | (go_at_call 14; (with_reducible refine (isConf_to HI.out _ _ _ (HC.out.ext ext_by) RA.out).yields ?_); intro p2))
  refine wp_forget (fun u => Ext w u ∧ u.cell? ⟨w.heap.size, 0, none⟩ = some (.int .i64 c.frame) ∧ u.cell? ⟨w.heap.size, 1, none⟩ = some (.int .i64 c.epoch) ∧ u.cell? ⟨w.heap.size, 2, none⟩ = some (.slice pp c.plans.length cp) ∧ u.cell? ⟨w.heap.size, 3, none⟩ = some (.slice pd c.doms.length cd)) ⟨ext_by, by simp [go_sem], by simp [go_sem], by simp [go_sem], by simp [go_sem]⟩ ?_
  rintro W ⟨X, k0, k1, k2, k3⟩
  have VC := hid (HC.out.ext X)
  go_upto_region 6 with (go_at_call 15; (with_reducible refine (HOW.out _ VC.out).mono ?_); rintro e w' ⟨u1, rfl, hq, hI1⟩)
  refine wp_forget (fun u => Ext w u ∧ u.cell? ⟨w.heap.size, 0, none⟩ = some (.int .i64 c.frame) ∧ u.cell? ⟨w.heap.size, 1, none⟩ = some (.int .i64 c.epoch) ∧ u.cell? ⟨w.heap.size, 2, none⟩ = some (.slice pp c.plans.length cp) ∧ u.cell? ⟨w.heap.size, 3, none⟩ = some (.slice pd c.doms.length cd) ∧ Ints u u1 own) ⟨Ext.trans X hq, hq.cell k0, hq.cell k1, hq.cell k2, hq.cell k3, hI1⟩ ?_
  clear hI1 VC HOW hq X k0 k1 k2 k3
  rintro W2 ⟨X2, k0, k1, k2, k3, hI⟩
  have HO := hid hI
  obtain ⟨po, co, rfl, ho1, ho2⟩ := hI.shape
  unfold maxLen at ho2
  have hb2 : w.heap.size < W2.heap.size := World.block_lt_of_cell? _ _ k0
  clear hI
  -- the levels
  have hmk := run_makeI c.doms.length d6
  obtain ⟨g, hg⟩ : ∃ g, g = W2.heap.size := ⟨_, rfl⟩
  go_upto_region 7 with fail
  refine wp_forget (fun u => Ext W2 u ∧ Hid (Iz u g (lvTo V c.doms.length 0))) ⟨ext_by, hid (by
    have := Blk.new W2 3 (List.replicate c.doms.length (Value.int .i64 0))
    rw [hg]; unfold Iz; rw [lvTo_zero]
    simpa using this)⟩ ?_
  rintro W3 ⟨X3, hL3⟩
  rw [← hg]
  have hgb : W2.heap.size ≤ g := by omega
  have hwg : w.heap.size < g := by omega
  clear hg hmk
  go_upto_block 0 with fail
  go_cut [11] from 34 to 54 (fun _ wx => Ext W2 wx ∧ Hid (Iz wx g (lvTo V c.doms.length c.doms.length)))
  case first =>
    go_wp2_with fail
    go_loopw [11] (fun v9 wr => Ext W2 wr ∧ ∃ j : Nat, v9 = .int .i64 j ∧ j ≤ c.doms.length ∧ Hid (Iz wr g (lvTo V c.doms.length j))) (fun v9 _ => (c.doms.length - intOf v9).toNat)
    case atStart => exact ⟨X3, 0, rfl, by omega, hL3⟩
    case round =>
      obtain ⟨hx, j, rfl, hj, hL⟩ := hrel
      by_cases hlt : j < c.doms.length ∧ j < V.length
      · obtain ⟨h1, h2⟩ := hlt
        obtain ⟨vb, vo, rfl, a0, -⟩ := (HV.out.ext (X2.trans hx)).at j h2
        simp only [Nat.mul_one] at a0
        have hxb := HVB.out _ (List.getElem_mem h2)
        have hst : Hid ((lvTo V c.doms.length j).set j (V[j] % 5) = lvTo V c.doms.length (j + 1)) := hid (by have := lvTo_set (n := c.doms.length) h2; rwa [at0_get h2] at this)
        have c0 := Iz.at hL.out (i := j) (by rw [lvTo_length]; exact h1)
        obtain ⟨old, c0⟩ : ∃ old, wr.cell? ⟨g, j, none⟩ = some old := ⟨_, c0⟩
        have c1 := hL.out.frozen j
        have c2 := hL.out.lt
        have hS2 : Hid (∀ u, Iz u g (lvTo V c.doms.length j) → Iz (u.setCell ⟨g, j, none⟩ (.int .i64 (V[j] % 5))) g (lvTo V c.doms.length (j + 1))) := hid fun u hu => by
          have := hu.set j (iV (V[j] % 5))
          rw [← hst.out, Iz, List.map_set]
          exact this
        have i1 : (j : Int) < c.doms.length := by omega
        have i2 : (j : Int) < V.length := by omega
        have e1 : 0 ≤ V[j] % 5 := Int.emod_nonneg _ (by omega)
        have e2 : V[j] % 5 < 5 := Int.emod_lt_of_pos _ (by omega)
        clear hst
        generalize V[j] = x at *
        go_wp2
        all_goals
          go_roundw
          case rel => exact ⟨ext_by, j + 1, by go_num, by omega, hid (hS2.out _ hL.out)⟩
          case measure => simp [intOf]; omega
      · have hend : Hid (lvTo V c.doms.length j = lvTo V c.doms.length c.doms.length) := hid (by
          by_cases h1 : j < c.doms.length
          · exact lvTo_end (by omega)
          · rw [show j = c.doms.length by omega])
        have hLV : Hid (Iz wr g (lvTo V c.doms.length c.doms.length)) := hid (by rw [← hend.out]; exact hL.out)
        clear hL hend
        by_cases h1 : j < c.doms.length
        · have h2 : ¬ (j : Int) < V.length := by omega
          have h3 : (j : Int) < c.doms.length := by omega
          go_wp2
          all_goals
            go_meet
            case rel => exact ⟨hx, hLV⟩
        · have h3 : ¬ (j : Int) < c.doms.length := by omega
          go_wp2
          all_goals
            go_meet
            case rel => exact ⟨hx, hLV⟩
  case rest =>
    obtain ⟨hx, hLV⟩ := hcut
    have m0 := hx.cell k0
    have m1 := hx.cell k1
    have m2 := hx.cell k2
    have m3 := hx.cell k3
    have X4 := X2.trans hx
    have HO4 := hid (HO.out.ext hx)
    have hLl := lvTo_length V c.doms.length c.doms.length
    generalize lvTo V c.doms.length c.doms.length = L at *
    have HLI : Hid (Ints wc (.slice (some ⟨g, 0, none⟩) c.doms.length c.doms.length) L) := hid (by
      have := hLV.out.ints (by rw [hLl]; unfold maxLen; omega)
      rwa [hLl] at this)
    have HLL := hid hLl
    have hgc : g < wc.heap.size := hLV.out.lt
    have hLm : (L.map iV).length = c.doms.length := by rw [List.length_map, hLl]
    have HNW : Hid (∀ (j : Nat) (u : Value), (L.map iV)[j]? = some u → wc.cell? ((⟨g, 0, none⟩ : Addr).add j) = some u) := hid fun j u hj => by
      rw [List.getElem?_map] at hj
      obtain ⟨x, hx, rfl⟩ := Option.map_eq_some_iff.1 hj
      obtain ⟨hjl, rfl⟩ := List.getElem?_eq_some_iff.1 hx
      rw [add_add, Nat.zero_add]
      exact Iz.at hLV.out hjl
    have HLM := hid hLm
    have HLV := hid hLV.out
    clear hLV hLl hLm hL3 X3 k0 k1 k2 k3
    have hbc : w.heap.size < wc.heap.size := World.block_lt_of_cell? _ _ m0
    go_upto_region 12 with (at_builtin; refine wpList_copy rfl (.const (.slice none 0 0)) (.tmp 55) 26 3 (.int .i64 0) 8 rfl Try.underlying26 infoI rfl (ad := ⟨g, 0, none⟩) (m := c.doms.length) (c := c.doms.length) (news := L.map iV) (by rfl) (by rfl) HLM.out HNW.out (iV_one L) (by unfold maxLen; omega) (by omega) (by omega) ?_; intro g2 c2 w5 ho5 hg5 hx5)
    have HB5 : Hid (Rw1 wc.heap.size 3 g2 c2 (L.map iV) w5) := hid ⟨by rw [HLM.out]; exact ho5⟩
    have hwc2 : w.heap.size < g2 := by omega
    have hgg2 : g ≠ g2 := by omega
    obtain ⟨kk, hkk⟩ : ∃ kk : Nat, dd % (c.doms.length : Int) = kk := ⟨(dd % (c.doms.length : Int)).toNat, by have := Int.emod_nonneg dd (b := (c.doms.length : Int)) (by omega); omega⟩
    have hkn : kk < c.doms.length := by have := Int.emod_lt_of_pos dd (b := (c.doms.length : Int)) (by omega); omega
    have hkL : kk < L.length := by have := HLL.out; omega
    have X5 := X4.trans hx5
    have HO5 := hid (HO4.out.ext hx5)
    have HLV5 := hid (HLV.out.ext hx5)
    have hX25 : Ext W2 w5 := hx.trans hx5
    have hw2g : W2.heap.size ≤ g2 := by have := hx.size; omega
    have p0 := hx5.cell m0
    have p1' := hx5.cell m1
    have p2 := hx5.cell m2
    have p3' := hx5.cell m3
    have hb5 : w.heap.size < w5.heap.size := World.block_lt_of_cell? _ _ p0
    obtain ⟨-, hg5', -, hcell⟩ := HB5.out.blk
    obtain ⟨q1, q2⟩ := hcell kk (by rw [HLM.out]; exact hkn)
    obtain ⟨old, q1⟩ : ∃ old, w5.cell? ⟨g2, kk, none⟩ = some old := ⟨_, q1⟩
    have hgL5 : g < w5.heap.size := by have := hx5.size; omega
    have y0 : 0 ≤ tt % 5 := Int.emod_nonneg _ (by omega)
    have y9 : tt % 5 < 5 := Int.emod_lt_of_pos _ (by omega)
    have hne : ¬ (c.doms.length : Int) = 0 := by omega
    have hkn' : (kk : Int) < c.doms.length := by omega
    have hwb : wc.heap.size ≤ g2 := hg5
    clear HO4 HLI HLV hx5 ho5 hcell hg5 X2 hx m0 m1 m2 m3 HNW hbc
    go_upto_region 14 with fail
    refine wp_forget (fun u => Ext w u ∧ u.cell? ⟨w.heap.size, 0, none⟩ = some (.int .i64 c.frame) ∧ u.cell? ⟨w.heap.size, 1, none⟩ = some (.int .i64 c.epoch) ∧ u.cell? ⟨w.heap.size, 2, none⟩ = some (.slice pp c.plans.length cp) ∧ u.cell? ⟨w.heap.size, 3, none⟩ = some (.slice pd c.doms.length cd) ∧ Hid (Ints u (.slice (some ⟨g2, 0, none⟩) c.doms.length c2) (L.set kk (tt % 5))) ∧ Hid (Ints u (.slice (some ⟨g, 0, none⟩) c.doms.length c.doms.length) L) ∧ Hid (Ints u (.slice po own.length co) own)) ⟨ext_by, by simp [go_sem, *], by simp [go_sem, *], by simp [go_sem, *], by simp [go_sem, *], hid (by
        have h1 := (HB5.out.set (j := kk) (by rw [HLM.out]; exact hkn) (.int .i64 (tt % 5)))
        rw [show Value.int .i64 (tt % 5) = iV (tt % 5) from rfl, ← List.map_set] at h1
        have h2 := h1.ints
        rwa [List.length_set, HLL.out] at h2), hid (by
        have h1 : Iz _ g L := HLV5.out.other hgg2 kk (.int .i64 (tt % 5))
        have h2 := h1.ints (by rw [HLL.out]; unfold maxLen; omega)
        rwa [HLL.out] at h2), hid (HO.out.ext (Ext.setCell hX25 (by simpa using hw2g) _))⟩ ?_
    clear HB5 HO5 HLV5 hX25 p0 p1' p2 p3' q1 q2 X5
    rintro W6 ⟨X6, k0, k1, k2, k3, HM6, HL6, HO6⟩
    have hML : Hid ((L.set kk (tt % 5)).length = c.doms.length) := hid (by rw [List.length_set, HLL.out])
    have htl := hid (turnL_of HI.out HOF.out HLL.out HOO.out)
    have htm := hid (turnL_of HI.out HOF.out hML.out HOO.out)
    go_upto_region 15 with (go_at_call 9; (with_reducible refine (turn_any (HC.out.ext X6) RA.out HO6.out HL6.out).mono ?_); rw [htl.out]; rintro e w7 ⟨va, vf, rfl, hx7, hA, hB⟩)
    have HA := hid hA
    have HB := hid hB
    obtain ⟨pa, ca, rfl, ha1, ha2⟩ := hA.shape
    obtain ⟨pf, cf, rfl, hf1, hf2⟩ := hB.shape
    unfold maxLen at ha2 hf2
    simp only [outL_length] at ha1 HA
    simp only [freedL_length] at hf1 HB
    simp only [outL_length, freedL_length]
    have X7 := X6.trans hx7
    have c0 := hx7.cell k0
    have c1 := hx7.cell k1
    have c2' := hx7.cell k2
    have c3 := hx7.cell k3
    have HM7 := hid (HM6.out.ext hx7)
    have HO7 := hid (HO6.out.ext hx7)
    clear hA hB k0 k1 k2 k3 HM6 HL6 HO6 hx7 X6
    have hb7 : w.heap.size < w7.heap.size := World.block_lt_of_cell? _ _ c0
    go_upto_region 16 with (go_at_call 9; (with_reducible refine (turn_any (HC.out.ext X7) RA.out HO7.out HM7.out).mono ?_); rw [htm.out]; rintro e w8 ⟨vb, vg, rfl, hx8, hA, hB⟩)
    have HA2 := hid hA
    have HB2 := hid hB
    obtain ⟨pb, cb, rfl, hb1, hb2'⟩ := hA.shape
    obtain ⟨pg, cg, rfl, hg1, hg2⟩ := hB.shape
    unfold maxLen at hb2' hg2
    simp only [outL_length] at hb1 HA2
    simp only [freedL_length] at hg1 HB2
    simp only [outL_length, freedL_length]
    have X8 := X7.trans hx8
    have HA1 := hid (HA.out.ext hx8)
    have HB1 := hid (HB.out.ext hx8)
    have HO8 := hid (HO7.out.ext hx8)
    have hoe : ((own.length : Int) == (own.length : Int)) = true := by simp
    have hon : ((own.length : Int) != (own.length : Int)) = false := by simp
    clear hA hB HA HB HO7 HM7 hx8 X7 c0 c1 c2' c3 hb7 htl htm
    have HML := hid hML.out
    go_wp2
    go_loopw [18] (fun v18 wr => Ext w8 wr ∧ ∃ i : Nat, v18 = .int .i64 i ∧ i ≤ own.length) (fun v18 _ => (own.length - intOf v18).toNat)
    case atStart => exact ⟨Ext.refl _, 0, rfl, by omega⟩
    case round =>
      obtain ⟨hx, i, rfl, hi⟩ := hrel
      by_cases hlt : i < own.length
      · obtain ⟨ob, oo, e5, a0⟩ := (HO8.out.ext hx).at i hlt
        obtain ⟨ab, ao, e6, a1⟩ := (HA1.out.ext hx).at i (by rw [outL_length]; exact hlt)
        obtain ⟨bb, bo, e7, a2⟩ := (HA2.out.ext hx).at i (by rw [outL_length]; exact hlt)
        obtain ⟨fb, fo, e8, a3⟩ := (HB1.out.ext hx).at i (by rw [freedL_length]; exact hlt)
        obtain ⟨gb, go, e9, a4⟩ := (HB2.out.ext hx).at i (by rw [freedL_length]; exact hlt)
        rw [outL_get] at a1 a2
        rw [freedL_get] at a3 a4
        simp only [Nat.mul_one] at a0 a1 a2 a3 a4
        subst e5 e6 e7 e8 e9
        have hat : at0 own i = own[i] := at0_get hlt
        have hon0 := HOO.out _ (List.getElem_mem hlt)
        have i1 : (i : Int) < own.length := by omega
        have n0 := more_cell a0
        have hb0 := World.block_lt_of_cell? _ _ a0
        by_cases hd1 : own[i] = (kk : Int)
        · rw [hd1] at n0
          have hc0 : ((kk : Int) != (kk : Int)) = false := by simp
          clear hat hon0 hd1 a0 a1 a2 a3 a4
          go_wp2
          ((first | refine wp_region_more (by kernel_rfl) (by kernel_rfl) ?_ | refine wp_region_ext (by kernel_rfl) (by kernel_rfl) ?_); (try dsimp only [append_cons', append_nil']); (repeat (go_big_quiet_step ((fail)))); refine wpQuiet_nil ?_; rintro _ ⟨pq, rfl⟩)
          go_wp2
          all_goals
            go_roundw
            case rel => exact ⟨hx.trans (ext_more _ _), i + 1, by go_num, by omega⟩
            case measure => simp [intOf]; omega
        · have hc0 : (own[i] != (kk : Int)) = true := by simpa using hd1
          obtain ⟨h1, h2⟩ := outAt_apart (c := c) (x := tt % 5) (by rw [hat]; exact hon0.1) (by rw [hat]; exact hd1) hkL
          rw [h1] at a2
          rw [h2] at a4
          have n1 := more_cell a1
          have n2 := more_cell a2
          have n3 := more_cell a3
          have n4 := more_cell a4
          clear hat hon0 hd1 a0 a1 a2 a3 a4 h1 h2
          generalize own[i] = x0 at *
          generalize outAt c own L i = x1 at *
          generalize freedAt c own L i = x2 at *
          have hc1 : (x1 != x1) = false := by simp
          have hc2 : (x2 != x2) = false := by simp
          go_wp2
          ((first | refine wp_region_more (by kernel_rfl) (by kernel_rfl) ?_ | refine wp_region_ext (by kernel_rfl) (by kernel_rfl) ?_); (try dsimp only [append_cons', append_nil']); (repeat (go_big_quiet_step ((fail)))); refine wpQuiet_nil ?_; rintro _ ⟨pq, rfl⟩)
          go_wp2
          all_goals
            go_roundw
            case rel => exact ⟨hx.trans (ext_more _ _), i + 1, by go_num, by omega⟩
            case measure => simp [intOf]; omega
      · obtain rfl : i = own.length := by omega
        go_wp2
        go_returns
        exact ⟨by simp, X8.trans hx⟩

set_option linter.unusedVariables false in
set_option maxRecDepth 100000 in
theorem lifted (os : Os) (started : os.Started) (H : Type) (enc : TypeId × Value → H) :
    ReturnsInHanded {} Try.checked os 5 .any (Rows.releaseApartSpec.pre6 enc Try.prog Try.f5 Rows.releaseApartRow.domain false) (Rows.releaseApartSpec.post enc Try.prog Try.f5 false true false false) := by
  refine returnsInHanded_of_change (C := Try.checked) Own.own started (by kernel_rfl) Try.func5
    (ChangeSpec.witness6 (enc := enc) (C := Try.checked) false ⟨#[], #[.agg #[.int .i64 0, .int .i64 0, .slice none 0 0, .slice none 0 0], .slice none 0 0, .int .u8 0, .int .u8 0], []⟩ 8 (by kernel_rfl) (by kernel_rfl) (by kernel_rfl) (by kernel_rfl)) ?_
  intro W base args ds gs before hval0 hW hcnd _
  have hval : ∀ (j : Nat) t v, Try.f5.params[j]? = some t → args[j]? = some v → Value.okWide Try.prog W .any base t v := hval0
  have hW' := hW
  obtain ⟨p, q, hA0, hV, rfl, hfz, hnd⟩ := hW
  have hA : DataW.TrodAll enc Try.prog W 0 (fun _ => true) true Try.f5.params.toList args.toList ds p := hA0
  rw [Try.params5] at hA hval
  obtain ⟨v0, vs0, d0, ds0, p0, q0, hargs, rfl, rfl, h0, r0⟩ := trodAll_cons hA
  obtain ⟨v1, vs1, d1, ds1, p1, q1, rfl, rfl, rfl, h1, r1⟩ := trodAll_cons r0
  obtain ⟨v2, vs2, d2, ds2, p2, q2, rfl, rfl, rfl, h2, r2⟩ := trodAll_cons r1
  obtain ⟨v3, vs3, d3, ds3, p3, q3, rfl, rfl, rfl, h3, r3⟩ := trodAll_cons r2
  obtain ⟨rfl, rfl, rfl⟩ := trodAll_nil r3
  obtain rfl : args = #[v0, v1, v2, v3] := by cases args; simp_all
  obtain ⟨rfl, rfl⟩ := trodVars_none hV
  have k0 := h0
  have lt0 : ∀ x ∈ p0, x.block < W.heap.size := by obtain ⟨m, hm⟩ := k0; exact DataW.trod_lt m _ _ _ hm
  have k1 := h1
  have lt1 : ∀ x ∈ p1, x.block < W.heap.size := by obtain ⟨m, hm⟩ := k1; exact DataW.trod_lt m _ _ _ hm
  have k2 := h2
  have lt2 : ∀ x ∈ p2, x.block < W.heap.size := by obtain ⟨m, hm⟩ := k2; exact DataW.trod_lt m _ _ _ hm
  have k3 := h3
  have lt3 : ∀ x ∈ p3, x.block < W.heap.size := by obtain ⟨m, hm⟩ := k3; exact DataW.trod_lt m _ _ _ hm
  obtain ⟨c, pv, dv, rfl, hc⟩ := Own.open_conf (hval 0 25 v0 rfl rfl) (by exact h0)
  obtain ⟨a2, len2, cap2, rfl⟩ := okWide_slice Try.underlying34 (hval 1 34 v1 rfl rfl)
  obtain ⟨V, hV⟩ := Own.open_nums Try.underlying34 Try.underlying5 (by kernel_rfl) h1
  obtain ⟨dd, rfl, rfl, rfl, wd⟩ := open_int Try.underlying5 (hval 2 5 v2 rfl rfl) h2
  obtain ⟨tt, rfl, rfl, rfl, wt⟩ := open_int Try.underlying5 (hval 3 5 v3 rfl rfl) h3
  clear hA0 hval0
  refine (walk c dd tt V pv dv _ W hc (wf_bounds8 wd).1 (wf_bounds8 wd).2 (wf_bounds8 wt).1 (wf_bounds8 wt).2 hV).mono fun e W' ⟨he, hx⟩ => ?_
  subst he
  exact ⟨_, rfl, _, _, _, [], _, [], hW', trodAll_mk1 (shut_bool Try.underlying4 _), (trodAll_cons_mk (Below.trod Own.laidOut (by kernel_rfl) (of_decide_eq_true (by kernel_rfl)) k0 hx.below lt0) (trodAll_cons_mk (Below.trod Own.laidOut (by kernel_rfl) (of_decide_eq_true (by kernel_rfl)) k1 hx.below lt1) (trodAll_cons_mk (Below.trod Own.laidOut (by kernel_rfl) (of_decide_eq_true (by kernel_rfl)) k2 hx.below lt2) (trodAll_cons_mk (Below.trod Own.laidOut (by kernel_rfl) (of_decide_eq_true (by kernel_rfl)) k3 hx.below lt3) trodAll_mk0)))), rfl, hx.below.frame _, fun h => by cases h⟩

theorem proved : Rows.ReleaseApartSaid :=
  OpenClaim.holds_of_wide 5 Try.f5 rfl rfl rfl rfl rfl rfl rfl ⟨rfl, rfl, rfl, rfl, rfl⟩ rfl rfl rfl rfl rfl (by kernel_rfl) Try.func5 (by kernel_rfl)
    (of_decide_eq_true (by kernel_rfl)) (by unfold Func.isWrapper; first | (rw [if_pos (by decide +kernel)]; kernel_rfl) | (rw [if_neg (by decide +kernel)]; exact ⟨rfl, rfl⟩))
    (fun os started H enc _ => lifted os started H enc)

end releaseApart
end Go.Proofs.Ytfjhcmpcnnjodaa
