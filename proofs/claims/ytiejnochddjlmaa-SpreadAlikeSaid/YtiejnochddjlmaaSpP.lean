/- The program's slots and gaps: whatever counts come in; of rows of whatever slots. -/
import Derived.Test.YtiejnochddjlmaaSpR
namespace Go.Proofs.Ytiejnochddjlmaa
open Go.RowKit

theorem run_makeF (n : Nat) (hn : n ≤ 64) (w : World) : (Instr.makeSlice 22 (.int .i64 n) (.int .i64 n)).run Try.prog w = .ok (.slice (some ⟨w.heap.size, 0, none⟩) n n) (w.alloc (.cells (List.replicate n (Value.int .i64 0)).toArray 3)) := by
  obtain ⟨i0, hi, hz0, hz1, hz2⟩ := info_parts infoI
  have := run_make (P := Try.prog) w 22 3 i0 (.int .i64 0) (by kernel_rfl) hi hz0 .i64 .i64 n n (by omega) (by omega) (by rw [hz2]; omega) (by omega)
  rw [this, Int.toNat_natCast, hz1, made_rep _ rfl]

set_option maxRecDepth 100000 in
set_option maxHeartbeats 2000000 in
theorem gap_any {d : Int} {l : List Int} {v : Value} {w : World} (h : Ints w v l) (hl : l.length ≤ 100) : Calls Try.prog 9 #[v, .int .i64 d] w (Yields w (.tuple #[.int .i64 (gapL l d).1, .int .i64 (gapL l d).2])) := by
  have HA := hid h
  obtain ⟨pa, ca, rfl, hca, hma⟩ := h.shape
  unfold maxLen at hma
  clear h
  by_cases h64 : (64 : Int) < l.length
  · have hr : Hid (gapL l d = (0, 0)) := hid (by unfold gapL; rw [if_pos (.inr (by omega))])
    go_enter Try.func9, Try.ntmps9
    go_wp2
    all_goals
      refine bodyPost_ret (v := .tuple #[.int .i64 0, .int .i64 0]) (by simp [results, Try.results9, go_sem]) rfl ⟨by rw [hr.out], ext_by⟩
  have HG := hid (places_any HA.out (d := d) (by omega))
  have hple := posTo_le l d l.length
  have HInc := hid (posTo_Inc l d)
  have HR : Hid (gapL l d = if (posTo l d l.length).length = 0 ∨ 64 < l.length then (0, 0) else gapTo (posTo l d l.length) l.length (posTo l d l.length).length) := hid rfl
  generalize posTo l d l.length = P at *
  have hn : 0 ≤ (l.length : Int) := by omega
  go_enter Try.func9, Try.ntmps9
  go_upto_region 4 with (go_at_call 15; refine (HG.out).mono ?_; rintro e w1 ⟨u1, rfl, hx1, hI1⟩)
  have HI := hid hI1
  obtain ⟨p1, c1, rfl, hc1, hm1⟩ := hI1.shape
  unfold maxLen at hm1
  clear hI1
  by_cases h0 : P.length = 0
  · have hr : Hid (gapL l d = (0, 0)) := hid (by rw [HR.out, if_pos (.inl h0)])
    have h0' : (P.length : Int) = 0 := by omega
    have hb : ((P.length : Int) == 0) = true := by simpa using h0'
    clear h0'
    go_wp2
    all_goals
      refine bodyPost_ret (v := .tuple #[.int .i64 0, .int .i64 0]) (by simp [results, Try.results9, go_sem]) rfl ⟨by rw [hr.out], ext_by⟩
  have hr : Hid (gapL l d = pgTo P l.length P.length) := hid (by rw [HR.out, if_neg (by omega), pg_end (P := P) (by omega)])
  have hb : ((P.length : Int) == 0) = false := by simpa using h0
  obtain ⟨m, hm⟩ : ∃ m, P.length = m + 1 := ⟨P.length - 1, by omega⟩
  have hml : m < P.length := by omega
  obtain ⟨ba, oa, rfl, a0⟩ := HI.out.at m hml
  simp only [Nat.mul_one] at a0
  have hbf : Hid (at0 P m - l.length = bef P l.length 0) := hid (by unfold bef; rw [if_pos rfl, hm, Nat.add_sub_cancel])
  have hlo := HInc.out.lo m hml
  have hhi := HInc.out.hi m hml
  rw [at0_get hml] at hbf hlo hhi
  have e1 : (P.length : Int) - 1 = (m : Int) := by omega
  have hmP : (m : Int) < P.length := by omega
  have HM := hid hm
  clear hm hc1 HG HR
  generalize P[m] = z at *
  go_wp2
  go_loopw [7, 8, 9, 34] (fun v7 v8 v9 v34 wr => Ext w1 wr ∧ ∃ (k : Nat) (bf a b : Int), v34 = .int .i64 k ∧ v7 = .int .i64 bf ∧ v8 = .int .i64 a ∧ v9 = .int .i64 b ∧ k ≤ P.length ∧ -100 ≤ bf ∧ bf ≤ 100 ∧ 0 ≤ a ∧ a ≤ 100 ∧ 0 ≤ b ∧ b ≤ 100 ∧ Hid (bf = bef P l.length k) ∧ Hid (a = (pgTo P l.length k).1) ∧ Hid (b = (pgTo P l.length k).2)) (fun _ _ _ v34 _ => (P.length - intOf v34).toNat)
  case atStart => exact ⟨ext_by, 0, _, _, _, rfl, rfl, rfl, rfl, by omega, by omega, by omega, by omega, by omega, by omega, by omega, hbf, hid rfl, hid rfl⟩
  case round =>
    obtain ⟨hx, k, bf, a, b, rfl, rfl, rfl, rfl, hk, b1, b2, a1, a2, c1, c2, hf, ha, hbb⟩ := hrel
    by_cases hlt : k < P.length
    · obtain ⟨bb, ob, ep2, a7⟩ := HI.out.at k hlt
      simp only [Nat.mul_one] at a7
      injection ep2 with ep2
      injection ep2 with ep3 ep4
      subst ep3 ep4
      have m0 := hx.cell a7
      have hst := pg_step HInc.out hlt
      have hbd := pg_bounds HInc.out hn (k := k + 1) (by omega)
      rw [← hf.out, ← ha.out, ← hbb.out, at0_get hlt] at hst
      have hl1 := HInc.out.lo k hlt
      have hl2 := HInc.out.hi k hlt
      rw [at0_get hlt] at hl1 hl2
      have hnf : Hid (P[k] = bef P l.length (k + 1)) := hid (by unfold bef; rw [if_neg (by omega), Nat.add_sub_cancel, at0_get hlt])
      have S1 : Hid (min a (P[k] - bf) = (pgTo P l.length (k + 1)).1) := hid hst.1
      have S2 : Hid (max b (P[k] - bf) = (pgTo P l.length (k + 1)).2) := hid hst.2
      rw [← hst.1, ← hst.2] at hbd
      clear hst a7 hf ha hbb
      generalize P[k] = y at *
      have i1 : (k : Int) < P.length := by omega
      go_wp2
      all_goals
        go_roundw
        case rel => exact ⟨ext_by, k + 1, _, _, _, by go_num, rfl, rfl, rfl, by omega, by omega, by omega, by omega, by omega, by omega, by omega, hnf, by rw [← min_if]; exact S1, by rw [← max_if]; exact S2⟩
        case measure => simp [intOf]; omega
    · obtain rfl : k = P.length := by omega
      have HE : Hid (gapL l d = (a, b)) := hid (by rw [hr.out, ha.out, hbb.out])
      have hxw : Ext w wr := Ext.trans (by assumption) hx
      clear ha hbb hf hr
      go_wp2
      all_goals
        refine bodyPost_ret (v := .tuple #[.int .i64 a, .int .i64 b]) (by simp [results, Try.results9, go_sem]) rfl ⟨by rw [HE.out], hxw⟩

theorem slots_none {c : List Int} {v : Value} {w : World} (h : Ints w v c) (hm : mayC c = false) : Calls Try.prog 12 #[v] w (Yields w (.slice none 0 0)) := by
  have H := hid (sum_any h)
  have he : sumC c = 0 := by unfold sumC; rw [if_neg (by rw [hm]; decide)]
  rw [he] at H
  obtain ⟨pa, ca, rfl, hca, hma⟩ := h.shape
  clear h hm he
  go_enter Try.func12, Try.ntmps12
  go_wp2_with (go_at_call 16; refine H.out.yields ?_; intro p)
  go_returns
  exact ⟨by simp, ext_by⟩
theorem pts_start {c : List Int} {F : Int} {k : Nat} (h : k < c.length) : (pts c F (gAt c 0)).take (k + 1) = (pts c F (gAt c 0)).take k ++ [(2 * c[k], F)] := by
  rw [List.take_succ_eq_append_getElem (by rw [pts_length]; exact h), pts_get, at0_get h]
  have e : at0 (gAt c 0) k = 0 := by simp only [gAt]; exact rep_at0 h
  rw [e]; simp

set_option maxRecDepth 100000 in
set_option maxHeartbeats 4000000 in
theorem slots_any {c : List Int} {v : Value} {w : World} (hm : mayC c = true) (h : Ints w v c) : Calls Try.prog 12 #[v] w fun e w' => ∃ u, e = .returned u ∧ Ext w w' ∧ Ints w' u (slotsL c) := by
  have hM := MayC.of hm
  have HS := hid (sum_any h)
  obtain ⟨pa, ca, rfl, hca, hma⟩ := h.shape
  unfold maxLen at hma
  have H := hid h
  have HM := hid hM
  have hn := hM.len
  have hpos := hM.pos
  have ht1 := hM.t1
  have ht64 := hM.t64
  obtain ⟨F, hF⟩ : ∃ F : Nat, tot c = F := ⟨(tot c).toNat, by omega⟩
  have he : sumC c = F := by unfold sumC; rw [if_pos hm, hF]
  rw [he] at HS
  have HG := hid (gInv hM)
  have HB := hid (fun (t : Nat) (ht : (t : Int) < tot c) => slot_best hM ht)
  have HSL : Hid (slotsL c = slotsTo c F) := hid (by unfold slotsL slotsTo; rw [hF]; rfl)
  rw [hF] at HG HB ht1 ht64
  have hmk := run_makeC c.length hn
  have hmf := run_makeF F (by omega)
  have hF0 : ((F : Int) == 0) = false := by simp; omega
  clear h hm hM hF he
  go_enter Try.func12, Try.ntmps12
  go_upto_region 4 with (go_at_call 16; refine HS.out.yields ?_; intro p)
  have hx0 := ext_more w p
  generalize more w p = w0 at *
  obtain ⟨g, hg⟩ : ∃ g, g = w0.heap.size := ⟨_, rfl⟩
  go_upto_region 5 with (fail)
  refine wp_forget (fun u => Ext w u ∧ Hid (Blk u g 37 (List.replicate c.length (Value.complex .f64 0 0)))) ⟨ext_by, hid (by have := Blk.new w0 37 (List.replicate c.length (Value.complex .f64 0 0)); rw [hg]; simpa using this)⟩ ?_
  rintro w1 ⟨hx1, hb1⟩
  rw [← hg]
  have hgw : w.heap.size ≤ g := by have := hx0.size; omega
  clear hg hx0 hmk
  go_wp2
  go_loopw [20] (fun v20 wr => Ext w wr ∧ ∃ (k : Nat) (L : List Value), v20 = .int .i64 k ∧ k ≤ c.length ∧ Hid (Blk wr g 37 L) ∧ Hid (L.length = c.length) ∧ Hid (L.take k = ((pts c F (gAt c 0)).take k).map cV)) (fun v20 _ => (c.length - intOf v20).toNat)
  case atStart => exact ⟨hx1, 0, _, rfl, by omega, hb1, hid (by simp), hid (by simp)⟩
  case round =>
    obtain ⟨hx, k, L, rfl, hk, hB, hL, hT⟩ := hrel
    by_cases hlt : k < c.length
    · obtain ⟨ba, oa, rfl, a0⟩ := H.out.at k hlt
      have m0 := hx.cell a0
      simp only [Nat.mul_one] at m0
      have hkL : k < L.length := by have := hL.out; omega
      have c0 := hB.out.cell hkL
      have c1 := hB.out.frozen k
      have c2 := hB.out.lt
      have x1 := HM.out.lo _ (List.getElem_mem hlt)
      have x2 := HM.out.hi _ (List.getElem_mem hlt)
      have hT2 : Hid ((L.set k (cV (2 * c[k], F))).take (k + 1) = ((pts c F (gAt c 0)).take (k + 1)).map cV) := hid (by
        rw [take_set_succ hkL, hT.out, pts_start hlt, List.map_append]; rfl)
      have hB2 : Hid (Blk (wr.setCell ⟨g, k, none⟩ (cV (2 * c[k], F))) g 37 (L.set k (cV (2 * c[k], F)))) := hid (hB.out.set k _)
      clear a0 hT hB
      generalize c[k] = x at *
      have e1 := floatOfInt_eq (z := 2 * x) (by omega)
      have e2 := floatOfInt_eq (z := (F : Int)) (by omega)
      have ez : cV (2 * x, (F : Int)) = .complex .f64 (Fz (2 * x)) (Fz F) := rfl
      rw [ez] at hB2 hT2
      clear ez
      have i1 : (k : Int) < c.length := by omega
      generalize L[k] = old at *
      go_wp2
      all_goals
        go_roundw
        case rel => exact ⟨ext_by, k + 1, _, by go_num, by omega, hB2, hid (by rw [List.length_set]; exact hL.out), hT2⟩
        case measure => simp [intOf]; omega
    · obtain rfl : k = c.length := by omega
      have h2 := hT.out
      rw [← pts_length c F (gAt c 0), List.take_length, pts_length, ← hL.out, List.take_length] at h2
      have hC : Hid (Cx wr g (pts c F (gAt c 0))) := hid (by have := hB.out; rw [h2] at this; exact this)
      have hgr := hC.out.lt
      clear h2 hT hL hB hb1
      have e1 := floatOfInt_eq (z := 2 * (F : Int)) (by omega)
      obtain ⟨g2, hg2⟩ : ∃ g2, g2 = wr.heap.size := ⟨_, rfl⟩
      go_upto_region 12 with (fail)
      refine wp_forget (fun u => Ext w u ∧ Hid (Cx u g (pts c F (gAt c 0))) ∧ Hid (Iz u g2 (slotsTo c 0 ++ List.replicate (F - 0) 0))) ⟨ext_by, hid (hC.out.ext (Ext.alloc (Ext.refl _) _)), hid (by
        have := Blk.new wr 3 (List.replicate F (Value.int .i64 0))
        rw [hg2]
        unfold Iz
        simpa [iV, slotsTo] using this)⟩ ?_
      rintro w2 ⟨hx2, hC2, hS2⟩
      rw [← hg2]
      have hgg : g ≠ g2 := by omega
      have hg2w : w.heap.size ≤ g2 := by omega
      clear hg2 hmf hC hgr hx hx1
      go_wp2
      go_loopw [43] (fun v43 wr => Ext w wr ∧ ∃ t : Nat, v43 = .int .i64 t ∧ t ≤ F ∧ Hid (Cx wr g (pts c F (gAt c t))) ∧ Hid (Iz wr g2 (slotsTo c t ++ List.replicate (F - t) 0))) (fun v43 _ => (F - intOf v43).toNat)
      case atStart => exact ⟨hx2, 0, rfl, by omega, hC2, hS2⟩
      case round =>
        obtain ⟨hx, t, rfl, htF, hC, hS⟩ := hrel
        by_cases hlt2 : t < F
        · obtain ⟨b0, sb1, sb2, -, sb4, sb5⟩ := HB.out t (by omega)
          have hGI := HG.out t (by omega)
          have hall := sb4.all hGI.lo (lo_at0 HM.out.lo) hGI.hi
          have hfi := fi_best (F := F) (by omega) sb2 hall.1 hall.2 c.length sb2 (Nat.le_refl _)
          have hbd : ∀ p ∈ pts c F (gAt c t), 0 ≤ p.1 ∧ p.1 < 2 ^ 20 ∧ 0 < p.2 ∧ p.2 < 2 ^ 20 := by
            intro p hp
            obtain ⟨j, hj, rfl⟩ := List.getElem_of_mem hp
            rw [pts_get hj]
            rw [pts_length] at hj
            have y1 := hGI.lo j
            have y2 := hGI.hi j
            have y3 := HM.out.lo _ (List.getElem_mem hj)
            have y4 := HM.out.hi _ (List.getElem_mem hj)
            rw [at0_get hj] at y2 ⊢
            have y5 : (2 * at0 (gAt c t) j + 1) * F ≤ (2 * at0 (gAt c t) j + 1) * 64 := Int.mul_le_mul_of_nonneg_left ht64 (by omega)
            have y6 : 0 < (2 * at0 (gAt c t) j + 1) * F := Int.mul_pos (by omega) (by omega)
            simp only
            omega
          have HFi : Hid (∀ u, Ext wr u → Calls Try.prog 17 #[.slice (some ⟨g, 0, none⟩) c.length c.length] u (Yields u (.int .i64 b0))) := hid fun u hu => by
            have := first_any (hC.out.ext hu) (by rw [pts_length]; unfold maxLen; omega) hbd
            rw [pts_length, hfi] at this
            exact this
          have hbp : b0 < (pts c F (gAt c t)).length := by rw [pts_length]; exact sb2
          have hput := pts_put (F := F) hGI.len sb2
          rw [← sb5] at hput
          have hsum := hbd _ (List.getElem_mem hbp)
          rw [pts_get hbp] at hsum
          simp only at hsum
          have hadd := sum_Fz (a := 2 * at0 c b0) (b := (2 * at0 (gAt c t) b0 + 1) * F) (c := 0) (d := 2 * F) (by omega) (by omega) (by decide) (by omega)
          rw [zero_Fz] at hadd
          have hop := fun t w => run_complex_sum (P := Try.prog) w .add (.inl rfl) t .f64 _ _ _ _ _ _ hadd
          have hset := slotsTo_set (c := c) hlt2
          rw [sb1] at hset
          have HC6 : Hid (∀ u, Cx u g (pts c F (gAt c t)) → Cx (u.setCell ⟨g, b0, none⟩ (.complex .f64 (Fz (2 * at0 c b0 + 0)) (Fz ((2 * at0 (gAt c t) b0 + 1) * F + 2 * F)))) g (pts c F (gAt c (t + 1)))) := hid fun u hu => by
            have := hu.set b0 (cV (2 * at0 c b0 + 0, (2 * at0 (gAt c t) b0 + 1) * F + 2 * F))
            rw [← hput, Cx, List.map_set]
            exact this
          have HS6 : Hid (∀ u, Iz u g2 (slotsTo c t ++ List.replicate (F - t) 0) → Iz (u.setCell ⟨g2, t, none⟩ (.int .i64 b0)) g2 (slotsTo c (t + 1) ++ List.replicate (F - (t + 1)) 0)) := hid fun u hu => by
            have := hu.set t (iV b0)
            rw [← hset, Iz, List.map_set]
            exact this
          have hbc : (b0 : Int) < c.length := by omega
          have htl : (t : Int) < F := by omega
          have c0 : Hid (∀ u, Cx u g (pts c F (gAt c t)) → u.cell? ⟨g, b0, none⟩ = some (.complex .f64 (Fz (2 * at0 c b0)) (Fz ((2 * at0 (gAt c t) b0 + 1) * F)))) := hid fun u hu => by
            have := hu.at hbp
            rw [pts_get hbp] at this
            exact this
          have hlen2 : Hid (t < (slotsTo c t ++ List.replicate (F - t) 0).length) := hid (by rw [List.length_append, slotsTo_length, List.length_replicate]; omega)
          clear sb1 sb4 sb5 hGI hall hfi hbd hput hset hsum hadd hbp
          generalize Fz (2 * at0 c b0 + 0) = q3 at *
          generalize Fz ((2 * at0 (gAt c t) b0 + 1) * F + 2 * F) = q4 at *
          generalize Fz (2 * at0 c b0) = q1 at *
          generalize Fz ((2 * at0 (gAt c t) b0 + 1) * F) = q2 at *
          go_upto_region 16 with (go_at_call 17; refine (HFi.out wr (Ext.refl wr)).yields ?_; intro p)
          have hxp := ext_more wr p
          have hxw := hx.trans hxp
          have HC7 := hid (hC.out.ext hxp)
          have HS7 := hid (hS.out.ext hxp)
          clear hC hS hxp hx HFi
          generalize more wr p = w3 at *
          have d0 := Iz.at HS7.out hlen2.out
          have d1 := HS7.out.frozen t
          have d2 := HS7.out.lt
          go_upto_region 17 with (fail)
          refine wp_forget (fun u => Ext w u ∧ Hid (Cx u g (pts c F (gAt c t))) ∧ Hid (Iz u g2 (slotsTo c (t + 1) ++ List.replicate (F - (t + 1)) 0))) ⟨ext_by, hid (HC7.out.other hgg _ _), hid (HS6.out _ HS7.out)⟩ ?_
          rintro w4 ⟨hx4, hC4, hS4⟩
          have e0 := c0.out w4 hC4.out
          have e1' := hC4.out.frozen b0
          have e2' := hC4.out.lt
          clear d0 d1 d2 HC7 HS7 HS6 c0 hxw
          go_wp2
          all_goals
            go_roundw
            case rel => exact ⟨ext_by, t + 1, by go_num, by omega, hid (HC6.out _ hC4.out), hid (hS4.out.other (fun e => hgg e.symm) _ _)⟩
            case measure => simp [intOf]; omega
        · obtain rfl : t = F := by omega
          have HE : Hid (Ints wr (.slice (some ⟨g2, 0, none⟩) t t) (slotsL c)) := hid (by
            have h1 := hS.out
            rw [Nat.sub_self, List.replicate_zero, List.append_nil] at h1
            have h2 := h1.ints (by rw [slotsTo_length]; unfold maxLen; omega)
            rw [slotsTo_length] at h2
            rw [HSL.out]; exact h2)
          clear hC hS hC2 hS2 HB HG HSL HS
          go_wp2
          go_returns
          refine ⟨_, ?_, hx, HE.out⟩
          simp
theorem slots_all {c : List Int} {v : Value} {w : World} (h : Ints w v c) (s : List Int) (hs : s = if mayC c = true then slotsL c else []) : Calls Try.prog 12 #[v] w fun e w' => ∃ u, e = .returned u ∧ Ext w w' ∧ Ints w' u s := by
  subst hs
  cases hm : mayC c
  · refine (slots_none h hm).mono ?_
    rintro e w' ⟨rfl, hx⟩
    exact ⟨_, rfl, hx, none, 0, rfl, by simp, by unfold maxLen; omega, fun hp => by simp at hp⟩
  · refine (slots_any hm h).mono ?_
    rintro e w' ⟨u, rfl, hx, hI⟩
    exact ⟨u, rfl, hx, by rw [if_pos rfl]; exact hI⟩
end Go.Proofs.Ytiejnochddjlmaa
