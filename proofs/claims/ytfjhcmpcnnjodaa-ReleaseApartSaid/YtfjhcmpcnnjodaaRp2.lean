/- The document's slots (tontineref11.Slots). -/
import Derived.Test.YtfjhcmpcnnjodaaRp0
import Derived.Test.YtfjhcmpcnnjodaaRwL
import Derived.Deep.CutRange
import Derived.Deep.CutBlock
namespace Go.Proofs.Ytfjhcmpcnnjodaa
open Go.RowKit

theorem rslots_none {l : List Int} {v : Value} {w : World} (h : Ints w v l) (hm : mayC l = false) : Calls Try.prog 28 #[v] w (Yields w (.slice none 0 0)) := by
  have H := hid h
  have HM := hid hm
  clear h hm
  go_enter Try.func28, Try.ntmps28
  go_wp2_with (go_at_call 39; refine (mayC_to H.out HM.out).yields ?_; intro p)
  go_returns
  exact ⟨by simp, ext_by⟩

/-- How long a slice is. -/
def lenS : Value → Nat
  | .slice _ n _ => n
  | _ => 0
/-- Who is next as a number, -1 where none is. -/
def encB : Option Nat → Int
  | none => -1
  | some b => b
theorem best_mem {g c : List Int} : ∀ k b, bestTo g c k = some b → b < k
  | 0, b, h => by cases h
  | k + 1, b, h => by
    simp only [bestTo] at h
    split at h
    · have := best_mem k b h; omega
    · split at h
      · obtain rfl := Option.some.inj h; omega
      · rename_i b' h2
        split at h
        · obtain rfl := Option.some.inj h; omega
        · obtain rfl := Option.some.inj h; have := best_mem k _ h2; omega

set_option maxRecDepth 100000 in
set_option maxHeartbeats 4000000 in
theorem rslots_any {c : List Int} {v : Value} {w : World} (hm : mayC c = true) (h : Ints w v c) : Calls Try.prog 28 #[v] w fun e w' => ∃ u, e = .returned u ∧ Ext w w' ∧ Ints w' u (slotsL c) := by
  have hM := MayC.of hm
  obtain ⟨pa, ca, rfl, hca, hma⟩ := h.shape
  unfold maxLen at hma
  have H := hid h
  have HM := hid hM
  have Hm := hid hm
  have hn := hM.len
  have hpos := hM.pos
  have ht1 := hM.t1
  have ht64 := hM.t64
  have HBD : Hid (∀ x ∈ c, -100000 ≤ x ∧ x ≤ 100000) := hid fun x hx => by have := hM.lo x hx; have := hM.hi x hx; omega
  have hmk := run_makeI c.length hn
  have HT : Hid (∀ u, Ext w u → Calls Try.prog 40 #[.slice pa c.length ca] u (Yields u (.int .i64 (tot c)))) := hid fun u hu => total_any (h.ext hu) HBD.out (by omega)
  have HG := hid (gInv hM)
  have HS := hid (fun (t : Nat) (ht : (t : Int) < tot c) => slot_best hM ht)
  obtain ⟨F, hF⟩ : ∃ F : Nat, tot c = F := ⟨(tot c).toNat, by omega⟩
  have HSL : Hid (slotsL c = slotsTo c F) := hid (by unfold slotsL slotsTo; rw [hF]; rfl)
  rw [hF] at HT HG HS ht1 ht64
  clear h hm hM hF
  go_enter Try.func28, Try.ntmps28
  go_upto_region 4 with (go_at_call 39; refine (mayC_to H.out Hm.out).yields ?_; intro p)
  have hx0 := ext_more w p
  generalize more w p = w0 at *
  obtain ⟨g, hg⟩ : ∃ g, g = w0.heap.size := ⟨_, rfl⟩
  go_wp2
  refine wp_forget (fun u => Ext w u ∧ Hid (Iz u g (gAt c 0))) ⟨ext_by, hid (by
    have := Blk.new w0 3 (List.replicate c.length (Value.int .i64 0))
    rw [hg]
    unfold Iz gAt
    rw [List.map_replicate]
    simpa [iV] using this)⟩ ?_
  rintro w1 ⟨hx1, hg1⟩
  rw [← hg]
  have hgw : w.heap.size ≤ g := by have := hx0.size; omega
  clear hg hmk hx0
  go_loopw [3] (fun v3 wr => Ext w wr ∧ ∃ t : Nat, t ≤ F ∧ (∃ p q, v3 = .slice p t q) ∧ Hid (v3.ownBlock ≠ some g) ∧ Hid (wr.ownsRow w.heap.size 3 1 v3 t ((slotsTo c t).map iV)) ∧ Hid (Iz wr g (gAt c t))) (fun v3 _ => F - lenS v3)
  case atStart => exact ⟨hx1, 0, by omega, ⟨none, 0, rfl⟩, hid (by simp [Value.ownBlock]), hid (by simpa [slotsTo] using World.ownsRow_nil _ _ _ _), hg1⟩
  case round =>
    obtain ⟨hx, t, htF, ⟨p3, q3, rfl⟩, hdis, hO, hG⟩ := hrel
    by_cases hlt : t < F
    · obtain ⟨b0, sb1, sb2, sb3, sb4, sb5⟩ := HS.out t (by omega)
      have hGI := HG.out t (by omega)
      have hGl := hGI.len
      have hGb : ∀ j, 0 ≤ at0 (gAt c t) j ∧ at0 (gAt c t) j ≤ at0 c j ∧ at0 c j ≤ 64 := fun j => ⟨hGI.lo j, hGI.hi j, by
        by_cases hj : j < c.length
        · rw [at0_get hj]; exact HM.out.hi _ (List.getElem_mem hj)
        · rw [at0_nil (by omega)]; omega⟩
      have HGB := hid hGb
      have HGL := hid hGl
      have HSB := hid sb1
      have HS3 := hid sb3
      have HS5 := hid sb5
      clear hGI hGb hGl sb1 sb3 sb4 sb5
      generalize gAt c t = G at *
      have hlF : (t : Int) < F := by omega
      go_upto_region 6 with (go_at_call 40; refine (HT.out _ (by assumption)).yields ?_; intro p)
      have hxp := ext_more wr p
      have hxw := hx.trans hxp
      have HO2 := hid (owns_ext hO.out hxp)
      have HG2 : Hid (Iz (more wr p) g G) := hid (hG.out.ext hxp)
      clear hx hO hG hxp
      generalize more wr p = wA at *
      go_wp2
      go_loopw [5, 6] (fun v5 v6 wz => Ext wA wz ∧ ∃ (k : Nat) (m : Int), v6 = .int .i64 k ∧ v5 = .int .i64 m ∧ k ≤ c.length ∧ Hid (m = encB (bestTo G c k))) (fun _ v6 _ => (c.length - intOf v6).toNat)
      case atStart => exact ⟨Ext.refl _, 0, -1, rfl, rfl, by omega, hid rfl⟩
      case round =>
        obtain ⟨hx2, k, m, rfl, rfl, hk, hmb⟩ := hrel
        by_cases hlt2 : k < c.length
        · have hkG : k < G.length := by have := HGL.out; omega
          obtain ⟨ba, oa, rfl, a0⟩ := H.out.at k hlt2
          have r0 := more_cell ((hxw.trans hx2).cell a0)
          have r1 := more_cell (hx2.cell (HG2.out.at hkG))
          simp only [Nat.mul_one] at r0
          have hb0 := HGB.out k
          have hst : Hid (bestTo G c (k + 1) = if at0 c k ≤ at0 G k then bestTo G c k else match bestTo G c k with | none => some k | some b => if (2 * at0 G k + 1) * at0 c b < (2 * at0 G b + 1) * at0 c k then some k else some b) := hid rfl
          have i1 : (k : Int) < c.length := by omega
          rw [at0_get hlt2, at0_get hkG] at hb0 hst
          clear a0
          by_cases hA : c[k] ≤ G[k]
          · have hs3 : Hid (m = encB (bestTo G c (k + 1))) := hid (by rw [hst.out, if_pos hA]; exact hmb.out)
            clear hst hmb
            generalize c[k] = x at *
            generalize G[k] = y at *
            go_wp2
            ((first | refine wp_region_more (by kernel_rfl) (by kernel_rfl) ?_ | refine wp_region_ext (by kernel_rfl) (by kernel_rfl) ?_); (try dsimp only [append_cons', append_nil']); (repeat (go_big_quiet_step ((fail)))); refine wpQuiet_nil ?_; rintro _ ⟨pq, rfl⟩)
            go_wp2
            all_goals
              go_roundw
              case rel => exact ⟨hx2.trans (ext_more _ _), k + 1, m, by go_num, rfl, by omega, hs3⟩
              case measure => simp [intOf]; omega
          · have hst2 := hst.out
            rw [if_neg hA] at hst2
            clear hst
            cases hbk : bestTo G c k with
            | none =>
              rw [hbk] at hst2
              have hm1 : m = -1 := by rw [hmb.out, hbk]; rfl
              subst hm1
              have hs3 : Hid ((k : Int) = encB (bestTo G c (k + 1))) := hid (by rw [hst2]; rfl)
              clear hst2 hmb hbk
              generalize c[k] = x at *
              generalize G[k] = y at *
              go_wp2
              ((first | refine wp_region_more (by kernel_rfl) (by kernel_rfl) ?_ | refine wp_region_ext (by kernel_rfl) (by kernel_rfl) ?_); (try dsimp only [append_cons', append_nil']); (repeat (go_big_quiet_step ((fail)))); refine wpQuiet_nil ?_; rintro _ ⟨pq, rfl⟩)
              go_wp2
              ((first | refine wp_region_more (by kernel_rfl) (by kernel_rfl) ?_ | refine wp_region_ext (by kernel_rfl) (by kernel_rfl) ?_); (try dsimp only [append_cons', append_nil']); (repeat (go_big_quiet_step ((fail)))); refine wpQuiet_nil ?_; rintro _ ⟨pq, rfl⟩)
              go_wp2
              all_goals
                go_roundw
                case rel => exact ⟨ext_by, k + 1, _, by go_num, rfl, by omega, hs3⟩
                case measure => simp [intOf]; omega
            | some b =>
              have hbk2 := best_mem k b hbk
              rw [hbk] at hst2
              have hm1 : m = b := by rw [hmb.out, hbk]; rfl
              subst hm1
              have hbG : b < G.length := by omega
              have hbc : b < c.length := by omega
              obtain ⟨b7, o7, e7, a7⟩ := H.out.at b hbc
              injection e7 with e7
              injection e7 with e7a e7b
              subst e7a e7b
              have r2 := more_cell ((hxw.trans hx2).cell a7)
              have r3 := more_cell (hx2.cell (HG2.out.at hbG))
              simp only [Nat.mul_one] at r2
              have hb1 := HGB.out b
              simp only at hst2
              rw [at0_get hbc, at0_get hbG] at hb1 hst2
              have i2 : (b : Int) < c.length := by omega
              clear hmb hbk a7
              have i3 : ¬ (b : Int) < 0 := by omega
              have i4 : decide ((b : Int) < 0) = false := by simp
              generalize c[k] = x at *
              generalize G[k] = y at *
              generalize c[b] = x2 at *
              generalize G[b] = y2 at *
              have p1 : 0 ≤ (2 * y + 1) * x2 ∧ (2 * y + 1) * x2 ≤ 8256 := by
                refine ⟨Int.mul_nonneg (by omega) (by omega), ?_⟩
                calc (2 * y + 1) * x2 ≤ 129 * x2 := Int.mul_le_mul_of_nonneg_right (by omega) (by omega)
                  _ ≤ 8256 := by omega
              have p2 : 0 ≤ (2 * y2 + 1) * x ∧ (2 * y2 + 1) * x ≤ 8256 := by
                refine ⟨Int.mul_nonneg (by omega) (by omega), ?_⟩
                calc (2 * y2 + 1) * x ≤ 129 * x := Int.mul_le_mul_of_nonneg_right (by omega) (by omega)
                  _ ≤ 8256 := by omega
              by_cases hC : (2 * y + 1) * x2 < (2 * y2 + 1) * x
              · have hs3 : Hid ((k : Int) = encB (bestTo G c (k + 1))) := hid (by rw [hst2, if_pos hC]; rfl)
                have i5 : decide ((2 * y + 1) * x2 < (2 * y2 + 1) * x) = true := by simpa using hC
                clear hst2
                go_wp2
                ((first | refine wp_region_more (by kernel_rfl) (by kernel_rfl) ?_ | refine wp_region_ext (by kernel_rfl) (by kernel_rfl) ?_); (try dsimp only [append_cons', append_nil']); (repeat (go_big_quiet_step ((fail)))); refine wpQuiet_nil ?_; rintro _ ⟨pq, rfl⟩)
                go_wp2
                ((first | refine wp_region_more (by kernel_rfl) (by kernel_rfl) ?_ | refine wp_region_ext (by kernel_rfl) (by kernel_rfl) ?_); (try dsimp only [append_cons', append_nil']); (repeat (go_big_quiet_step ((fail)))); refine wpQuiet_nil ?_; rintro _ ⟨pq, rfl⟩)
                go_wp2
                all_goals
                  go_roundw
                  case rel => exact ⟨ext_by, k + 1, _, by go_num, rfl, by omega, hs3⟩
                  case measure => simp [intOf]; omega
              · have hs3 : Hid ((b : Int) = encB (bestTo G c (k + 1))) := hid (by rw [hst2, if_neg hC]; rfl)
                have i5 : decide ((2 * y + 1) * x2 < (2 * y2 + 1) * x) = false := by simpa using hC
                clear hst2
                go_wp2
                ((first | refine wp_region_more (by kernel_rfl) (by kernel_rfl) ?_ | refine wp_region_ext (by kernel_rfl) (by kernel_rfl) ?_); (try dsimp only [append_cons', append_nil']); (repeat (go_big_quiet_step ((fail)))); refine wpQuiet_nil ?_; rintro _ ⟨pq, rfl⟩)
                go_wp2
                ((first | refine wp_region_more (by kernel_rfl) (by kernel_rfl) ?_ | refine wp_region_ext (by kernel_rfl) (by kernel_rfl) ?_); (try dsimp only [append_cons', append_nil']); (repeat (go_big_quiet_step ((fail)))); refine wpQuiet_nil ?_; rintro _ ⟨pq, rfl⟩)
                go_wp2
                all_goals
                  go_roundw
                  case rel => exact ⟨ext_by, k + 1, _, by go_num, rfl, by omega, hs3⟩
                  case measure => simp [intOf]; omega
        · obtain rfl : k = c.length := by omega
          have hm1 : m = b0 := by
            rw [hmb.out]
            have := HS3.out
            unfold best at this
            rw [this]; rfl
          subst hm1
          have hbG : b0 < G.length := by have := HGL.out; omega
          have HG3 : Hid (Iz wr g G) := hid (HG2.out.ext hx2)
          have HO3 := hid (owns_ext HO2.out hx2)
          have c0 := HG3.out.at hbG
          have f0 := HG3.out.frozen b0
          have l0 := HG3.out.lt
          have hb0 := HGB.out b0
          rw [at0_get hbG] at hb0
          have HG4 : Hid (Iz (wr.setCell ⟨g, b0, none⟩ (.int .i64 (G[b0] + 1))) g (gAt c (t + 1))) := hid (by
            have := HG3.out.set b0 (.int .i64 (G[b0] + 1))
            rw [HS5.out, put1, at0_get hbG]
            unfold Iz
            rw [List.map_set]
            exact this)
          have HO4 : Hid ((wr.setCell ⟨g, b0, none⟩ (.int .i64 (G[b0] + 1))).ownsRow w.heap.size 3 1 (.slice p3 t q3) t ((slotsTo c t).map iV)) := hid (owns_keep HO3.out fun b hb => Below.heap_setCell _ _ _ _ (by
            intro e
            have e : b = g := by simpa using e
            subst e
            exact hdis.out hb))
          have hx3 : Ext w (wr.setCell ⟨g, b0, none⟩ (.int .i64 (G[b0] + 1))) := Ext.setCell (hxw.trans hx2) (by simpa using hgw) _
          clear HG3 HO3 HG2 HO2 hmb
          generalize G[b0] = y at *
          have i2 : (b0 : Int) < c.length := by omega
          go_upto_region 14 with (fail)
          generalize wr.setCell ⟨g, b0, none⟩ (.int .i64 (y + 1)) = w5 at *
          have hw5 := hx3.size
          have hg5 := HG4.out.lt
          go_wp2_with (at_builtin; refine wpList_push_two rfl (.tmp 69) (.tmp 71) 26 3 (.int .i64 0) 8 rfl Try.underlying26 infoI rfl (w := w5) (base := w.heap.size) (.int .i64 (b0 : Int)) HO4.out rfl (by unfold maxLen; omega) (by omega) hw5 (by rfl) (nb := w5.heap.size) (by rfl) rfl ?_; intro p6 c6 w6 ho6 hb6 hg6 hk6; have hx6 : Ext w w6 := ⟨Below.trans hx3.below hb6⟩; have HO6 := hid ho6; have HG6 : Hid (Iz w6 g (gAt c (t + 1))) := hid (by have h1 := hk6 g hg5 hdis.out; have h2 := HG4.out; unfold Iz Blk at h2 ⊢; rw [h1]; exact h2); have HD6 : Hid ((Value.slice p6 (t + 1) c6).ownBlock ≠ some g) := hid (fun e => (hg6 g e).elim (fun h1 => hdis.out h1) (fun h1 => by omega)); clear ho6 hb6 hg6 hk6)
          all_goals
            go_roundw
            case rel => exact ⟨hx6, t + 1, by omega, ⟨_, _, rfl⟩, HD6, hid (by rw [slotsTo_succ, HSB.out, ← iV_snoc]; exact HO6.out), HG6⟩
            case measure => simp [lenS]; omega
    · obtain rfl : t = F := by omega
      have hlf : decide ((t : Int) < (t : Int)) = false := by simp
      go_wp2_with (go_at_call 40; refine (HT.out _ (by assumption)).yields ?_; intro p)
      go_returns
      refine ⟨.slice p3 t q3, by simp, hx.more _, ?_⟩
      rw [HSL.out]
      exact ((owns_map _ _ hO.out).2).ext (ext_more _ _)
theorem rslots_all {c : List Int} {v : Value} {w : World} (h : Ints w v c) (s : List Int) (hs : s = if mayC c = true then slotsL c else []) : Calls Try.prog 28 #[v] w fun e w' => ∃ u, e = .returned u ∧ Ext w w' ∧ Ints w' u s := by
  subst hs
  cases hm : mayC c
  · refine (rslots_none h hm).mono ?_
    rintro e w' ⟨rfl, hx⟩
    exact ⟨_, rfl, hx, none, 0, rfl, by simp, by unfold maxLen; omega, fun hp => by simp at hp⟩
  · refine (rslots_any hm h).mono ?_
    rintro e w' ⟨u, rfl, hx, hI⟩
    exact ⟨u, rfl, hx, by rw [if_pos rfl]; exact hI⟩
end Go.Proofs.Ytfjhcmpcnnjodaa
