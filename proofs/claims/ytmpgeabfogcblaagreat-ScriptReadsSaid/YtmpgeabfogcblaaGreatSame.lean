/- The document's own SameConf, as a walk. -/
import Derived.Test.YtmpgeabfogcblaaGreatRefConf2
import Derived.Test.YtmpgeabfogcblaaGreatCf5
import Derived.Deep.RegionHeld3
import Derived.Deep.CutRange
import Derived.BigRegion
import Derived.RegionTactic
namespace Go.Proofs.YtmpgeabfogcblaaGreat
open Go.RowKit

theorem ne_of_eqf {a b : Int} (h : (a == b) = false) : (a != b) = true := by simp [bne, h]
theorem ne_of_eqt {a b : Int} (h : (a == b) = true) : (a != b) = false := by simp [bne, h]

set_option maxRecDepth 100000 in
set_option maxHeartbeats 8000000 in
theorem sameConf_any (w : World) (a b : Cnf) (pa da pb db : Value) (ha : ConfV w a pa da) (hb : ConfV w b pb db) :
    Calls Tryz.prog 21 #[confV a pa da, confV b pb db] w (Yields w (.bool (sameC a b))) := by
  obtain ⟨ppa, cpa, rfl, hpa1, hpa2⟩ := ha.plans.shape
  obtain ⟨pda, cda, rfl, hda1, hda2⟩ := ha.doms.shape
  obtain ⟨ppb, cpb, rfl, hpb1, hpb2⟩ := hb.plans.shape
  obtain ⟨pdb, cdb, rfl, hdb1, hdb2⟩ := hb.doms.shape
  unfold maxLen at hpa2 hda2 hpb2 hdb2
  have HA := hid ha
  have HB := hid hb
  clear ha hb
  cases h0 : a.frame == b.frame
  · have n0 := ne_of_eqf h0
    go_enter Tryz.func21, Tryz.ntmps21
    go_wp2_with fail
    go_returns
    exact ⟨by simp [sameC, h0], (by repeat (first | exact Ext.refl _ | assumption | refine Ext.more ?_ _ | refine Ext.drew ?_ | refine Ext.drewN ?_ _ | refine Ext.alloc ?_ _ | refine Ext.setCell ?_ (by simp; try omega) _ | refine Ext.trans ?_ (by assumption)))⟩
  have n0 := ne_of_eqt h0
  cases h1 : a.epoch == b.epoch
  · have n1 := ne_of_eqf h1
    go_enter Tryz.func21, Tryz.ntmps21
    go_wp2_with fail
    go_returns
    exact ⟨by simp [sameC, h1], (by repeat (first | exact Ext.refl _ | assumption | refine Ext.more ?_ _ | refine Ext.drew ?_ | refine Ext.drewN ?_ _ | refine Ext.alloc ?_ _ | refine Ext.setCell ?_ (by simp; try omega) _ | refine Ext.trans ?_ (by assumption)))⟩
  have n1 := ne_of_eqt h1
  have H0 := hid h0
  have H1 := hid h1
  clear h0 h1
  cases h2 : decide (a.plans = b.plans)
  · have Q2 := hid h2
    clear h2
    go_enter Tryz.func21, Tryz.ntmps21
    go_wp2_with (go_at_call 55; (with_reducible refine (sameRows_to Q2.out _ _ _ (HA.out.plans.ext (by repeat (first | exact Ext.refl _ | assumption | refine Ext.more ?_ _ | refine Ext.drew ?_ | refine Ext.drewN ?_ _ | refine Ext.alloc ?_ _ | refine Ext.setCell ?_ (by simp; try omega) _ | refine Ext.trans ?_ (by assumption)))) (HB.out.plans.ext (by repeat (first | exact Ext.refl _ | assumption | refine Ext.more ?_ _ | refine Ext.drew ?_ | refine Ext.drewN ?_ _ | refine Ext.alloc ?_ _ | refine Ext.setCell ?_ (by simp; try omega) _ | refine Ext.trans ?_ (by assumption))))).yields ?_); intro p1)
    go_returns
    exact ⟨by simp [sameC, Q2.out], (by repeat (first | exact Ext.refl _ | assumption | refine Ext.more ?_ _ | refine Ext.drew ?_ | refine Ext.drewN ?_ _ | refine Ext.alloc ?_ _ | refine Ext.setCell ?_ (by simp; try omega) _ | refine Ext.trans ?_ (by assumption)))⟩
  have Q2 := hid h2
  clear h2
  by_cases hl : a.doms.length = b.doms.length
  case neg =>
    have l1 : ((a.doms.length : Int) == (b.doms.length : Int)) = false := by simp; omega
    have l2 : ((a.doms.length : Int) != (b.doms.length : Int)) = true := by simp; omega
    have HL := hid (sameAll_len _ _ hl)
    clear hl
    go_enter Tryz.func21, Tryz.ntmps21
    go_wp2_with (go_at_call 55; (with_reducible refine (sameRows_to Q2.out _ _ _ (HA.out.plans.ext (by repeat (first | exact Ext.refl _ | assumption | refine Ext.more ?_ _ | refine Ext.drew ?_ | refine Ext.drewN ?_ _ | refine Ext.alloc ?_ _ | refine Ext.setCell ?_ (by simp; try omega) _ | refine Ext.trans ?_ (by assumption)))) (HB.out.plans.ext (by repeat (first | exact Ext.refl _ | assumption | refine Ext.more ?_ _ | refine Ext.drew ?_ | refine Ext.drewN ?_ _ | refine Ext.alloc ?_ _ | refine Ext.setCell ?_ (by simp; try omega) _ | refine Ext.trans ?_ (by assumption))))).yields ?_); intro p1)
    go_returns
    exact ⟨by simp [sameC, HL.out], (by repeat (first | exact Ext.refl _ | assumption | refine Ext.more ?_ _ | refine Ext.drew ?_ | refine Ext.drewN ?_ _ | refine Ext.alloc ?_ _ | refine Ext.setCell ?_ (by simp; try omega) _ | refine Ext.trans ?_ (by assumption)))⟩
  have l1 : ((a.doms.length : Int) == (b.doms.length : Int)) = true := by simp; omega
  have l2 : ((a.doms.length : Int) != (b.doms.length : Int)) = false := by simp; omega
  have HL := hid hl
  clear hl
  go_enter Tryz.func21, Tryz.ntmps21
  go_wp2_with (go_at_call 55; (with_reducible refine (sameRows_to Q2.out _ _ _ (HA.out.plans.ext (by repeat (first | exact Ext.refl _ | assumption | refine Ext.more ?_ _ | refine Ext.drew ?_ | refine Ext.drewN ?_ _ | refine Ext.alloc ?_ _ | refine Ext.setCell ?_ (by simp; try omega) _ | refine Ext.trans ?_ (by assumption)))) (HB.out.plans.ext (by repeat (first | exact Ext.refl _ | assumption | refine Ext.more ?_ _ | refine Ext.drew ?_ | refine Ext.drewN ?_ _ | refine Ext.alloc ?_ _ | refine Ext.setCell ?_ (by simp; try omega) _ | refine Ext.trans ?_ (by assumption))))).yields ?_); intro p1)
  have hbx := fun (w' : World) (h : Ext ((w.alloc (.cells #[.int .i64 a.frame, .int .i64 a.epoch, .slice ppa a.plans.length cpa, .slice pda a.doms.length cda] 26 (0, 0))).alloc (.cells #[.int .i64 b.frame, .int .i64 b.epoch, .slice ppb b.plans.length cpb, .slice pdb b.doms.length cdb] 26 (0, 0))) w') => And.intro (boxed (Ext.trans (Ext.alloc (Ext.refl _) _) h) 3 (by simp)) (boxed h 3 (by simp))
  have hx0 : Ext w ((w.alloc (.cells #[.int .i64 a.frame, .int .i64 a.epoch, .slice ppa a.plans.length cpa, .slice pda a.doms.length cda] 26 (0, 0))).alloc (.cells #[.int .i64 b.frame, .int .i64 b.epoch, .slice ppb b.plans.length cpb, .slice pdb b.doms.length cdb] 26 (0, 0))) := Ext.alloc (Ext.alloc (Ext.refl _) _) _
  generalize (w.alloc (.cells #[.int .i64 a.frame, .int .i64 a.epoch, .slice ppa a.plans.length cpa, .slice pda a.doms.length cda] 26 (0, 0))).alloc (.cells #[.int .i64 b.frame, .int .i64 b.epoch, .slice ppb b.plans.length cpb, .slice pdb b.doms.length cdb] 26 (0, 0)) = W1 at *
  simp only [List.getElem?_toArray, List.getElem?_cons_succ, List.getElem?_cons_zero, World.size_alloc] at hbx
  have HBX := hid hbx
  clear hbx
  go_loopw [5] (fun v5 wr => Ext W1 wr ∧ ∃ k : Nat, v5 = .int .i64 k ∧ k ≤ a.doms.length ∧ Hid (sameAll a.doms b.doms = sameAll (a.doms.drop k) (b.doms.drop k))) (fun v5 _ => (a.doms.length - intOf v5).toNat)
  case atStart => exact ⟨(by repeat (first | exact Ext.refl _ | refine Ext.more ?_ _)), 0, rfl, by omega, rfl⟩
  case round =>
    obtain ⟨hx, k, rfl, hk, ht⟩ := hrel
    obtain ⟨b2, b3⟩ := HBX.out _ hx
    have hw := hx0.trans hx
    have hbs : w.heap.size + 1 < wr.heap.size := World.block_lt_of_cell? _ _ b3
    have hbs' : w.heap.size < wr.heap.size := by omega
    by_cases hlt : k < a.doms.length
    case neg =>
      obtain rfl : k = a.doms.length := by omega
      have he := ht.out
      rw [List.drop_length, HL.out, List.drop_length] at he
      have HE := hid he
      clear he
      go_wp2
      go_returns
      exact ⟨by simp only [sameC, H0.out, H1.out, Q2.out, HE.out]; simp [sameAll], hw⟩
    obtain ⟨ba, oa, rfl, ar, ae, DA, na, ea, -⟩ := HA.out.doms.at k hlt
    obtain ⟨bb, ob, rfl, br, be, DB, nb, eb, -⟩ := HB.out.doms.at k (by have := HL.out; omega)
    have hs : Hid (sameAll a.doms b.doms = (sameD a.doms[k] (b.doms[k]'(by have := HL.out; omega)) && sameAll (a.doms.drop (k + 1)) (b.doms.drop (k + 1)))) := by
      unfold Hid
      rw [ht.out, List.drop_eq_getElem_cons hlt, List.drop_eq_getElem_cons (show k < b.doms.length by have := HL.out; omega)]
      rfl
    obtain ⟨ap1, ac1, rfl, -, -⟩ := na.shape
    obtain ⟨ap2, ac2, rfl, -, -⟩ := ea.shape
    obtain ⟨bp1, bc1, rfl, -, -⟩ := nb.shape
    obtain ⟨bp2, bc2, rfl, -, -⟩ := eb.shape
    have NA := hid na
    have NB := hid nb
    have EA := hid ea
    have EB := hid eb
    have CA := hid (DA.ext hw)
    have CB := hid (DB.ext hw)
    clear DA DB na nb ea eb
    generalize a.doms[k] = x at *
    generalize b.doms[k]'(by have := HL.out; omega) = y at *
    have i1 : (k : Int) < a.doms.length := by omega
    have i2 : (k : Int) < b.doms.length := by have := HL.out; omega
    have i3 : (0 : Int) ≤ k := by omega
    have i4 : (k : Int).toNat = k := rfl
    go_upto_region 6 with (fail)
    go_cut [6, 7] from 37 to 116 (fun s6 s7 wx => ∃ p6 p7 : Nat, s6 = .pointer (some ⟨p6, 0, none⟩) ∧ s7 = .pointer (some ⟨p7, 0, none⟩) ∧ Ext W1 wx ∧ DomC wx p6 0 x (.slice ap1 x.routes.length ac1) (.slice ap2 x.release.length ac2) ∧ DomC wx p7 0 y (.slice bp1 y.routes.length bc1) (.slice bp2 y.release.length bc2))
    case first =>
      obtain ⟨c0, c1, c2, c3, c4, c5, c6, c7, c8, c9⟩ := CA.out
      obtain ⟨d0, d1, d2, d3, d4, d5, d6, d7, d8, d9⟩ := CB.out
      have hba : ba < wr.heap.size := World.block_lt_of_cell? _ _ c0
      have hbb : bb < wr.heap.size := World.block_lt_of_cell? _ _ d0
      go_region_held3 (fun wx => Ext wr wx ∧ wx.cell? ⟨w.heap.size, 3, none⟩ = some (.slice (some ⟨ba, oa, none⟩) a.doms.length cda) ∧ wx.cell? ⟨w.heap.size + 1, 3, none⟩ = some (.slice (some ⟨bb, ob, none⟩) b.doms.length cdb) ∧ wx.cell? ⟨ba, oa + k * 10, none⟩ = some (.int .i64 x.level) ∧ wx.cell? ⟨ba, oa + k * 10 + 1, none⟩ = some (.int .u64 x.cats) ∧ wx.cell? ⟨ba, oa + k * 10 + 2, none⟩ = some (.slice ap1 x.routes.length ac1) ∧ wx.cell? ⟨ba, oa + k * 10 + 3, none⟩ = some (.slice ap2 x.release.length ac2) ∧ wx.cell? ⟨ba, oa + k * 10 + 4, none⟩ = some (.int .i64 x.to) ∧ wx.cell? ⟨ba, oa + k * 10 + 5, none⟩ = some (.int .i64 x.threads) ∧ wx.cell? ⟨ba, oa + k * 10 + 6, none⟩ = some (.int .i64 x.groups) ∧ wx.cell? ⟨ba, oa + k * 10 + 7, none⟩ = some (.int .i64 x.ring) ∧ wx.cell? ⟨ba, oa + k * 10 + 8, none⟩ = some (.int .i64 x.sends) ∧ wx.cell? ⟨ba, oa + k * 10 + 9, none⟩ = some (.int .i64 x.box) ∧ wx.cell? ⟨bb, ob + k * 10, none⟩ = some (.int .i64 y.level) ∧ wx.cell? ⟨bb, ob + k * 10 + 1, none⟩ = some (.int .u64 y.cats) ∧ wx.cell? ⟨bb, ob + k * 10 + 2, none⟩ = some (.slice bp1 y.routes.length bc1) ∧ wx.cell? ⟨bb, ob + k * 10 + 3, none⟩ = some (.slice bp2 y.release.length bc2) ∧ wx.cell? ⟨bb, ob + k * 10 + 4, none⟩ = some (.int .i64 y.to) ∧ wx.cell? ⟨bb, ob + k * 10 + 5, none⟩ = some (.int .i64 y.threads) ∧ wx.cell? ⟨bb, ob + k * 10 + 6, none⟩ = some (.int .i64 y.groups) ∧ wx.cell? ⟨bb, ob + k * 10 + 7, none⟩ = some (.int .i64 y.ring) ∧ wx.cell? ⟨bb, ob + k * 10 + 8, none⟩ = some (.int .i64 y.sends) ∧ wx.cell? ⟨bb, ob + k * 10 + 9, none⟩ = some (.int .i64 y.box))
        (first | (go_split_ands; with_reducible exact ⟨Ext.trans (by assumption) hq, Ext.cell hq (by assumption), Ext.cell hq (by assumption), Ext.cell hq (by assumption), Ext.cell hq (by assumption), Ext.cell hq (by assumption), Ext.cell hq (by assumption), Ext.cell hq (by assumption), Ext.cell hq (by assumption), Ext.cell hq (by assumption), Ext.cell hq (by assumption), Ext.cell hq (by assumption), Ext.cell hq (by assumption), Ext.cell hq (by assumption), Ext.cell hq (by assumption), Ext.cell hq (by assumption), Ext.cell hq (by assumption), Ext.cell hq (by assumption), Ext.cell hq (by assumption), Ext.cell hq (by assumption), Ext.cell hq (by assumption), Ext.cell hq (by assumption), Ext.cell hq (by assumption)⟩) | (go_split_ands; with_reducible exact ⟨Ext.alloc (by assumption) _, Ext.cell (Ext.alloc (Ext.refl _) _) (by assumption), Ext.cell (Ext.alloc (Ext.refl _) _) (by assumption), Ext.cell (Ext.alloc (Ext.refl _) _) (by assumption), Ext.cell (Ext.alloc (Ext.refl _) _) (by assumption), Ext.cell (Ext.alloc (Ext.refl _) _) (by assumption), Ext.cell (Ext.alloc (Ext.refl _) _) (by assumption), Ext.cell (Ext.alloc (Ext.refl _) _) (by assumption), Ext.cell (Ext.alloc (Ext.refl _) _) (by assumption), Ext.cell (Ext.alloc (Ext.refl _) _) (by assumption), Ext.cell (Ext.alloc (Ext.refl _) _) (by assumption), Ext.cell (Ext.alloc (Ext.refl _) _) (by assumption), Ext.cell (Ext.alloc (Ext.refl _) _) (by assumption), Ext.cell (Ext.alloc (Ext.refl _) _) (by assumption), Ext.cell (Ext.alloc (Ext.refl _) _) (by assumption), Ext.cell (Ext.alloc (Ext.refl _) _) (by assumption), Ext.cell (Ext.alloc (Ext.refl _) _) (by assumption), Ext.cell (Ext.alloc (Ext.refl _) _) (by assumption), Ext.cell (Ext.alloc (Ext.refl _) _) (by assumption), Ext.cell (Ext.alloc (Ext.refl _) _) (by assumption), Ext.cell (Ext.alloc (Ext.refl _) _) (by assumption), Ext.cell (Ext.alloc (Ext.refl _) _) (by assumption), Ext.cell (Ext.alloc (Ext.refl _) _) (by assumption)⟩) | exact ⟨Ext.drew (Ext.refl _), Ext.cell (Ext.drew (Ext.refl _)) b2, Ext.cell (Ext.drew (Ext.refl _)) b3, Ext.cell (Ext.drew (Ext.refl _)) c0, Ext.cell (Ext.drew (Ext.refl _)) c1, Ext.cell (Ext.drew (Ext.refl _)) c2, Ext.cell (Ext.drew (Ext.refl _)) c3, Ext.cell (Ext.drew (Ext.refl _)) c4, Ext.cell (Ext.drew (Ext.refl _)) c5, Ext.cell (Ext.drew (Ext.refl _)) c6, Ext.cell (Ext.drew (Ext.refl _)) c7, Ext.cell (Ext.drew (Ext.refl _)) c8, Ext.cell (Ext.drew (Ext.refl _)) c9, Ext.cell (Ext.drew (Ext.refl _)) d0, Ext.cell (Ext.drew (Ext.refl _)) d1, Ext.cell (Ext.drew (Ext.refl _)) d2, Ext.cell (Ext.drew (Ext.refl _)) d3, Ext.cell (Ext.drew (Ext.refl _)) d4, Ext.cell (Ext.drew (Ext.refl _)) d5, Ext.cell (Ext.drew (Ext.refl _)) d6, Ext.cell (Ext.drew (Ext.refl _)) d7, Ext.cell (Ext.drew (Ext.refl _)) d8, Ext.cell (Ext.drew (Ext.refl _)) d9⟩ | (go_split_ands; refine ⟨(by repeat (first | exact Ext.refl _ | assumption | refine Ext.more ?_ _ | refine Ext.drew ?_ | refine Ext.drewN ?_ _ | refine Ext.alloc ?_ _ | refine Ext.setCell ?_ (by simp; try omega) _ | refine Ext.trans ?_ (by assumption))), ?_, ?_, ?_, ?_, ?_, ?_, ?_, ?_, ?_, ?_, ?_, ?_, ?_, ?_, ?_, ?_, ?_, ?_, ?_, ?_, ?_, ?_⟩ <;> go_keep)) (fail)
      all_goals
        go_split_ands
        go_wp2
        go_meet
        case rel => exact ⟨_, _, rfl, rfl, (by repeat (first | exact Ext.refl _ | assumption | refine Ext.more ?_ _ | refine Ext.drew ?_ | refine Ext.drewN ?_ _ | refine Ext.alloc ?_ _ | refine Ext.setCell ?_ (by simp; try omega) _ | refine Ext.trans ?_ (by assumption))), ⟨by simp, by simp, by simp, by simp, by simp, by simp, by simp, by simp, by simp, by simp⟩, ⟨by simp, by simp, by simp, by simp, by simp, by simp, by simp, by simp, by simp, by simp⟩⟩
    case rest =>
      obtain ⟨p6, p7, rfl, rfl, hxc, D6, D7⟩ := hcut
      have hwc := hx0.trans hxc
      obtain ⟨c0, c1, c2, c3, c4, c5, c6, c7, c8, c9⟩ := D6
      obtain ⟨d0, d1, d2, d3, d4, d5, d6, d7, d8, d9⟩ := D7
      have hp6 : p6 < wc.heap.size := World.block_lt_of_cell? _ _ c0
      have hp7 : p7 < wc.heap.size := World.block_lt_of_cell? _ _ d0
      clear hx hw b2 b3 hbs hbs' CA CB
      cases h0 : eqB x.level x.cats y.level y.cats
      · have K0 := hid h0
        skip
        go_wp2_with fail
        go_returns
        exact ⟨by simp [sameC, hs.out, sameD, K0.out], (by repeat (first | exact Ext.refl _ | assumption | refine Ext.more ?_ _ | refine Ext.drew ?_ | refine Ext.drewN ?_ _ | refine Ext.alloc ?_ _ | refine Ext.setCell ?_ (by simp; try omega) _ | refine Ext.trans ?_ (by assumption)))⟩
      have K0 := hid h0
      skip
      cases h1 : decide (x.routes = y.routes)
      · have K1 := hid h1
        clear h1
        go_wp2_with (first | (go_at_call 55; (with_reducible refine (sameRows_to K1.out _ _ _ (NA.out.ext (by repeat (first | exact Ext.refl _ | assumption | refine Ext.more ?_ _ | refine Ext.drew ?_ | refine Ext.drewN ?_ _ | refine Ext.alloc ?_ _ | refine Ext.setCell ?_ (by simp; try omega) _ | refine Ext.trans ?_ (by assumption)))) (NB.out.ext (by repeat (first | exact Ext.refl _ | assumption | refine Ext.more ?_ _ | refine Ext.drew ?_ | refine Ext.drewN ?_ _ | refine Ext.alloc ?_ _ | refine Ext.setCell ?_ (by simp; try omega) _ | refine Ext.trans ?_ (by assumption))))).yields ?_); intro p1))
        go_returns
        exact ⟨by simp [sameC, hs.out, sameD, K0.out, K1.out], (by repeat (first | exact Ext.refl _ | assumption | refine Ext.more ?_ _ | refine Ext.drew ?_ | refine Ext.drewN ?_ _ | refine Ext.alloc ?_ _ | refine Ext.setCell ?_ (by simp; try omega) _ | refine Ext.trans ?_ (by assumption)))⟩
      have K1 := hid h1
      clear h1
      cases h2 : decide (x.release = y.release)
      · have K2 := hid h2
        clear h2
        go_wp2_with (first | (go_at_call 55; (with_reducible refine (sameRows_to K1.out _ _ _ (NA.out.ext (by repeat (first | exact Ext.refl _ | assumption | refine Ext.more ?_ _ | refine Ext.drew ?_ | refine Ext.drewN ?_ _ | refine Ext.alloc ?_ _ | refine Ext.setCell ?_ (by simp; try omega) _ | refine Ext.trans ?_ (by assumption)))) (NB.out.ext (by repeat (first | exact Ext.refl _ | assumption | refine Ext.more ?_ _ | refine Ext.drew ?_ | refine Ext.drewN ?_ _ | refine Ext.alloc ?_ _ | refine Ext.setCell ?_ (by simp; try omega) _ | refine Ext.trans ?_ (by assumption))))).yields ?_); intro p1) | (go_at_call 56; (with_reducible refine (sameInts_to K2.out _ _ _ (EA.out.ext (by repeat (first | exact Ext.refl _ | assumption | refine Ext.more ?_ _ | refine Ext.drew ?_ | refine Ext.drewN ?_ _ | refine Ext.alloc ?_ _ | refine Ext.setCell ?_ (by simp; try omega) _ | refine Ext.trans ?_ (by assumption)))) (EB.out.ext (by repeat (first | exact Ext.refl _ | assumption | refine Ext.more ?_ _ | refine Ext.drew ?_ | refine Ext.drewN ?_ _ | refine Ext.alloc ?_ _ | refine Ext.setCell ?_ (by simp; try omega) _ | refine Ext.trans ?_ (by assumption))))).yields ?_); intro p2))
        go_returns
        exact ⟨by simp [sameC, hs.out, sameD, K0.out, K1.out, K2.out], (by repeat (first | exact Ext.refl _ | assumption | refine Ext.more ?_ _ | refine Ext.drew ?_ | refine Ext.drewN ?_ _ | refine Ext.alloc ?_ _ | refine Ext.setCell ?_ (by simp; try omega) _ | refine Ext.trans ?_ (by assumption)))⟩
      have K2 := hid h2
      clear h2
      cases h3 : x.to == y.to
      · have K3 := hid h3
        have n13 := ne_of_eqf h3
        go_wp2_with (first | (go_at_call 55; (with_reducible refine (sameRows_to K1.out _ _ _ (NA.out.ext (by repeat (first | exact Ext.refl _ | assumption | refine Ext.more ?_ _ | refine Ext.drew ?_ | refine Ext.drewN ?_ _ | refine Ext.alloc ?_ _ | refine Ext.setCell ?_ (by simp; try omega) _ | refine Ext.trans ?_ (by assumption)))) (NB.out.ext (by repeat (first | exact Ext.refl _ | assumption | refine Ext.more ?_ _ | refine Ext.drew ?_ | refine Ext.drewN ?_ _ | refine Ext.alloc ?_ _ | refine Ext.setCell ?_ (by simp; try omega) _ | refine Ext.trans ?_ (by assumption))))).yields ?_); intro p1) | (go_at_call 56; (with_reducible refine (sameInts_to K2.out _ _ _ (EA.out.ext (by repeat (first | exact Ext.refl _ | assumption | refine Ext.more ?_ _ | refine Ext.drew ?_ | refine Ext.drewN ?_ _ | refine Ext.alloc ?_ _ | refine Ext.setCell ?_ (by simp; try omega) _ | refine Ext.trans ?_ (by assumption)))) (EB.out.ext (by repeat (first | exact Ext.refl _ | assumption | refine Ext.more ?_ _ | refine Ext.drew ?_ | refine Ext.drewN ?_ _ | refine Ext.alloc ?_ _ | refine Ext.setCell ?_ (by simp; try omega) _ | refine Ext.trans ?_ (by assumption))))).yields ?_); intro p2))
        go_returns
        exact ⟨by simp [sameC, hs.out, sameD, K0.out, K1.out, K2.out, K3.out], (by repeat (first | exact Ext.refl _ | assumption | refine Ext.more ?_ _ | refine Ext.drew ?_ | refine Ext.drewN ?_ _ | refine Ext.alloc ?_ _ | refine Ext.setCell ?_ (by simp; try omega) _ | refine Ext.trans ?_ (by assumption)))⟩
      have K3 := hid h3
      have n13 := ne_of_eqt h3
      cases h4 : x.threads == y.threads
      · have K4 := hid h4
        have n14 := ne_of_eqf h4
        go_wp2_with (first | (go_at_call 55; (with_reducible refine (sameRows_to K1.out _ _ _ (NA.out.ext (by repeat (first | exact Ext.refl _ | assumption | refine Ext.more ?_ _ | refine Ext.drew ?_ | refine Ext.drewN ?_ _ | refine Ext.alloc ?_ _ | refine Ext.setCell ?_ (by simp; try omega) _ | refine Ext.trans ?_ (by assumption)))) (NB.out.ext (by repeat (first | exact Ext.refl _ | assumption | refine Ext.more ?_ _ | refine Ext.drew ?_ | refine Ext.drewN ?_ _ | refine Ext.alloc ?_ _ | refine Ext.setCell ?_ (by simp; try omega) _ | refine Ext.trans ?_ (by assumption))))).yields ?_); intro p1) | (go_at_call 56; (with_reducible refine (sameInts_to K2.out _ _ _ (EA.out.ext (by repeat (first | exact Ext.refl _ | assumption | refine Ext.more ?_ _ | refine Ext.drew ?_ | refine Ext.drewN ?_ _ | refine Ext.alloc ?_ _ | refine Ext.setCell ?_ (by simp; try omega) _ | refine Ext.trans ?_ (by assumption)))) (EB.out.ext (by repeat (first | exact Ext.refl _ | assumption | refine Ext.more ?_ _ | refine Ext.drew ?_ | refine Ext.drewN ?_ _ | refine Ext.alloc ?_ _ | refine Ext.setCell ?_ (by simp; try omega) _ | refine Ext.trans ?_ (by assumption))))).yields ?_); intro p2))
        go_returns
        exact ⟨by simp [sameC, hs.out, sameD, K0.out, K1.out, K2.out, K3.out, K4.out], (by repeat (first | exact Ext.refl _ | assumption | refine Ext.more ?_ _ | refine Ext.drew ?_ | refine Ext.drewN ?_ _ | refine Ext.alloc ?_ _ | refine Ext.setCell ?_ (by simp; try omega) _ | refine Ext.trans ?_ (by assumption)))⟩
      have K4 := hid h4
      have n14 := ne_of_eqt h4
      cases h5 : x.groups == y.groups
      · have K5 := hid h5
        have n15 := ne_of_eqf h5
        go_wp2_with (first | (go_at_call 55; (with_reducible refine (sameRows_to K1.out _ _ _ (NA.out.ext (by repeat (first | exact Ext.refl _ | assumption | refine Ext.more ?_ _ | refine Ext.drew ?_ | refine Ext.drewN ?_ _ | refine Ext.alloc ?_ _ | refine Ext.setCell ?_ (by simp; try omega) _ | refine Ext.trans ?_ (by assumption)))) (NB.out.ext (by repeat (first | exact Ext.refl _ | assumption | refine Ext.more ?_ _ | refine Ext.drew ?_ | refine Ext.drewN ?_ _ | refine Ext.alloc ?_ _ | refine Ext.setCell ?_ (by simp; try omega) _ | refine Ext.trans ?_ (by assumption))))).yields ?_); intro p1) | (go_at_call 56; (with_reducible refine (sameInts_to K2.out _ _ _ (EA.out.ext (by repeat (first | exact Ext.refl _ | assumption | refine Ext.more ?_ _ | refine Ext.drew ?_ | refine Ext.drewN ?_ _ | refine Ext.alloc ?_ _ | refine Ext.setCell ?_ (by simp; try omega) _ | refine Ext.trans ?_ (by assumption)))) (EB.out.ext (by repeat (first | exact Ext.refl _ | assumption | refine Ext.more ?_ _ | refine Ext.drew ?_ | refine Ext.drewN ?_ _ | refine Ext.alloc ?_ _ | refine Ext.setCell ?_ (by simp; try omega) _ | refine Ext.trans ?_ (by assumption))))).yields ?_); intro p2))
        go_returns
        exact ⟨by simp [sameC, hs.out, sameD, K0.out, K1.out, K2.out, K3.out, K4.out, K5.out], (by repeat (first | exact Ext.refl _ | assumption | refine Ext.more ?_ _ | refine Ext.drew ?_ | refine Ext.drewN ?_ _ | refine Ext.alloc ?_ _ | refine Ext.setCell ?_ (by simp; try omega) _ | refine Ext.trans ?_ (by assumption)))⟩
      have K5 := hid h5
      have n15 := ne_of_eqt h5
      cases h6 : x.ring == y.ring
      · have K6 := hid h6
        have n16 := ne_of_eqf h6
        go_wp2_with (first | (go_at_call 55; (with_reducible refine (sameRows_to K1.out _ _ _ (NA.out.ext (by repeat (first | exact Ext.refl _ | assumption | refine Ext.more ?_ _ | refine Ext.drew ?_ | refine Ext.drewN ?_ _ | refine Ext.alloc ?_ _ | refine Ext.setCell ?_ (by simp; try omega) _ | refine Ext.trans ?_ (by assumption)))) (NB.out.ext (by repeat (first | exact Ext.refl _ | assumption | refine Ext.more ?_ _ | refine Ext.drew ?_ | refine Ext.drewN ?_ _ | refine Ext.alloc ?_ _ | refine Ext.setCell ?_ (by simp; try omega) _ | refine Ext.trans ?_ (by assumption))))).yields ?_); intro p1) | (go_at_call 56; (with_reducible refine (sameInts_to K2.out _ _ _ (EA.out.ext (by repeat (first | exact Ext.refl _ | assumption | refine Ext.more ?_ _ | refine Ext.drew ?_ | refine Ext.drewN ?_ _ | refine Ext.alloc ?_ _ | refine Ext.setCell ?_ (by simp; try omega) _ | refine Ext.trans ?_ (by assumption)))) (EB.out.ext (by repeat (first | exact Ext.refl _ | assumption | refine Ext.more ?_ _ | refine Ext.drew ?_ | refine Ext.drewN ?_ _ | refine Ext.alloc ?_ _ | refine Ext.setCell ?_ (by simp; try omega) _ | refine Ext.trans ?_ (by assumption))))).yields ?_); intro p2))
        go_returns
        exact ⟨by simp [sameC, hs.out, sameD, K0.out, K1.out, K2.out, K3.out, K4.out, K5.out, K6.out], (by repeat (first | exact Ext.refl _ | assumption | refine Ext.more ?_ _ | refine Ext.drew ?_ | refine Ext.drewN ?_ _ | refine Ext.alloc ?_ _ | refine Ext.setCell ?_ (by simp; try omega) _ | refine Ext.trans ?_ (by assumption)))⟩
      have K6 := hid h6
      have n16 := ne_of_eqt h6
      cases h7 : x.sends == y.sends
      · have K7 := hid h7
        have n17 := ne_of_eqf h7
        go_wp2_with (first | (go_at_call 55; (with_reducible refine (sameRows_to K1.out _ _ _ (NA.out.ext (by repeat (first | exact Ext.refl _ | assumption | refine Ext.more ?_ _ | refine Ext.drew ?_ | refine Ext.drewN ?_ _ | refine Ext.alloc ?_ _ | refine Ext.setCell ?_ (by simp; try omega) _ | refine Ext.trans ?_ (by assumption)))) (NB.out.ext (by repeat (first | exact Ext.refl _ | assumption | refine Ext.more ?_ _ | refine Ext.drew ?_ | refine Ext.drewN ?_ _ | refine Ext.alloc ?_ _ | refine Ext.setCell ?_ (by simp; try omega) _ | refine Ext.trans ?_ (by assumption))))).yields ?_); intro p1) | (go_at_call 56; (with_reducible refine (sameInts_to K2.out _ _ _ (EA.out.ext (by repeat (first | exact Ext.refl _ | assumption | refine Ext.more ?_ _ | refine Ext.drew ?_ | refine Ext.drewN ?_ _ | refine Ext.alloc ?_ _ | refine Ext.setCell ?_ (by simp; try omega) _ | refine Ext.trans ?_ (by assumption)))) (EB.out.ext (by repeat (first | exact Ext.refl _ | assumption | refine Ext.more ?_ _ | refine Ext.drew ?_ | refine Ext.drewN ?_ _ | refine Ext.alloc ?_ _ | refine Ext.setCell ?_ (by simp; try omega) _ | refine Ext.trans ?_ (by assumption))))).yields ?_); intro p2))
        go_returns
        exact ⟨by simp [sameC, hs.out, sameD, K0.out, K1.out, K2.out, K3.out, K4.out, K5.out, K6.out, K7.out], (by repeat (first | exact Ext.refl _ | assumption | refine Ext.more ?_ _ | refine Ext.drew ?_ | refine Ext.drewN ?_ _ | refine Ext.alloc ?_ _ | refine Ext.setCell ?_ (by simp; try omega) _ | refine Ext.trans ?_ (by assumption)))⟩
      have K7 := hid h7
      have n17 := ne_of_eqt h7
      cases h8 : x.box == y.box
      · have K8 := hid h8
        have n18 := ne_of_eqf h8
        go_wp2_with (first | (go_at_call 55; (with_reducible refine (sameRows_to K1.out _ _ _ (NA.out.ext (by repeat (first | exact Ext.refl _ | assumption | refine Ext.more ?_ _ | refine Ext.drew ?_ | refine Ext.drewN ?_ _ | refine Ext.alloc ?_ _ | refine Ext.setCell ?_ (by simp; try omega) _ | refine Ext.trans ?_ (by assumption)))) (NB.out.ext (by repeat (first | exact Ext.refl _ | assumption | refine Ext.more ?_ _ | refine Ext.drew ?_ | refine Ext.drewN ?_ _ | refine Ext.alloc ?_ _ | refine Ext.setCell ?_ (by simp; try omega) _ | refine Ext.trans ?_ (by assumption))))).yields ?_); intro p1) | (go_at_call 56; (with_reducible refine (sameInts_to K2.out _ _ _ (EA.out.ext (by repeat (first | exact Ext.refl _ | assumption | refine Ext.more ?_ _ | refine Ext.drew ?_ | refine Ext.drewN ?_ _ | refine Ext.alloc ?_ _ | refine Ext.setCell ?_ (by simp; try omega) _ | refine Ext.trans ?_ (by assumption)))) (EB.out.ext (by repeat (first | exact Ext.refl _ | assumption | refine Ext.more ?_ _ | refine Ext.drew ?_ | refine Ext.drewN ?_ _ | refine Ext.alloc ?_ _ | refine Ext.setCell ?_ (by simp; try omega) _ | refine Ext.trans ?_ (by assumption))))).yields ?_); intro p2))
        go_returns
        exact ⟨by simp [sameC, hs.out, sameD, K0.out, K1.out, K2.out, K3.out, K4.out, K5.out, K6.out, K7.out, K8.out], (by repeat (first | exact Ext.refl _ | assumption | refine Ext.more ?_ _ | refine Ext.drew ?_ | refine Ext.drewN ?_ _ | refine Ext.alloc ?_ _ | refine Ext.setCell ?_ (by simp; try omega) _ | refine Ext.trans ?_ (by assumption)))⟩
      have K8 := hid h8
      have n18 := ne_of_eqt h8
      go_wp2_with (first | (go_at_call 55; (with_reducible refine (sameRows_to K1.out _ _ _ (NA.out.ext (by repeat (first | exact Ext.refl _ | assumption | refine Ext.more ?_ _ | refine Ext.drew ?_ | refine Ext.drewN ?_ _ | refine Ext.alloc ?_ _ | refine Ext.setCell ?_ (by simp; try omega) _ | refine Ext.trans ?_ (by assumption)))) (NB.out.ext (by repeat (first | exact Ext.refl _ | assumption | refine Ext.more ?_ _ | refine Ext.drew ?_ | refine Ext.drewN ?_ _ | refine Ext.alloc ?_ _ | refine Ext.setCell ?_ (by simp; try omega) _ | refine Ext.trans ?_ (by assumption))))).yields ?_); intro p1) | (go_at_call 56; (with_reducible refine (sameInts_to K2.out _ _ _ (EA.out.ext (by repeat (first | exact Ext.refl _ | assumption | refine Ext.more ?_ _ | refine Ext.drew ?_ | refine Ext.drewN ?_ _ | refine Ext.alloc ?_ _ | refine Ext.setCell ?_ (by simp; try omega) _ | refine Ext.trans ?_ (by assumption)))) (EB.out.ext (by repeat (first | exact Ext.refl _ | assumption | refine Ext.more ?_ _ | refine Ext.drew ?_ | refine Ext.drewN ?_ _ | refine Ext.alloc ?_ _ | refine Ext.setCell ?_ (by simp; try omega) _ | refine Ext.trans ?_ (by assumption))))).yields ?_); intro p2))
      go_roundw
      case rel => exact ⟨by repeat (first | exact hxc | refine Ext.more ?_ _), k + 1, by go_num, by omega, by unfold Hid; rw [hs.out]; simp [sameD, K0.out, K1.out, K2.out, K3.out, K4.out, K5.out, K6.out, K7.out, K8.out]⟩
      case measure => simp [intOf]; omega
end Go.Proofs.YtmpgeabfogcblaaGreat
