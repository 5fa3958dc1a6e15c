/- LatchHolds: between two turns nothing changes, whatever is asked; what was asked last counts: the law answers true for every row of asks. No conditions. -/
import Derived.Test.YtbnjfahjbemleaaLpKq
import Derived.Test.YtbnjfahjbemleaaOwnF
import Derived.ChangeMaps5
import Derived.ChangeSame
import Derived.ChangeVars
import Derived.JoinedOf
import Derived.RowKitTokens
namespace Go.Proofs.Ytbnjfahjbemleaa
set_option linter.unusedSimpArgs false
open Go.ChangeShapes Go.WideShapes Go.ChangeAt Go.RowKit Go.Joins Go.Deep

namespace latchHolds
theorem stps_ext {w w' : World} {v : Value} {l : List Stp} (h : Stps w v l) (k : Ext w w') : Stps w' v l := h.mono fun _ _ _ h => ⟨k.cell h.1, k.cell h.2.1, k.cell h.2.2.1, h.2.2.2⟩
theorem Kept.blk {F : Nat → Prop} {w w' : World} (h : Kept F w w') {g T : Nat} {L : List Value} (hg : F g) (hb : Blk w g T L) : Blk w' g T L := by
  unfold Blk at hb ⊢
  rw [h.2 g hg]; exact hb

theorem ints_of_blk {w : World} {g T : Nat} {l : List Int} (h : Blk w g T (l.map iV)) (hl : l.length = 4) : Ints w (.slice (some ⟨g, 0, none⟩) 4 4) l := by
  refine ⟨some ⟨g, 0, none⟩, 4, by rw [hl], by omega, by decide, fun _ => ⟨g, 0, rfl, fun i x hx => ?_⟩⟩
  obtain ⟨hi, rfl⟩ := List.getElem?_eq_some_iff.1 hx
  have := Blk.cell h (i := i) (by simpa using hi)
  simpa [iV] using this

set_option maxRecDepth 100000 in
set_option maxHeartbeats 8000000 in
theorem walk (L : List Stp) (vl : Value) (w : World) (hL : Stps w vl L) :
    Calls Try.prog 3 #[vl] w (Yields w (.bool true)) := by
  obtain ⟨pl, cl, rfl, hcl, hml⟩ := hL.shape
  unfold maxLen at hml
  have HL := hid hL
  clear hL
  by_cases hlen : (60 : Int) < L.length
  · go_enter Try.func3, Try.ntmps3
    go_wp2_with (go_at_call 5; refine (known_any _).yields ?_; intro p0)
    go_returns
    exact ⟨rfl, ext_by⟩
  go_enter Try.func3, Try.ntmps3
  go_wp2_with (go_at_call 5; refine (known_any _).yields ?_; intro p0)
  refine (base_to _).mono ?_
  rintro e w1 ⟨N, rfl, n1, l1, x1, s1⟩
  have X1 : Ext w w1 := Ext.trans (ext_more _ _) x1
  have K := known_conf l1 (c := baseC) (by rfl)
  clear n1 l1 s1 x1
  go_upto_region 6 with (go_at_call 6; (refine (K.val ▸ p1_new K.v baseC_is nF (fun _ h => h.elim)).mono ?_); rintro e w2 ⟨b, rfl, hP, hx2⟩)
  have hP0 : P1 w1 b baseC ls0 nF w2 := hP
  clear hP hx2
  obtain ⟨gw, hgw⟩ : ∃ gw, gw = w2.heap.size := ⟨_, rfl⟩
  go_upto_region 7 with fail
  have hgw1 : w1.heap.size ≤ gw := by have := hP0.x.size; omega
  refine wp_forget (fun u => Hid (P1 w1 b baseC ls0 (fun k => nF k ∨ k = gw) u) ∧ Hid (Blk u gw 31 (ls0.al.map iV))) ⟨hid (hP0.more (by exact ext_by) (by omega) (by rw [hgw]; simp)), hid (by rw [hgw]; exact Blk.new w2 _ _)⟩ ?_
  rw [← hgw]
  clear hgw hP0
  rintro W ⟨HP0, HW0⟩
  go_wp2
  go_loopw [5, 6] (fun v5 v6 wr => ∃ (i : Nat) (s : Lt), v6 = .int .i64 i ∧ v5 = .int .i64 s.ap ∧ i ≤ L.length ∧ Hid (P1 w1 b baseC s (fun k => nF k ∨ k = gw) wr) ∧ Hid (Blk wr gw 31 (s.al.map iV))) (fun _ v6 _ => (L.length - intOf v6).toNat)
  case atStart => exact ⟨0, ls0, rfl, rfl, by omega, HP0, HW0⟩
  case round =>
    obtain ⟨i, s, rfl, rfl, hi, hP, hW⟩ := hrel
    have hxw : Ext w wr := X1.trans hP.out.x
    have h4 : 0 < baseC.doms.length := by decide
    by_cases hlt : i < L.length
    · obtain ⟨lb, lo, rfl, a0, a1, a2, -, -⟩ := (stps_ext HL.out hxw).at i hlt
      have i1 : (i : Int) < L.length := by omega
      have hlb := World.block_lt_of_cell? _ _ a0
      generalize L[i].what = t0 at *
      generalize L[i].id = t1 at *
      generalize L[i].n = t2 at *
      obtain ⟨g, hg⟩ : ∃ g, g = wr.heap.size := ⟨_, rfl⟩
      go_upto_region 12 with fail
      refine wp_forget (fun u => Hid (P1 w1 b baseC s (fun k => (nF k ∨ k = gw) ∨ k = g) u) ∧ Hid (Blk u gw 31 (s.al.map iV)) ∧ u.cell? ⟨g, 0, none⟩ = some (.int .i64 t0) ∧ u.cell? ⟨g, 1, none⟩ = some (.int .i64 t1) ∧ u.cell? ⟨g, 2, none⟩ = some (.int .i64 t2)) ⟨hid (hP.out.more (by exact ext_by) (by omega) (by rw [hg]; simp)), hid (hW.out.ext (Ext.alloc (Ext.refl _) _)), by rw [hg]; simp [go_sem], by rw [hg]; simp [go_sem], by rw [hg]; simp [go_sem]⟩ ?_
      rw [← hg]
      clear hg a0 a1 a2 hP hW hlb hxw
      rintro w5 ⟨HP5, HW5, q0, q1, q2⟩
      go_upto_region 13 with (first
        | (go_at_call 8; (refine (p1_levels HP5.out h4).mono ?_); rintro e w6 ⟨g1, cap1, rfl, hx6, hg1, hr1⟩; have hfirst := hx6)
        | (go_at_call 9; (refine (p1_plan (HP5.out.ext hfirst)).yields ?_); intro p7))
      have hP6 := (HP5.out.more hx6 hg1 hr1.blk.2.1).ext (ext_more _ p7)
      have hx7 := hx6.trans (ext_more _ p7)
      have HR1 := hid (hr1.ext (ext_more _ p7))
      have HW6 := hid (HW5.out.ext hx7)
      have r0 := hx7.cell q0
      have r1 := hx7.cell q1
      have r2 := hx7.cell q2
      have hgne : g1 ≠ gw := by have := HW5.out.lt; omega
      clear HP5 HW5 hx6 hg1 hr1 q0 q1 q2 hfirst hx7
      generalize more w6 p7 = w7 at *
      have hgb : g < w7.heap.size := World.block_lt_of_cell? _ _ r0
      by_cases ht : t0 ≤ 1
      · obtain ⟨n, s', e⟩ : ∃ n s', s.askPlan baseC t2 = (n, s') := ⟨_, _, rfl⟩
        by_cases hn : n = 0
        · subst hn
          obtain rfl := askPlan_ok e
          go_upto_region 20 with (go_at_call 10; (refine (p1_askPlan hP6 _).mono ?_); rw [e]; simp only [errV_0]; rintro e8 w8 ⟨rfl, HP8, hk8⟩; have r0' := (hk8.cell (j := 0) (.inl (.inr rfl))).trans r0; have r1' := (hk8.cell (j := 1) (.inl (.inr rfl))).trans r1; have r2' := (hk8.cell (j := 2) (.inl (.inr rfl))).trans r2)
          clear hP6 e
          have hok : Hid (s.l.length = baseC.doms.length) := hid HP8.ok.ll
          have HR8 := hid ((hk8.row (.inr rfl) HR1.out).ints' hok.out)
          have HW8 := hid (Kept.blk hk8 (.inl (.inl (.inr rfl))) HW6.out)
          have HPX := hid HP8
          clear HP8 hk8 r0 r1 r2 r0' r1' r2' HR1 HW6
          go_wp2_with (first
            | (go_at_call 8; (refine (p1_levels (HPX.out.ext ?hx) h4).mono ?_); (case hx => first | exact Ext.refl _ | exact ext_by); rintro e9 w9 ⟨g2, cap2, rfl, hx9, hg2, hr2⟩; have hxA : Ext w8 w9 := Ext.trans ext_by hx9)
            | (go_at_call 12; (with_reducible refine (sameI_to (hr2.ints' hok.out) (HR8.out.ext hxA)).yields ?_); intro p9)
            | (go_at_call 9; (refine (p1_plan (HPX.out.ext ?hy)).yields ?_); (case hy => exact Ext.trans hxA ext_by); intro p10))
          go_roundw
          case rel => exact ⟨i + 1, _, by go_num, rfl, by omega, hid ((HPX.out.ext (Ext.trans hxA ext_by)).less fun k h => .inl (.inl h)), hid (HW8.out.ext (Ext.trans hxA ext_by))⟩
          case measure => simp [intOf]; omega
        · obtain rfl := (askPlan_bad e hn).symm
          have HN := hid hn
          have hnn := fun v w => run_eql_iface_nil (P := Try.prog) (w := w) 47 v Try.underlying38
          clear hn
          go_upto_region 20 with (go_at_call 10; (refine (p1_askPlan hP6 _).mono ?_); rw [e]; simp only [errV_pos HN.out]; rintro e8 w8 ⟨rfl, HP8, hk8⟩; have r0' := (hk8.cell (j := 0) (.inl (.inr rfl))).trans r0; have r1' := (hk8.cell (j := 1) (.inl (.inr rfl))).trans r1; have r2' := (hk8.cell (j := 2) (.inl (.inr rfl))).trans r2)
          clear hP6 e
          have hok : Hid (s.l.length = baseC.doms.length) := hid HP8.ok.ll
          have HR8 := hid ((hk8.row (.inr rfl) HR1.out).ints' hok.out)
          have HW8 := hid (Kept.blk hk8 (.inl (.inl (.inr rfl))) HW6.out)
          have HPX := hid HP8
          clear HP8 hk8 r0 r1 r2 r0' r1' r2' HR1 HW6
          go_wp2_with (first
            | (go_at_call 8; (refine (p1_levels (HPX.out.ext ?hx) h4).mono ?_); (case hx => first | exact Ext.refl _ | exact ext_by); rintro e9 w9 ⟨g2, cap2, rfl, hx9, hg2, hr2⟩; have hxA : Ext w8 w9 := Ext.trans ext_by hx9)
            | (go_at_call 12; (with_reducible refine (sameI_to (hr2.ints' hok.out) (HR8.out.ext hxA)).yields ?_); intro p9)
            | (go_at_call 9; (refine (p1_plan (HPX.out.ext ?hy)).yields ?_); (case hy => exact Ext.trans hxA ext_by); intro p10))
          go_roundw
          case rel => exact ⟨i + 1, _, by go_num, rfl, by omega, hid ((HPX.out.ext (Ext.trans hxA ext_by)).less fun k h => .inl (.inl h)), hid (HW8.out.ext (Ext.trans hxA ext_by))⟩
          case measure => simp [intOf]; omega
      · obtain ⟨n, s', e⟩ : ∃ n s', s.askLevel baseC t1 t2 = (n, s') := ⟨_, _, rfl⟩
        by_cases hn : n = 0
        · subst hn
          obtain ⟨hd0, hd1, rfl⟩ := askLevel_ok e
          have hd4 : t1 < 4 := hd1
          have hal : Hid (s.al.length = 4) := hid hP6.ok.al
          obtain ⟨m, rfl⟩ : ∃ m : Nat, t1 = m := ⟨t1.toNat, by omega⟩
          have hm4 : m < 4 := by omega
          go_upto_region 19 with (go_at_call 11; (refine (p1_askLevel hP6 _ _).mono ?_); rw [e]; simp only [errV_0]; rintro e8 w8 ⟨rfl, HP8, hk8⟩; have r0' := (hk8.cell (j := 0) (.inl (.inr rfl))).trans r0; have r1' := (hk8.cell (j := 1) (.inl (.inr rfl))).trans r1; have r2' := (hk8.cell (j := 2) (.inl (.inr rfl))).trans r2)
          have hW8 := Kept.blk hk8 (.inl (.inl (.inr rfl))) HW6.out
          have hWl := HW6.out
          have hml' : m < s.al.length := by rw [hal.out]; exact hm4
          have v0 : w8.cell? ⟨gw, m, none⟩ = some (.int .i64 s.al[m]) := (hW8.cell (i := m) (by simpa using hml')).trans (by simp [iV])
          have v1 := hW8.frozen m
          go_upto_region 20 with fail
          have hok : Hid (s.l.length = baseC.doms.length) := hid HP8.ok.ll
          have hk9 : Kept (fun k => k = g1) w8 (w8.setCell ⟨gw, m, none⟩ (.int .i64 t2)) := ⟨by simp [go_sem], fun k hk => Below.heap_setCell _ _ _ _ (by subst hk; exact hgne)⟩
          have HR8 := hid ((hk9.row rfl (hk8.row (.inr rfl) HR1.out)).ints' hok.out)
          have HW8 := hid (hW8.set m (iV t2))
          rw [← List.map_set] at HW8
          have HPX := hid (HP8.store (.inl (.inl (.inr rfl))) hgw1 m (iV t2))
          rw [Int.toNat_natCast] at HPX
          unfold iV at HW8 HPX
          clear HP8 hk8 r0 r1 r2 r0' r1' r2' HR1 HW6 hk9 hW8 hWl v0 v1 e hP6
          generalize w8.setCell ⟨gw, m, none⟩ (.int .i64 t2) = w8' at *
          go_wp2_with (first
            | (go_at_call 8; (refine (p1_levels (HPX.out.ext ?hx) h4).mono ?_); (case hx => first | exact Ext.refl _ | exact ext_by); rintro e9 w9 ⟨g2, cap2, rfl, hx9, hg2, hr2⟩; have hxA : Ext w8' w9 := Ext.trans ext_by hx9)
            | (go_at_call 12; (with_reducible refine (sameI_to (hr2.ints' hok.out) (HR8.out.ext hxA)).yields ?_); intro p9)
            | (go_at_call 9; (refine (p1_plan (HPX.out.ext ?hy)).yields ?_); (case hy => exact Ext.trans hxA ext_by); intro p10))
          go_roundw
          case rel => exact ⟨i + 1, { s with al := s.al.set m t2 }, by go_num, rfl, by omega, hid ((HPX.out.ext (Ext.trans hxA ext_by)).less fun k h => .inl (.inl h)), hid (HW8.out.ext (Ext.trans hxA ext_by))⟩
          case measure => simp [intOf]; omega
        · obtain rfl := (askLevel_bad e hn).symm
          have HN := hid hn
          have hnn := fun v w => run_eql_iface_nil (P := Try.prog) (w := w) 47 v Try.underlying38
          clear hn
          go_upto_region 20 with (go_at_call 11; (refine (p1_askLevel hP6 _ _).mono ?_); rw [e]; simp only [errV_pos HN.out]; rintro e8 w8 ⟨rfl, HP8, hk8⟩; have r0' := (hk8.cell (j := 0) (.inl (.inr rfl))).trans r0; have r1' := (hk8.cell (j := 1) (.inl (.inr rfl))).trans r1; have r2' := (hk8.cell (j := 2) (.inl (.inr rfl))).trans r2)
          clear hP6 e
          have hok : Hid (s.l.length = baseC.doms.length) := hid HP8.ok.ll
          have HR8 := hid ((hk8.row (.inr rfl) HR1.out).ints' hok.out)
          have HW8 := hid (Kept.blk hk8 (.inl (.inl (.inr rfl))) HW6.out)
          have HPX := hid HP8
          clear HP8 hk8 r0 r1 r2 r0' r1' r2' HR1 HW6
          go_wp2_with (first
            | (go_at_call 8; (refine (p1_levels (HPX.out.ext ?hx) h4).mono ?_); (case hx => first | exact Ext.refl _ | exact ext_by); rintro e9 w9 ⟨g2, cap2, rfl, hx9, hg2, hr2⟩; have hxA : Ext w8 w9 := Ext.trans ext_by hx9)
            | (go_at_call 12; (with_reducible refine (sameI_to (hr2.ints' hok.out) (HR8.out.ext hxA)).yields ?_); intro p9)
            | (go_at_call 9; (refine (p1_plan (HPX.out.ext ?hy)).yields ?_); (case hy => exact Ext.trans hxA ext_by); intro p10))
          go_roundw
          case rel => exact ⟨i + 1, _, by go_num, rfl, by omega, hid ((HPX.out.ext (Ext.trans hxA ext_by)).less fun k h => .inl (.inl h)), hid (HW8.out.ext (Ext.trans hxA ext_by))⟩
          case measure => simp [intOf]; omega
    · obtain rfl : i = L.length := by omega
      have hP0 := hP.out
      go_upto_region 23 with (go_at_call 13; (refine (p1_turn hP0).mono ?_); rintro e w3 ⟨rfl, hP1, hk1⟩)
      have hxx : Ext w w3 := X1.trans hP1.x
      have hal : s.al.length = baseC.doms.length := hP0.ok.al
      have HW1 := hid (Kept.blk hk1 (.inr rfl) hW.out)
      have HPX := hid hP1
      have hpp : (s.ap == s.ap) = true := by simp
      have HPL := hid (fun u (h : Ext w3 u) => p1_plan (HPX.out.ext h))
      have HLV := hid (fun u (h : Ext w3 u) => p1_levels (HPX.out.ext h) h4)
      simp only [Lt.turn] at HPL HLV
      have hlen : Hid (s.al.length = 4) := hid hal
      have HIW := hid (fun u (h : Ext w3 u) => (ints_of_blk (HW1.out.ext h) hlen.out))
      obtain ⟨y0, k0⟩ : ∃ y, w3.cell? ⟨gw, 0, none⟩ = some y := ⟨_, HW1.out.cell (by simp [hlen.out])⟩
      obtain ⟨y1, k1⟩ : ∃ y, w3.cell? ⟨gw, 1, none⟩ = some y := ⟨_, HW1.out.cell (by simp [hlen.out])⟩
      obtain ⟨y2, k2⟩ : ∃ y, w3.cell? ⟨gw, 2, none⟩ = some y := ⟨_, HW1.out.cell (by simp [hlen.out])⟩
      obtain ⟨y3, k3⟩ : ∃ y, w3.cell? ⟨gw, 3, none⟩ = some y := ⟨_, HW1.out.cell (by simp [hlen.out])⟩
      clear hP0 hP hW hP1 hk1 hxw HPX
      go_region_held3 (fun wx => Ext w3 wx ∧ wx.cell? ⟨gw, 0, none⟩ = some y0 ∧ wx.cell? ⟨gw, 1, none⟩ = some y1 ∧ wx.cell? ⟨gw, 2, none⟩ = some y2 ∧ wx.cell? ⟨gw, 3, none⟩ = some y3)
        (first | (go_split_ands; with_reducible exact ⟨Ext.trans (by assumption) hq, Ext.cell hq (by assumption), Ext.cell hq (by assumption), Ext.cell hq (by assumption), Ext.cell hq (by assumption)⟩) | (go_split_ands; with_reducible exact ⟨Ext.alloc (by assumption) _, Ext.cell (Ext.alloc (Ext.refl _) _) (by assumption), Ext.cell (Ext.alloc (Ext.refl _) _) (by assumption), Ext.cell (Ext.alloc (Ext.refl _) _) (by assumption), Ext.cell (Ext.alloc (Ext.refl _) _) (by assumption)⟩) | exact ⟨Ext.drew (Ext.refl _), Ext.cell (Ext.drew (Ext.refl _)) k0, Ext.cell (Ext.drew (Ext.refl _)) k1, Ext.cell (Ext.drew (Ext.refl _)) k2, Ext.cell (Ext.drew (Ext.refl _)) k3⟩ | (go_split_ands; refine ⟨ext_by, ?_, ?_, ?_, ?_⟩ <;> go_keep))
        (first
          | (go_at_call 9; (refine (HPL.out _ (by go_split_ands; assumption)).mono ?_); rintro e w' ⟨rfl, hq⟩)
          | (go_at_call 8; (refine (HLV.out _ (by go_split_ands; assumption)).mono ?_); rintro e w9 ⟨g2, cap2, rfl, hq, hg2, hr2⟩)
          | (go_at_call 12; (with_reducible refine (sameI_to (hr2.ints' hal) (HIW.out _ (by go_split_ands; assumption))).mono ?_); rintro e w' ⟨rfl, hq⟩))
      go_split_ands
      go_wp2
      go_returns
      exact ⟨by simp, hxx.trans (by assumption)⟩

set_option linter.unusedVariables false in
set_option maxRecDepth 100000 in
theorem lifted (os : Os) (started : os.Started) (H : Type) (enc : TypeId × Value → H) :
    ReturnsInHanded {} Try.checked os 3 .any (Rows.latchHoldsSpec.pre6 enc Try.prog Try.f3 Rows.latchHoldsRow.domain false) (Rows.latchHoldsSpec.post enc Try.prog Try.f3 false true false false) := by
  refine returnsInHanded_of_change (C := Try.checked) Own.own started (by kernel_rfl) Try.func3
    (ChangeSpec.witness6 (enc := enc) (C := Try.checked) false ⟨#[], #[.slice none 0 0], []⟩ 8 (by kernel_rfl) (by kernel_rfl) (by kernel_rfl) (by kernel_rfl)) ?_
  intro W base args ds gs before hval0 hW hcnd _
  have hval : ∀ (j : Nat) t v, Try.f3.params[j]? = some t → args[j]? = some v → Value.okWide Try.prog W .any base t v := hval0
  have hW' := hW
  obtain ⟨p, q, hA0, hV, rfl, hfz, hnd⟩ := hW
  have hA : DataW.TrodAll enc Try.prog W 0 (fun _ => true) true Try.f3.params.toList args.toList ds p := hA0
  rw [Try.params3] at hA hval
  obtain ⟨v0, vs0, d0, ds0, p0, q0, hargs, rfl, rfl, h0, r0⟩ := trodAll_cons hA
  obtain ⟨rfl, rfl, rfl⟩ := trodAll_nil r0
  obtain rfl : args = #[v0] := by cases args; simp_all
  obtain ⟨rfl, rfl⟩ := trodVars_none hV
  have k0 := h0
  have lt0 : ∀ x ∈ p0, x.block < W.heap.size := by obtain ⟨m, hm⟩ := k0; exact DataW.trod_lt m _ _ _ hm
  obtain ⟨a1, len1, cap1, rfl⟩ := okWide_slice Try.underlying22 (hval 0 22 v0 rfl rfl)
  obtain ⟨L, hL⟩ := Own.open_stps h0
  clear hA0 hval0
  refine (walk L _ W hL).mono fun e W' ⟨he, hx⟩ => ?_
  subst he
  exact ⟨_, rfl, _, _, _, [], _, [], hW', trodAll_mk1 (shut_bool Try.underlying4 _), (trodAll_cons_mk (Below.trod Own.laidOut (by kernel_rfl) (of_decide_eq_true (by kernel_rfl)) k0 hx.below lt0) trodAll_mk0), rfl, hx.below.frame _, fun h => by cases h⟩

theorem proved : Rows.LatchHoldsSaid :=
  OpenClaim.holds_of_wide 3 Try.f3 rfl rfl rfl rfl rfl rfl rfl ⟨rfl, rfl, rfl, rfl, rfl⟩ rfl rfl rfl rfl rfl (by kernel_rfl) Try.func3 (by kernel_rfl)
    (of_decide_eq_true (by kernel_rfl)) (by unfold Func.isWrapper; first | (rw [if_pos (by decide +kernel)]; kernel_rfl) | (rw [if_neg (by decide +kernel)]; exact ⟨rfl, rfl⟩))
    (fun os started H enc _ => lifted os started H enc)

end latchHolds
end Go.Proofs.Ytbnjfahjbemleaa
