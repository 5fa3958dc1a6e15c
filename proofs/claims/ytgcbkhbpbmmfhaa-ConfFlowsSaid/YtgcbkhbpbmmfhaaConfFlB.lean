/- ConfFlows, a part: what is given away. -/
import Derived.Test.YtgcbkhbpbmmfhaaConfFl0
import Derived.Test.YtgcbkhbpbmmfhaaOwn2
import Derived.Deep.CutRange
import Derived.Deep.RegionHeld3
import Derived.ChangeMaps5
import Derived.ChangeSame
import Derived.ChangeVars
import Derived.JoinedOf
import Derived.RowKitTokens
namespace Go.Proofs.Ytgcbkhbpbmmfhaa
open Go.ChangeShapes Go.WideShapes Go.ChangeAt Go.RowKit Go.Joins Go.Deep

namespace confFlows
set_option maxRecDepth 100000 in
set_option maxHeartbeats 8000000 in
theorem walkB (a b c d : Int) (hb : 0 ≤ b) (hb' : b < 18446744073709551616) (hd : 0 ≤ d) (hd' : d < 18446744073709551616) (w : World) :
    Calls Try.prog 4 #[.agg #[.int .i64 a, .int .u64 b], .agg #[.int .i64 c, .int .u64 d], .bool true] w (Yields w (.bool true)) := by
  have HB := hid hb
  have HB' := hid hb'
  have HD := hid hd
  have HD' := hid hd'
  clear hb hb' hd hd'
  go_enter Try.func4, Try.ntmps4
  by_cases h1 : a < 0
  · have g1 : decide (a < 0) = true := by simpa using h1
    go_wp2_with (go_at_call 8; refine (known_any _).yields ?_; intro p0)
    go_returns
    exact ⟨rfl, (by repeat (first | exact Ext.refl _ | assumption | refine Ext.more ?_ _ | refine Ext.drew ?_ | refine Ext.drewN ?_ _ | refine Ext.alloc ?_ _ | refine Ext.setCell ?_ (by simp; try omega) _ | refine Ext.trans ?_ (by assumption)))⟩
  have g1 : decide (a < 0) = false := by simpa using h1
  have i1 : 0 ≤ a := by omega
  clear h1
  by_cases h2 : 255 < a
  · have g2 : decide (255 < a) = true := by simpa using h2
    go_wp2_with (go_at_call 8; refine (known_any _).yields ?_; intro p0)
    go_returns
    exact ⟨rfl, (by repeat (first | exact Ext.refl _ | assumption | refine Ext.more ?_ _ | refine Ext.drew ?_ | refine Ext.drewN ?_ _ | refine Ext.alloc ?_ _ | refine Ext.setCell ?_ (by simp; try omega) _ | refine Ext.trans ?_ (by assumption)))⟩
  have g2 : decide (255 < a) = false := by simpa using h2
  have i2 : a ≤ 255 := by omega
  clear h2
  by_cases h3 : c < 0
  · have g3 : decide (c < 0) = true := by simpa using h3
    go_wp2_with (go_at_call 8; refine (known_any _).yields ?_; intro p0)
    go_returns
    exact ⟨rfl, (by repeat (first | exact Ext.refl _ | assumption | refine Ext.more ?_ _ | refine Ext.drew ?_ | refine Ext.drewN ?_ _ | refine Ext.alloc ?_ _ | refine Ext.setCell ?_ (by simp; try omega) _ | refine Ext.trans ?_ (by assumption)))⟩
  have g3 : decide (c < 0) = false := by simpa using h3
  have i3 : 0 ≤ c := by omega
  clear h3
  by_cases h4 : 255 < c
  · have g4 : decide (255 < c) = true := by simpa using h4
    go_wp2_with (go_at_call 8; refine (known_any _).yields ?_; intro p0)
    go_returns
    exact ⟨rfl, (by repeat (first | exact Ext.refl _ | assumption | refine Ext.more ?_ _ | refine Ext.drew ?_ | refine Ext.drewN ?_ _ | refine Ext.alloc ?_ _ | refine Ext.setCell ?_ (by simp; try omega) _ | refine Ext.trans ?_ (by assumption)))⟩
  have g4 : decide (255 < c) = false := by simpa using h4
  have i4 : c ≤ 255 := by omega
  clear h4
  have HA : Hid (isB a = true) := by simp [Hid, isB, i1, i2]
  have HC : Hid (isB c = true) := by simp [Hid, isB, i3, i4]
  go_upto_region 5 with (go_at_call 8; refine (known_any _).yields ?_; intro p0)
  refine wp_forget (fun v => Ext w v ∧ v.cell? ⟨w.heap.size, 0, none⟩ = some (.int .i64 a) ∧ v.cell? ⟨w.heap.size, 1, none⟩ = some (.int .u64 b) ∧ v.cell? ⟨w.heap.size + 1, 0, none⟩ = some (.int .i64 c) ∧ v.cell? ⟨w.heap.size + 1, 1, none⟩ = some (.int .u64 d)) ⟨(by repeat (first | exact Ext.refl _ | assumption | refine Ext.more ?_ _ | refine Ext.drew ?_ | refine Ext.drewN ?_ _ | refine Ext.alloc ?_ _ | refine Ext.setCell ?_ (by simp; try omega) _ | refine Ext.trans ?_ (by assumption))), by simp [go_sem], by simp [go_sem], by simp [go_sem], by simp [go_sem]⟩ ?_
  rintro v ⟨X, a0, a1, c0, c1⟩
  have hb1 : w.heap.size + 1 < v.heap.size := World.block_lt_of_cell? _ _ c0
  have hb2 : w.heap.size < v.heap.size := by omega
  have HW' := o0_wf a b c d i1 i2 HB.out HB'.out i3 i4 HD.out HD'.out
  have HW : Hid ((∀ v ∈ [RV.i a, RV.u b], v.wf) ∧ (∀ v ∈ [RV.i c, RV.u d], v.wf) ∧ ∀ o ∈ o0 a b c d, ∀ v ∈ o.1, v.wf) :=
    ⟨lab_wf a b i1 i2 HB.out HB'.out, lab_wf c d i3 i4 HD.out HD'.out, HW'⟩
  clear HW'
  go_upto_region 6 with (fail)
  refine wp_forget (fun u => Lies v.heap.size (o0 a b c d) u ∧ Ext w u ∧ u.heap.size = v.heap.size + 4 ∧ u.cell? ⟨w.heap.size, 0, none⟩ = some (.int .i64 a) ∧ u.cell? ⟨w.heap.size, 1, none⟩ = some (.int .u64 b) ∧ u.cell? ⟨w.heap.size + 1, 0, none⟩ = some (.int .i64 c) ∧ u.cell? ⟨w.heap.size + 1, 1, none⟩ = some (.int .u64 d)) ⟨⟨allocs_lays ((o0 a b c d).map (RO.obj v.heap.size)) v, HW.out.2.2⟩, ?_, ?_, ?_, ?_, ?_, ?_⟩ ?_
  · exact (by repeat (first | exact Ext.refl _ | assumption | refine Ext.more ?_ _ | refine Ext.drew ?_ | refine Ext.drewN ?_ _ | refine Ext.alloc ?_ _ | refine Ext.setCell ?_ (by simp; try omega) _ | refine Ext.trans ?_ (by assumption)))
  · simp
  · exact Ext.cell (a := v) (by repeat (first | exact Ext.refl _ | assumption | refine Ext.more ?_ _ | refine Ext.drew ?_ | refine Ext.drewN ?_ _ | refine Ext.alloc ?_ _ | refine Ext.setCell ?_ (by simp; try omega) _ | refine Ext.trans ?_ (by assumption))) a0
  · exact Ext.cell (a := v) (by repeat (first | exact Ext.refl _ | assumption | refine Ext.more ?_ _ | refine Ext.drew ?_ | refine Ext.drewN ?_ _ | refine Ext.alloc ?_ _ | refine Ext.setCell ?_ (by simp; try omega) _ | refine Ext.trans ?_ (by assumption))) a1
  · exact Ext.cell (a := v) (by repeat (first | exact Ext.refl _ | assumption | refine Ext.more ?_ _ | refine Ext.drew ?_ | refine Ext.drewN ?_ _ | refine Ext.alloc ?_ _ | refine Ext.setCell ?_ (by simp; try omega) _ | refine Ext.trans ?_ (by assumption))) c0
  · exact Ext.cell (a := v) (by repeat (first | exact Ext.refl _ | assumption | refine Ext.more ?_ _ | refine Ext.drew ?_ | refine Ext.drewN ?_ _ | refine Ext.alloc ?_ _ | refine Ext.setCell ?_ (by simp; try omega) _ | refine Ext.trans ?_ (by assumption))) c1
  have hN : w.heap.size ≤ v.heap.size := X.size
  have hNb := hb1
  clear a0 a1 c0 c1 X hb1 hb2
  generalize v.heap.size = N at *
  rintro u ⟨L, X, S, a0, a1, c0, c1⟩
  simp only [Nat.add_assoc, Nat.reduceAdd]
  have HS := hid S
  clear S
  have hb1 : w.heap.size + 1 < u.heap.size := World.block_lt_of_cell? _ _ c0
  have hb2 : w.heap.size < u.heap.size := by omega
  cases hl : leqB a b c d <;> cases he : eqB a b c d
  all_goals
    have HL := hid hl
    have HE := hid he
    clear hl
    go_upto_region 7 with (go_at_call 12; (with_reducible refine (rleq_exact _ _ _ _ _ HL.out).mono ?_); rintro e w' ⟨rfl, rfl⟩)
    refine wp_forget (fun u' => Lies N (o1 a b c d) u' ∧ Ext w u' ∧ u'.heap.size = N + 6 ∧ u'.cell? ⟨w.heap.size, 0, none⟩ = some (.int .i64 a) ∧ u'.cell? ⟨w.heap.size, 1, none⟩ = some (.int .u64 b) ∧ u'.cell? ⟨w.heap.size + 1, 0, none⟩ = some (.int .i64 c) ∧ u'.cell? ⟨w.heap.size + 1, 1, none⟩ = some (.int .u64 d))
      ⟨(L.one' (by rw [HS.out]; rfl) ([.i a, .u b], 36) (HW.out.1)).one' (by simp [HS.out, o0]) ([.i c, .u d], 36) (HW.out.2.1), ?_, ?_, ?_, ?_, ?_, ?_⟩ ?_
    · exact (by repeat (first | exact Ext.refl _ | assumption | refine Ext.more ?_ _ | refine Ext.drew ?_ | refine Ext.drewN ?_ _ | refine Ext.alloc ?_ _ | refine Ext.setCell ?_ (by simp; try omega) _ | refine Ext.trans ?_ (by assumption)))
    · simp [HS.out]
    · exact Ext.cell (a := u) (by repeat (first | exact Ext.refl _ | assumption | refine Ext.more ?_ _ | refine Ext.drew ?_ | refine Ext.drewN ?_ _ | refine Ext.alloc ?_ _ | refine Ext.setCell ?_ (by simp; try omega) _ | refine Ext.trans ?_ (by assumption))) a0
    · exact Ext.cell (a := u) (by repeat (first | exact Ext.refl _ | assumption | refine Ext.more ?_ _ | refine Ext.drew ?_ | refine Ext.drewN ?_ _ | refine Ext.alloc ?_ _ | refine Ext.setCell ?_ (by simp; try omega) _ | refine Ext.trans ?_ (by assumption))) a1
    · exact Ext.cell (a := u) (by repeat (first | exact Ext.refl _ | assumption | refine Ext.more ?_ _ | refine Ext.drew ?_ | refine Ext.drewN ?_ _ | refine Ext.alloc ?_ _ | refine Ext.setCell ?_ (by simp; try omega) _ | refine Ext.trans ?_ (by assumption))) c0
    · exact Ext.cell (a := u) (by repeat (first | exact Ext.refl _ | assumption | refine Ext.more ?_ _ | refine Ext.drew ?_ | refine Ext.drewN ?_ _ | refine Ext.alloc ?_ _ | refine Ext.setCell ?_ (by simp; try omega) _ | refine Ext.trans ?_ (by assumption))) c1
    clear L X HS a0 a1 c0 c1 hb1 hb2
    rintro u ⟨L, X, S, a0, a1, c0, c1⟩
    have hb1 : w.heap.size + 1 < u.heap.size := World.block_lt_of_cell? _ _ c0
    have hb2 : w.heap.size < u.heap.size := by omega
    have m3 := L.at (b := 3) (j := 3) (v := .s 2 2) rfl
    have k2 := L.at (b := 2) (j := 2) (v := .nil) rfl
    have k3 := L.at (b := 2) (j := 3) (v := .nil) rfl
    have k4 := L.at (b := 2) (j := 4) (v := .i (-1)) rfl
    have f2 := L.free (b := 2) (j := 2) (v := .nil) rfl
    have f3 := L.free (b := 2) (j := 3) (v := .nil) rfl
    have f4 := L.free (b := 2) (j := 4) (v := .i (-1)) rfl
    simp only [RV.val] at m3 k2 k3 k4
    go_upto_region 8 with (fail)
    go_region_held3 (fun wx => Ext w wx ∧ wx.cell? ⟨N + 3, 3, none⟩ = some (.slice (some ⟨N + 2, 0, none⟩) 2 2)) (first | exact ⟨Ext.drew X, by simp [m3]⟩ | (go_split_ands; refine ⟨(by repeat (first | exact Ext.refl _ | assumption | refine Ext.more ?_ _ | refine Ext.drew ?_ | refine Ext.drewN ?_ _ | refine Ext.alloc ?_ _ | refine Ext.setCell ?_ (by simp; try omega) _ | refine Ext.trans ?_ (by assumption))), ?_⟩; (repeat (first | exact m3 | refine cell_drew ?_ | refine cell_alloc _ ?_ | refine cell_set_ne _ (by simp) ?_)))) (fail)
    all_goals
      go_split_ands
      go_upto_region 9 with (fail)
      refine wp_forget (fun u' => (KF N (cG a b c d) u' ∧ VarC N u') ∧ Ext w u' ∧ u'.cell? ⟨w.heap.size, 0, none⟩ = some (.int .i64 a) ∧ u'.cell? ⟨w.heap.size, 1, none⟩ = some (.int .u64 b) ∧ u'.cell? ⟨w.heap.size + 1, 0, none⟩ = some (.int .i64 c) ∧ u'.cell? ⟨w.heap.size + 1, 1, none⟩ = some (.int .u64 d))
        ⟨?_, ?_, ?_, ?_, ?_, ?_⟩ ?_
      · first
          | exact (have l := ((L.put (b := 2) (j := 4) (v := .i (-1)) rfl (.i 1) (RV.wf_of rfl)).put (b := 2) (j := 3) (v := .nil) rfl (.s 6 2) (RV.wf_of rfl)).one (by simp [S, setRO, o1, o0]) ([.i 0, .i 4], 3) rfl
             ⟨(kf_conf l (cG_of a b c d)).ext (Ext.drew (Ext.refl _)), (varC (l.ext (Ext.drew (Ext.refl _))) rfl rfl rfl rfl)⟩)
          | exact (have l := ((L.put (b := 2) (j := 3) (v := .nil) rfl (.s 6 2) (RV.wf_of rfl)).put (b := 2) (j := 4) (v := .i (-1)) rfl (.i 1) (RV.wf_of rfl)).one (by simp [S, setRO, o1, o0]) ([.i 0, .i 4], 3) rfl
             ⟨(kf_conf l (cG_of' a b c d)).ext (Ext.drew (Ext.refl _)), (varC (l.ext (Ext.drew (Ext.refl _))) rfl rfl rfl rfl)⟩)
      · exact (by repeat (first | exact Ext.refl _ | assumption | refine Ext.more ?_ _ | refine Ext.drew ?_ | refine Ext.drewN ?_ _ | refine Ext.alloc ?_ _ | refine Ext.setCell ?_ (by simp; try omega) _ | refine Ext.trans ?_ (by assumption)))
      · (repeat (first | exact a0 | refine cell_drew ?_ | refine cell_alloc _ ?_ | refine cell_set_ne _ (by simp; omega) ?_))
      · (repeat (first | exact a1 | refine cell_drew ?_ | refine cell_alloc _ ?_ | refine cell_set_ne _ (by simp; omega) ?_))
      · (repeat (first | exact c0 | refine cell_drew ?_ | refine cell_alloc _ ?_ | refine cell_set_ne _ (by simp; omega) ?_))
      · (repeat (first | exact c1 | refine cell_drew ?_ | refine cell_alloc _ ?_ | refine cell_set_ne _ (by simp; omega) ?_))
      clear L X S a0 a1 c0 c1 hb1 hb2 m3 k2 k3 k4 f2 f3 f4
      rintro u' ⟨⟨K, ⟨m0, m1, m2, m3⟩⟩, X, a0, a1, c0, c1⟩
      have K0 := hid K
      clear K
      have hb1 : w.heap.size + 1 < u'.heap.size := World.block_lt_of_cell? _ _ c0
      have hb2 : w.heap.size < u'.heap.size := by omega
      have hb3 : N + 3 < u'.heap.size := World.block_lt_of_cell? _ _ m0
      have hec : eqB c d a b = eqB a b c d := eqB_comm c d a b
      rw [HE.out] at hec
      have HEC := hid hec
      clear hec
      cases hk : leqB c d a b
      all_goals
        have HK := hid hk
        clear hk
        go_upto_region 11 with (go_at_call 12; (with_reducible refine (rleq_exact _ _ _ _ _ HK.out).mono ?_); rintro e w' ⟨rfl, rfl⟩)
        refine wp_forget (fun u'' => Ext u' u'') (by exact (by repeat (first | exact Ext.refl _ | assumption | refine Ext.more ?_ _ | refine Ext.drew ?_ | refine Ext.drewN ?_ _ | refine Ext.alloc ?_ _ | refine Ext.setCell ?_ (by simp; try omega) _ | refine Ext.trans ?_ (by assumption)))) ?_
        rintro u'' xu
        have K := hid (K0.out.ext xu)
        have m0 := xu.cell m0
        have m1 := xu.cell m1
        have m2 := xu.cell m2
        have m3 := xu.cell m3
        have X := X.trans xu
        first
          | (have hz : isConf (cG a b c d) = 0 := by rw [cG_is a b c d HA.out HC.out]; simp [risesB, HK.out, HEC.out]
             have HZ := hid hz
             clear hz
             go_wp2_with (go_at_call 10; (with_reducible refine (fIs_ok HZ.out K.out).yields ?_); intro p9)
             go_returns
             exact ⟨rfl, (by repeat (first | exact Ext.refl _ | assumption | refine Ext.more ?_ _ | refine Ext.drew ?_ | refine Ext.drewN ?_ _ | refine Ext.alloc ?_ _ | refine Ext.setCell ?_ (by simp; try omega) _ | refine Ext.trans ?_ (by assumption)))⟩)
          | (have hz : isConf (cG a b c d) = 17 := by rw [cG_is a b c d HA.out HC.out]; simp [risesB, HK.out, HEC.out]
             have HZ := hid hz
             clear hz
             go_wp2_with (first | (go_at_call 10; (with_reducible refine (fIs_bad HZ.out K.out).yields ?_); intro p9) | (go_at_call 11; (with_reducible refine (is_errno_to (r := true) rfl _).yields ?_); intro p8))
             go_returns
             exact ⟨rfl, (by repeat (first | exact Ext.refl _ | assumption | refine Ext.more ?_ _ | refine Ext.drew ?_ | refine Ext.drewN ?_ _ | refine Ext.alloc ?_ _ | refine Ext.setCell ?_ (by simp; try omega) _ | refine Ext.trans ?_ (by assumption)))⟩)
end confFlows
end Go.Proofs.Ytgcbkhbpbmmfhaa
