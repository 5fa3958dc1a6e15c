/- ScriptLimits, by cases. -/
import Derived.Test.YtbllibgddiiboaaScL
import Derived.Test.YtbllibgddiiboaaOwn2
import Derived.Deep.CutRange
import Derived.BigRegion
namespace Go.Proofs.Ytbllibgddiiboaa
open Go.RowKit

set_option linter.unusedVariables false
namespace scriptLimits

def s1y : Scr := ⟨baseC, 20, [[], List.replicate 400 ⟨0, 0, 0⟩, [], []], [[], [], [], []]⟩
set_option maxRecDepth 100000 in
set_option maxHeartbeats 8000000 in
theorem walk1y (which : Int) (hw0 : 0 ≤ which) (hw1 : which ≤ 255) (hk : which % 6 = 1) (w : World) :
    Calls Try.prog 3 #[.int .u8 which, .bool false] w (Yields w (.bool true)) := by
  have hmk := mkAxns 400 400 rfl (by decide)
  have hmv := mkArvs 100 100 rfl (by decide)
  go_enter Try.func3, Try.ntmps3
  go_wp2_with fail
  refine (known4_any _).yields ?_
  intro p0
  have hE0 := hid (ext_more w p0)
  generalize more w p0 = w0 at *
  go_wp2_with fail
  refine (help_any _ 20).mono ?_
  rintro e w1 ⟨N, S, V, rfl, h1, x1⟩
  have HH := hid h1
  have bs := lt_of_block h1.sb
  have bv := lt_of_block h1.vb
  have sc0 := blk_cell h1.sb 0
  have sc1 := blk_cell h1.sb 1
  have vc0 := blk_cell h1.vb 0
  have vc2 := blk_cell h1.vb 2
  have vc3 := blk_cell h1.vb 3
  have sf0 := blk_free h1.sb 0
  have sf1 := blk_free h1.sb 1
  have vf0 := blk_free h1.vb 0
  have vf2 := blk_free h1.vb 2
  have vf3 := blk_free h1.vb 3
  simp only [nil4, List.getElem?_toArray, List.getElem?_cons_zero, List.getElem?_cons_succ] at sc0 sc1 vc0 vc2 vc3
  have HX1 := hid x1
  clear h1 x1
  go_upto_region 13 with (fail)
  go_region
  go_upto_region 20 with (fail)
  have HIS : Hid (isScr s1y = 0) := by rw [Hid]; kernel_rfl
  have hn := (heap_new2' w1 ⟨S, 1, none⟩ (.slice (some ⟨w1.heap.size + 1, 0, none⟩) 400 400) (helpO N S V 20) (axnsO 400)).2
  have hA := (heap_new2' w1 ⟨S, 1, none⟩ (.slice (some ⟨w1.heap.size + 1, 0, none⟩) 400 400) (helpO N S V 20) (axnsO 400)).1
  change Code.wp _ _ _ _ (((w1.setCell ⟨S, 1, none⟩ (.slice (some ⟨w1.heap.size + 1, 0, none⟩) 400 400)).alloc (helpO N S V 20)).alloc (axnsO 400)).drew
  refine wp_forget (fun v => SV N S V 20 s1y v ∧ v.heap[w1.heap.size]? = some (helpO N S V 20) ∧ Ext w0 v) ⟨?_, hA, Ext.drew (Ext.alloc (Ext.alloc (Ext.setCell HX1.out HH.out.hS _) _) _)⟩ ?_
  · refine ((HH.out.putS 1 (.slice (some ⟨w1.heap.size + 1, 0, none⟩) 400 400)).ext (Ext.drew (Ext.alloc (Ext.alloc (Ext.refl _) _) _))).script baseC_of rfl rfl (fun i l hi => ?_) (fun i l hi => ?_)
    · match i, hi with
      | 0, hi => simp at hi; subst hi; exact ⟨_, rfl, axns_nil _⟩
      | 1, hi => simp at hi; subst hi; exact ⟨_, rfl, axns_made (by decide) hn⟩
      | 2, hi => simp at hi; subst hi; exact ⟨_, rfl, axns_nil _⟩
      | 3, hi => simp at hi; subst hi; exact ⟨_, rfl, axns_nil _⟩
    · match i, hi with
      | 0, hi => simp at hi; subst hi; exact ⟨_, rfl, arvs_nil _⟩
      | 1, hi => simp at hi; subst hi; exact ⟨_, rfl, arvs_nil _⟩
      | 2, hi => simp at hi; subst hi; exact ⟨_, rfl, arvs_nil _⟩
      | 3, hi => simp at hi; subst hi; exact ⟨_, rfl, arvs_nil _⟩
  clear hmk hmv bs bv sc0 sc1 vc0 vc2 vc3 sf0 sf1 vf0 vf2 vf3 HH HX1 hn
  generalize w1.heap.size = A at *
  rintro v ⟨hs, hA, hx⟩
  have HS := hid hs
  have HX := hid hx
  have lA := lt_of_block hA
  have k0 := blk_cell hA 0
  have k1 := blk_cell hA 1
  have k2 := blk_cell hA 2
  have k3 := blk_cell hA 3
  have k4 := blk_cell hA 4
  have k5 := blk_cell hA 5
  have k6 := blk_cell hA 6
  simp only [List.getElem?_toArray, List.getElem?_cons_zero, List.getElem?_cons_succ] at k0 k1 k2 k3 k4 k5 k6
  clear hs hA hx
  have HLN := hid (g_len HIS.out rfl)
  have hIs := hid (fun z (hz : Ext v z) => show Calls Try.prog 7 #[helpV N S V 20] z (Yields z .nilIface) from sIs HIS.out (HS.out.ext hz))
  have hBy := hid (fun z (hz : Ext v z) => gBytes HIS.out base_in HLN.out (HS.out.ext hz))
  have hRd := hid (fun z => gRead' (h := 20) HIS.out base_in HLN.out rfl rfl rfl rfl z)
  have hen := fun w => run_eql_nil_nil' (P := Try.prog) w Try.underlying33
  have hl4 : ((allBytes s1y).length : Int) ≤ 40000 := by have := HLN.out; omega
  obtain ⟨l, hl⟩ : ∃ l, l = allBytes s1y := ⟨_, rfl⟩
  rw [← hl] at hBy hRd hl4
  clear hl
  go_wp2_with (first | (go_at_call 7; (with_reducible refine (hIs.out _ (by repeat (first | exact Ext.refl _ | assumption | refine Ext.more ?_ _ | refine Ext.drew ?_ | refine Ext.drewN ?_ _ | refine Ext.alloc ?_ _ | refine Ext.setCell ?_ (by simp; try omega) _ | refine Ext.trans ?_ (by assumption)))).yields ?_); intro p1) | (go_at_call 9; (with_reducible refine (hBy.out _ (by repeat (first | exact Ext.refl _ | assumption | refine Ext.more ?_ _ | refine Ext.drew ?_ | refine Ext.drewN ?_ _ | refine Ext.alloc ?_ _ | refine Ext.setCell ?_ (by simp; try omega) _ | refine Ext.trans ?_ (by assumption)))).yields ?_); intro p3))
  refine (hRd.out _).mono ?_
  rintro e v5 ⟨pp, cp, pd, cd, ps, cs, pa, ca, rfl, ht, hx5⟩
  have HX5 := hid ((show Ext v _ from (by repeat (first | exact Ext.refl _ | assumption | refine Ext.more ?_ _ | refine Ext.drew ?_ | refine Ext.drewN ?_ _ | refine Ext.alloc ?_ _ | refine Ext.setCell ?_ (by simp; try omega) _ | refine Ext.trans ?_ (by assumption)))).trans hx5)
  have HT := hid ht
  have l5 := HX5.out.size
  have lA5 : A < v5.heap.size := by omega
  have m0 := HX5.out.cell k0
  have m1 := HX5.out.cell k1
  have m2 := HX5.out.cell k2
  have m3 := HX5.out.cell k3
  have m4 := HX5.out.cell k4
  have m5 := HX5.out.cell k5
  have m6 := HX5.out.cell k6
  clear ht hx5 k0 k1 k2 k3 k4 k5 k6
  go_wp2_with (go_at_call 11; (with_reducible refine (gSame' (HS.out.ext (HX5.out.trans (by repeat (first | exact Ext.refl _ | assumption | refine Ext.more ?_ _ | refine Ext.drew ?_ | refine Ext.drewN ?_ _ | refine Ext.alloc ?_ _ | refine Ext.setCell ?_ (by simp; try omega) _ | refine Ext.trans ?_ (by assumption))))) (HT.out.ext (by repeat (first | exact Ext.refl _ | assumption | refine Ext.more ?_ _ | refine Ext.drew ?_ | refine Ext.drewN ?_ _ | refine Ext.alloc ?_ _ | refine Ext.setCell ?_ (by simp; try omega) _ | refine Ext.trans ?_ (by assumption))))).yields ?_); intro p4)
  go_returns
  exact ⟨rfl, hE0.out.trans (HX.out.trans (HX5.out.trans (by repeat (first | exact Ext.refl _ | assumption | refine Ext.more ?_ _ | refine Ext.drew ?_ | refine Ext.drewN ?_ _ | refine Ext.alloc ?_ _ | refine Ext.setCell ?_ (by simp; try omega) _ | refine Ext.trans ?_ (by assumption)))))⟩

def s1x : Scr := ⟨baseC, 20, [[], List.replicate 401 ⟨0, 0, 0⟩, [], []], [[], [], [], []]⟩
set_option maxRecDepth 100000 in
set_option maxHeartbeats 8000000 in
theorem walk1x (which : Int) (hw0 : 0 ≤ which) (hw1 : which ≤ 255) (hk : which % 6 = 1) (w : World) :
    Calls Try.prog 3 #[.int .u8 which, .bool true] w (Yields w (.bool true)) := by
  have hmk := mkAxns 401 401 rfl (by decide)
  have hmv := mkArvs 101 101 rfl (by decide)
  go_enter Try.func3, Try.ntmps3
  go_wp2_with fail
  refine (known4_any _).yields ?_
  intro p0
  have hE0 := hid (ext_more w p0)
  generalize more w p0 = w0 at *
  go_wp2_with fail
  refine (help_any _ 20).mono ?_
  rintro e w1 ⟨N, S, V, rfl, h1, x1⟩
  have HH := hid h1
  have bs := lt_of_block h1.sb
  have bv := lt_of_block h1.vb
  have sc0 := blk_cell h1.sb 0
  have sc1 := blk_cell h1.sb 1
  have vc0 := blk_cell h1.vb 0
  have vc2 := blk_cell h1.vb 2
  have vc3 := blk_cell h1.vb 3
  have sf0 := blk_free h1.sb 0
  have sf1 := blk_free h1.sb 1
  have vf0 := blk_free h1.vb 0
  have vf2 := blk_free h1.vb 2
  have vf3 := blk_free h1.vb 3
  simp only [nil4, List.getElem?_toArray, List.getElem?_cons_zero, List.getElem?_cons_succ] at sc0 sc1 vc0 vc2 vc3
  have HX1 := hid x1
  clear h1 x1
  go_upto_region 13 with (fail)
  go_region
  go_upto_region 20 with (fail)
  have HIS : Hid (isScr s1x = 12) := by rw [Hid]; kernel_rfl
  have hn := (heap_new2' w1 ⟨S, 1, none⟩ (.slice (some ⟨w1.heap.size + 1, 0, none⟩) 401 401) (helpO N S V 20) (axnsO 401)).2
  have hA := (heap_new2' w1 ⟨S, 1, none⟩ (.slice (some ⟨w1.heap.size + 1, 0, none⟩) 401 401) (helpO N S V 20) (axnsO 401)).1
  change Code.wp _ _ _ _ (((w1.setCell ⟨S, 1, none⟩ (.slice (some ⟨w1.heap.size + 1, 0, none⟩) 401 401)).alloc (helpO N S V 20)).alloc (axnsO 401)).drew
  refine wp_forget (fun v => SV N S V 20 s1x v ∧ v.heap[w1.heap.size]? = some (helpO N S V 20) ∧ Ext w0 v) ⟨?_, hA, Ext.drew (Ext.alloc (Ext.alloc (Ext.setCell HX1.out HH.out.hS _) _) _)⟩ ?_
  · refine ((HH.out.putS 1 (.slice (some ⟨w1.heap.size + 1, 0, none⟩) 401 401)).ext (Ext.drew (Ext.alloc (Ext.alloc (Ext.refl _) _) _))).script baseC_of rfl rfl (fun i l hi => ?_) (fun i l hi => ?_)
    · match i, hi with
      | 0, hi => simp at hi; subst hi; exact ⟨_, rfl, axns_nil _⟩
      | 1, hi => simp at hi; subst hi; exact ⟨_, rfl, axns_made (by decide) hn⟩
      | 2, hi => simp at hi; subst hi; exact ⟨_, rfl, axns_nil _⟩
      | 3, hi => simp at hi; subst hi; exact ⟨_, rfl, axns_nil _⟩
    · match i, hi with
      | 0, hi => simp at hi; subst hi; exact ⟨_, rfl, arvs_nil _⟩
      | 1, hi => simp at hi; subst hi; exact ⟨_, rfl, arvs_nil _⟩
      | 2, hi => simp at hi; subst hi; exact ⟨_, rfl, arvs_nil _⟩
      | 3, hi => simp at hi; subst hi; exact ⟨_, rfl, arvs_nil _⟩
  clear hmk hmv bs bv sc0 sc1 vc0 vc2 vc3 sf0 sf1 vf0 vf2 vf3 HH HX1 hn
  generalize w1.heap.size = A at *
  rintro v ⟨hs, hA, hx⟩
  have HS := hid hs
  have HX := hid hx
  have lA := lt_of_block hA
  have k0 := blk_cell hA 0
  have k1 := blk_cell hA 1
  have k2 := blk_cell hA 2
  have k3 := blk_cell hA 3
  have k4 := blk_cell hA 4
  have k5 := blk_cell hA 5
  have k6 := blk_cell hA 6
  simp only [List.getElem?_toArray, List.getElem?_cons_zero, List.getElem?_cons_succ] at k0 k1 k2 k3 k4 k5 k6
  clear hs hA hx
  have hIs := hid (fun z (hz : Ext v z) => show Calls Try.prog 7 #[helpV N S V 20] z (Yields z (.iface 34 (.int .i64 12))) from sIs HIS.out (HS.out.ext hz))
  have hBy := hid (fun z (hz : Ext v z) => gBytesNo (by rw [HIS.out]; decide) (HS.out.ext hz))
  go_wp2_with (first | (go_at_call 7; (with_reducible refine (hIs.out _ (by repeat (first | exact Ext.refl _ | assumption | refine Ext.more ?_ _ | refine Ext.drew ?_ | refine Ext.drewN ?_ _ | refine Ext.alloc ?_ _ | refine Ext.setCell ?_ (by simp; try omega) _ | refine Ext.trans ?_ (by assumption)))).yields ?_); intro p1) | (go_at_call 8; (with_reducible refine (is_errno_to' (r := true) rfl _).yields ?_); intro p2) | (go_at_call 9; (with_reducible refine (hBy.out _ (by repeat (first | exact Ext.refl _ | assumption | refine Ext.more ?_ _ | refine Ext.drew ?_ | refine Ext.drewN ?_ _ | refine Ext.alloc ?_ _ | refine Ext.setCell ?_ (by simp; try omega) _ | refine Ext.trans ?_ (by assumption)))).yields ?_); intro p3))
  go_returns
  exact ⟨rfl, hE0.out.trans (HX.out.trans (by repeat (first | exact Ext.refl _ | assumption | refine Ext.more ?_ _ | refine Ext.drew ?_ | refine Ext.drewN ?_ _ | refine Ext.alloc ?_ _ | refine Ext.setCell ?_ (by simp; try omega) _ | refine Ext.trans ?_ (by assumption))))⟩

def s2y : Scr := ⟨baseC, 20, [[], [], [], []], [[], [], List.replicate 100 ⟨0, 0⟩, []]⟩
set_option maxRecDepth 100000 in
set_option maxHeartbeats 8000000 in
theorem walk2y (which : Int) (hw0 : 0 ≤ which) (hw1 : which ≤ 255) (hk : which % 6 = 2) (w : World) :
    Calls Try.prog 3 #[.int .u8 which, .bool false] w (Yields w (.bool true)) := by
  have hmk := mkAxns 400 400 rfl (by decide)
  have hmv := mkArvs 100 100 rfl (by decide)
  go_enter Try.func3, Try.ntmps3
  go_wp2_with fail
  refine (known4_any _).yields ?_
  intro p0
  have hE0 := hid (ext_more w p0)
  generalize more w p0 = w0 at *
  go_wp2_with fail
  refine (help_any _ 20).mono ?_
  rintro e w1 ⟨N, S, V, rfl, h1, x1⟩
  have HH := hid h1
  have bs := lt_of_block h1.sb
  have bv := lt_of_block h1.vb
  have sc0 := blk_cell h1.sb 0
  have sc1 := blk_cell h1.sb 1
  have vc0 := blk_cell h1.vb 0
  have vc2 := blk_cell h1.vb 2
  have vc3 := blk_cell h1.vb 3
  have sf0 := blk_free h1.sb 0
  have sf1 := blk_free h1.sb 1
  have vf0 := blk_free h1.vb 0
  have vf2 := blk_free h1.vb 2
  have vf3 := blk_free h1.vb 3
  simp only [nil4, List.getElem?_toArray, List.getElem?_cons_zero, List.getElem?_cons_succ] at sc0 sc1 vc0 vc2 vc3
  have HX1 := hid x1
  clear h1 x1
  go_upto_region 15 with (fail)
  go_region
  go_upto_region 20 with (fail)
  have HIS : Hid (isScr s2y = 0) := by rw [Hid]; kernel_rfl
  have hn := (heap_new2' w1 ⟨V, 2, none⟩ (.slice (some ⟨w1.heap.size + 1, 0, none⟩) 100 100) (helpO N S V 20) (arvsO 100)).2
  have hA := (heap_new2' w1 ⟨V, 2, none⟩ (.slice (some ⟨w1.heap.size + 1, 0, none⟩) 100 100) (helpO N S V 20) (arvsO 100)).1
  change Code.wp _ _ _ _ (((w1.setCell ⟨V, 2, none⟩ (.slice (some ⟨w1.heap.size + 1, 0, none⟩) 100 100)).alloc (helpO N S V 20)).alloc (arvsO 100)).drew
  refine wp_forget (fun v => SV N S V 20 s2y v ∧ v.heap[w1.heap.size]? = some (helpO N S V 20) ∧ Ext w0 v) ⟨?_, hA, Ext.drew (Ext.alloc (Ext.alloc (Ext.setCell HX1.out HH.out.hV _) _) _)⟩ ?_
  · refine ((HH.out.putV 2 (.slice (some ⟨w1.heap.size + 1, 0, none⟩) 100 100)).ext (Ext.drew (Ext.alloc (Ext.alloc (Ext.refl _) _) _))).script baseC_of rfl rfl (fun i l hi => ?_) (fun i l hi => ?_)
    · match i, hi with
      | 0, hi => simp at hi; subst hi; exact ⟨_, rfl, axns_nil _⟩
      | 1, hi => simp at hi; subst hi; exact ⟨_, rfl, axns_nil _⟩
      | 2, hi => simp at hi; subst hi; exact ⟨_, rfl, axns_nil _⟩
      | 3, hi => simp at hi; subst hi; exact ⟨_, rfl, axns_nil _⟩
    · match i, hi with
      | 0, hi => simp at hi; subst hi; exact ⟨_, rfl, arvs_nil _⟩
      | 1, hi => simp at hi; subst hi; exact ⟨_, rfl, arvs_nil _⟩
      | 2, hi => simp at hi; subst hi; exact ⟨_, rfl, arvs_made (by decide) hn⟩
      | 3, hi => simp at hi; subst hi; exact ⟨_, rfl, arvs_nil _⟩
  clear hmk hmv bs bv sc0 sc1 vc0 vc2 vc3 sf0 sf1 vf0 vf2 vf3 HH HX1 hn
  generalize w1.heap.size = A at *
  rintro v ⟨hs, hA, hx⟩
  have HS := hid hs
  have HX := hid hx
  have lA := lt_of_block hA
  have k0 := blk_cell hA 0
  have k1 := blk_cell hA 1
  have k2 := blk_cell hA 2
  have k3 := blk_cell hA 3
  have k4 := blk_cell hA 4
  have k5 := blk_cell hA 5
  have k6 := blk_cell hA 6
  simp only [List.getElem?_toArray, List.getElem?_cons_zero, List.getElem?_cons_succ] at k0 k1 k2 k3 k4 k5 k6
  clear hs hA hx
  have HLN := hid (g_len HIS.out rfl)
  have hIs := hid (fun z (hz : Ext v z) => show Calls Try.prog 7 #[helpV N S V 20] z (Yields z .nilIface) from sIs HIS.out (HS.out.ext hz))
  have hBy := hid (fun z (hz : Ext v z) => gBytes HIS.out base_in HLN.out (HS.out.ext hz))
  have hRd := hid (fun z => gRead' (h := 20) HIS.out base_in HLN.out rfl rfl rfl rfl z)
  have hen := fun w => run_eql_nil_nil' (P := Try.prog) w Try.underlying33
  have hl4 : ((allBytes s2y).length : Int) ≤ 40000 := by have := HLN.out; omega
  obtain ⟨l, hl⟩ : ∃ l, l = allBytes s2y := ⟨_, rfl⟩
  rw [← hl] at hBy hRd hl4
  clear hl
  go_wp2_with (first | (go_at_call 7; (with_reducible refine (hIs.out _ (by repeat (first | exact Ext.refl _ | assumption | refine Ext.more ?_ _ | refine Ext.drew ?_ | refine Ext.drewN ?_ _ | refine Ext.alloc ?_ _ | refine Ext.setCell ?_ (by simp; try omega) _ | refine Ext.trans ?_ (by assumption)))).yields ?_); intro p1) | (go_at_call 9; (with_reducible refine (hBy.out _ (by repeat (first | exact Ext.refl _ | assumption | refine Ext.more ?_ _ | refine Ext.drew ?_ | refine Ext.drewN ?_ _ | refine Ext.alloc ?_ _ | refine Ext.setCell ?_ (by simp; try omega) _ | refine Ext.trans ?_ (by assumption)))).yields ?_); intro p3))
  refine (hRd.out _).mono ?_
  rintro e v5 ⟨pp, cp, pd, cd, ps, cs, pa, ca, rfl, ht, hx5⟩
  have HX5 := hid ((show Ext v _ from (by repeat (first | exact Ext.refl _ | assumption | refine Ext.more ?_ _ | refine Ext.drew ?_ | refine Ext.drewN ?_ _ | refine Ext.alloc ?_ _ | refine Ext.setCell ?_ (by simp; try omega) _ | refine Ext.trans ?_ (by assumption)))).trans hx5)
  have HT := hid ht
  have l5 := HX5.out.size
  have lA5 : A < v5.heap.size := by omega
  have m0 := HX5.out.cell k0
  have m1 := HX5.out.cell k1
  have m2 := HX5.out.cell k2
  have m3 := HX5.out.cell k3
  have m4 := HX5.out.cell k4
  have m5 := HX5.out.cell k5
  have m6 := HX5.out.cell k6
  clear ht hx5 k0 k1 k2 k3 k4 k5 k6
  go_wp2_with (go_at_call 11; (with_reducible refine (gSame' (HS.out.ext (HX5.out.trans (by repeat (first | exact Ext.refl _ | assumption | refine Ext.more ?_ _ | refine Ext.drew ?_ | refine Ext.drewN ?_ _ | refine Ext.alloc ?_ _ | refine Ext.setCell ?_ (by simp; try omega) _ | refine Ext.trans ?_ (by assumption))))) (HT.out.ext (by repeat (first | exact Ext.refl _ | assumption | refine Ext.more ?_ _ | refine Ext.drew ?_ | refine Ext.drewN ?_ _ | refine Ext.alloc ?_ _ | refine Ext.setCell ?_ (by simp; try omega) _ | refine Ext.trans ?_ (by assumption))))).yields ?_); intro p4)
  go_returns
  exact ⟨rfl, hE0.out.trans (HX.out.trans (HX5.out.trans (by repeat (first | exact Ext.refl _ | assumption | refine Ext.more ?_ _ | refine Ext.drew ?_ | refine Ext.drewN ?_ _ | refine Ext.alloc ?_ _ | refine Ext.setCell ?_ (by simp; try omega) _ | refine Ext.trans ?_ (by assumption)))))⟩

def s2x : Scr := ⟨baseC, 20, [[], [], [], []], [[], [], List.replicate 101 ⟨0, 0⟩, []]⟩
set_option maxRecDepth 100000 in
set_option maxHeartbeats 8000000 in
theorem walk2x (which : Int) (hw0 : 0 ≤ which) (hw1 : which ≤ 255) (hk : which % 6 = 2) (w : World) :
    Calls Try.prog 3 #[.int .u8 which, .bool true] w (Yields w (.bool true)) := by
  have hmk := mkAxns 401 401 rfl (by decide)
  have hmv := mkArvs 101 101 rfl (by decide)
  go_enter Try.func3, Try.ntmps3
  go_wp2_with fail
  refine (known4_any _).yields ?_
  intro p0
  have hE0 := hid (ext_more w p0)
  generalize more w p0 = w0 at *
  go_wp2_with fail
  refine (help_any _ 20).mono ?_
  rintro e w1 ⟨N, S, V, rfl, h1, x1⟩
  have HH := hid h1
  have bs := lt_of_block h1.sb
  have bv := lt_of_block h1.vb
  have sc0 := blk_cell h1.sb 0
  have sc1 := blk_cell h1.sb 1
  have vc0 := blk_cell h1.vb 0
  have vc2 := blk_cell h1.vb 2
  have vc3 := blk_cell h1.vb 3
  have sf0 := blk_free h1.sb 0
  have sf1 := blk_free h1.sb 1
  have vf0 := blk_free h1.vb 0
  have vf2 := blk_free h1.vb 2
  have vf3 := blk_free h1.vb 3
  simp only [nil4, List.getElem?_toArray, List.getElem?_cons_zero, List.getElem?_cons_succ] at sc0 sc1 vc0 vc2 vc3
  have HX1 := hid x1
  clear h1 x1
  go_upto_region 15 with (fail)
  go_region
  go_upto_region 20 with (fail)
  have HIS : Hid (isScr s2x = 12) := by rw [Hid]; kernel_rfl
  have hn := (heap_new2' w1 ⟨V, 2, none⟩ (.slice (some ⟨w1.heap.size + 1, 0, none⟩) 101 101) (helpO N S V 20) (arvsO 101)).2
  have hA := (heap_new2' w1 ⟨V, 2, none⟩ (.slice (some ⟨w1.heap.size + 1, 0, none⟩) 101 101) (helpO N S V 20) (arvsO 101)).1
  change Code.wp _ _ _ _ (((w1.setCell ⟨V, 2, none⟩ (.slice (some ⟨w1.heap.size + 1, 0, none⟩) 101 101)).alloc (helpO N S V 20)).alloc (arvsO 101)).drew
  refine wp_forget (fun v => SV N S V 20 s2x v ∧ v.heap[w1.heap.size]? = some (helpO N S V 20) ∧ Ext w0 v) ⟨?_, hA, Ext.drew (Ext.alloc (Ext.alloc (Ext.setCell HX1.out HH.out.hV _) _) _)⟩ ?_
  · refine ((HH.out.putV 2 (.slice (some ⟨w1.heap.size + 1, 0, none⟩) 101 101)).ext (Ext.drew (Ext.alloc (Ext.alloc (Ext.refl _) _) _))).script baseC_of rfl rfl (fun i l hi => ?_) (fun i l hi => ?_)
    · match i, hi with
      | 0, hi => simp at hi; subst hi; exact ⟨_, rfl, axns_nil _⟩
      | 1, hi => simp at hi; subst hi; exact ⟨_, rfl, axns_nil _⟩
      | 2, hi => simp at hi; subst hi; exact ⟨_, rfl, axns_nil _⟩
      | 3, hi => simp at hi; subst hi; exact ⟨_, rfl, axns_nil _⟩
    · match i, hi with
      | 0, hi => simp at hi; subst hi; exact ⟨_, rfl, arvs_nil _⟩
      | 1, hi => simp at hi; subst hi; exact ⟨_, rfl, arvs_nil _⟩
      | 2, hi => simp at hi; subst hi; exact ⟨_, rfl, arvs_made (by decide) hn⟩
      | 3, hi => simp at hi; subst hi; exact ⟨_, rfl, arvs_nil _⟩
  clear hmk hmv bs bv sc0 sc1 vc0 vc2 vc3 sf0 sf1 vf0 vf2 vf3 HH HX1 hn
  generalize w1.heap.size = A at *
  rintro v ⟨hs, hA, hx⟩
  have HS := hid hs
  have HX := hid hx
  have lA := lt_of_block hA
  have k0 := blk_cell hA 0
  have k1 := blk_cell hA 1
  have k2 := blk_cell hA 2
  have k3 := blk_cell hA 3
  have k4 := blk_cell hA 4
  have k5 := blk_cell hA 5
  have k6 := blk_cell hA 6
  simp only [List.getElem?_toArray, List.getElem?_cons_zero, List.getElem?_cons_succ] at k0 k1 k2 k3 k4 k5 k6
  clear hs hA hx
  have hIs := hid (fun z (hz : Ext v z) => show Calls Try.prog 7 #[helpV N S V 20] z (Yields z (.iface 34 (.int .i64 12))) from sIs HIS.out (HS.out.ext hz))
  have hBy := hid (fun z (hz : Ext v z) => gBytesNo (by rw [HIS.out]; decide) (HS.out.ext hz))
  go_wp2_with (first | (go_at_call 7; (with_reducible refine (hIs.out _ (by repeat (first | exact Ext.refl _ | assumption | refine Ext.more ?_ _ | refine Ext.drew ?_ | refine Ext.drewN ?_ _ | refine Ext.alloc ?_ _ | refine Ext.setCell ?_ (by simp; try omega) _ | refine Ext.trans ?_ (by assumption)))).yields ?_); intro p1) | (go_at_call 8; (with_reducible refine (is_errno_to' (r := true) rfl _).yields ?_); intro p2) | (go_at_call 9; (with_reducible refine (hBy.out _ (by repeat (first | exact Ext.refl _ | assumption | refine Ext.more ?_ _ | refine Ext.drew ?_ | refine Ext.drewN ?_ _ | refine Ext.alloc ?_ _ | refine Ext.setCell ?_ (by simp; try omega) _ | refine Ext.trans ?_ (by assumption)))).yields ?_); intro p3))
  go_returns
  exact ⟨rfl, hE0.out.trans (HX.out.trans (by repeat (first | exact Ext.refl _ | assumption | refine Ext.more ?_ _ | refine Ext.drew ?_ | refine Ext.drewN ?_ _ | refine Ext.alloc ?_ _ | refine Ext.setCell ?_ (by simp; try omega) _ | refine Ext.trans ?_ (by assumption))))⟩

def s5y : Scr := ⟨baseC, 20, [[], [], [], []], [[], [], [], [⟨2000, 0⟩]]⟩
set_option maxRecDepth 100000 in
set_option maxHeartbeats 8000000 in
theorem walk5y (which : Int) (hw0 : 0 ≤ which) (hw1 : which ≤ 255) (hk : which % 6 = 5) (w : World) :
    Calls Try.prog 3 #[.int .u8 which, .bool false] w (Yields w (.bool true)) := by
  have hmk := mkAxns 400 400 rfl (by decide)
  have hmv := mkArvs 100 100 rfl (by decide)
  go_enter Try.func3, Try.ntmps3
  go_wp2_with fail
  refine (known4_any _).yields ?_
  intro p0
  have hE0 := hid (ext_more w p0)
  generalize more w p0 = w0 at *
  go_wp2_with fail
  refine (help_any _ 20).mono ?_
  rintro e w1 ⟨N, S, V, rfl, h1, x1⟩
  have HH := hid h1
  have bs := lt_of_block h1.sb
  have bv := lt_of_block h1.vb
  have sc0 := blk_cell h1.sb 0
  have sc1 := blk_cell h1.sb 1
  have vc0 := blk_cell h1.vb 0
  have vc2 := blk_cell h1.vb 2
  have vc3 := blk_cell h1.vb 3
  have sf0 := blk_free h1.sb 0
  have sf1 := blk_free h1.sb 1
  have vf0 := blk_free h1.vb 0
  have vf2 := blk_free h1.vb 2
  have vf3 := blk_free h1.vb 3
  simp only [nil4, List.getElem?_toArray, List.getElem?_cons_zero, List.getElem?_cons_succ] at sc0 sc1 vc0 vc2 vc3
  have HX1 := hid x1
  clear h1 x1
  go_upto_region 20 with (fail)
  have HIS : Hid (isScr s5y = 0) := by rw [Hid]; kernel_rfl
  have hn := (heap_new2' w1 ⟨V, 3, none⟩ (.slice (some ⟨w1.heap.size + 1, 0, none⟩) 1 1) (helpO N S V 20) (arvO 2000 0)).2
  have hA := (heap_new2' w1 ⟨V, 3, none⟩ (.slice (some ⟨w1.heap.size + 1, 0, none⟩) 1 1) (helpO N S V 20) (arvO 2000 0)).1
  change Code.wp _ _ _ _ (((w1.setCell ⟨V, 3, none⟩ (.slice (some ⟨w1.heap.size + 1, 0, none⟩) 1 1)).alloc (helpO N S V 20)).alloc (arvO 2000 0))
  refine wp_forget (fun v => SV N S V 20 s5y v ∧ v.heap[w1.heap.size]? = some (helpO N S V 20) ∧ Ext w0 v) ⟨?_, hA, (Ext.alloc (Ext.alloc (Ext.setCell HX1.out HH.out.hV _) _) _)⟩ ?_
  · refine ((HH.out.putV 3 (.slice (some ⟨w1.heap.size + 1, 0, none⟩) 1 1)).ext (Ext.alloc (Ext.alloc (Ext.refl _) _) _)).script baseC_of rfl rfl (fun i l hi => ?_) (fun i l hi => ?_)
    · match i, hi with
      | 0, hi => simp at hi; subst hi; exact ⟨_, rfl, axns_nil _⟩
      | 1, hi => simp at hi; subst hi; exact ⟨_, rfl, axns_nil _⟩
      | 2, hi => simp at hi; subst hi; exact ⟨_, rfl, axns_nil _⟩
      | 3, hi => simp at hi; subst hi; exact ⟨_, rfl, axns_nil _⟩
    · match i, hi with
      | 0, hi => simp at hi; subst hi; exact ⟨_, rfl, arvs_nil _⟩
      | 1, hi => simp at hi; subst hi; exact ⟨_, rfl, arvs_nil _⟩
      | 2, hi => simp at hi; subst hi; exact ⟨_, rfl, arvs_nil _⟩
      | 3, hi => simp at hi; subst hi; exact ⟨_, rfl, arvs_one (x := ⟨2000, 0⟩) hn⟩
  clear hmk hmv bs bv sc0 sc1 vc0 vc2 vc3 sf0 sf1 vf0 vf2 vf3 HH HX1 hn
  generalize w1.heap.size = A at *
  rintro v ⟨hs, hA, hx⟩
  have HS := hid hs
  have HX := hid hx
  have lA := lt_of_block hA
  have k0 := blk_cell hA 0
  have k1 := blk_cell hA 1
  have k2 := blk_cell hA 2
  have k3 := blk_cell hA 3
  have k4 := blk_cell hA 4
  have k5 := blk_cell hA 5
  have k6 := blk_cell hA 6
  simp only [List.getElem?_toArray, List.getElem?_cons_zero, List.getElem?_cons_succ] at k0 k1 k2 k3 k4 k5 k6
  clear hs hA hx
  have HLN := hid (g_len HIS.out rfl)
  have hIs := hid (fun z (hz : Ext v z) => show Calls Try.prog 7 #[helpV N S V 20] z (Yields z .nilIface) from sIs HIS.out (HS.out.ext hz))
  have hBy := hid (fun z (hz : Ext v z) => gBytes HIS.out base_in HLN.out (HS.out.ext hz))
  have hRd := hid (fun z => gRead' (h := 20) HIS.out base_in HLN.out rfl rfl rfl rfl z)
  have hen := fun w => run_eql_nil_nil' (P := Try.prog) w Try.underlying33
  have hl4 : ((allBytes s5y).length : Int) ≤ 40000 := by have := HLN.out; omega
  obtain ⟨l, hl⟩ : ∃ l, l = allBytes s5y := ⟨_, rfl⟩
  rw [← hl] at hBy hRd hl4
  clear hl
  go_wp2_with (first | (go_at_call 7; (with_reducible refine (hIs.out _ (by repeat (first | exact Ext.refl _ | assumption | refine Ext.more ?_ _ | refine Ext.drew ?_ | refine Ext.drewN ?_ _ | refine Ext.alloc ?_ _ | refine Ext.setCell ?_ (by simp; try omega) _ | refine Ext.trans ?_ (by assumption)))).yields ?_); intro p1) | (go_at_call 9; (with_reducible refine (hBy.out _ (by repeat (first | exact Ext.refl _ | assumption | refine Ext.more ?_ _ | refine Ext.drew ?_ | refine Ext.drewN ?_ _ | refine Ext.alloc ?_ _ | refine Ext.setCell ?_ (by simp; try omega) _ | refine Ext.trans ?_ (by assumption)))).yields ?_); intro p3))
  refine (hRd.out _).mono ?_
  rintro e v5 ⟨pp, cp, pd, cd, ps, cs, pa, ca, rfl, ht, hx5⟩
  have HX5 := hid ((show Ext v _ from (by repeat (first | exact Ext.refl _ | assumption | refine Ext.more ?_ _ | refine Ext.drew ?_ | refine Ext.drewN ?_ _ | refine Ext.alloc ?_ _ | refine Ext.setCell ?_ (by simp; try omega) _ | refine Ext.trans ?_ (by assumption)))).trans hx5)
  have HT := hid ht
  have l5 := HX5.out.size
  have lA5 : A < v5.heap.size := by omega
  have m0 := HX5.out.cell k0
  have m1 := HX5.out.cell k1
  have m2 := HX5.out.cell k2
  have m3 := HX5.out.cell k3
  have m4 := HX5.out.cell k4
  have m5 := HX5.out.cell k5
  have m6 := HX5.out.cell k6
  clear ht hx5 k0 k1 k2 k3 k4 k5 k6
  go_wp2_with (go_at_call 11; (with_reducible refine (gSame' (HS.out.ext (HX5.out.trans (by repeat (first | exact Ext.refl _ | assumption | refine Ext.more ?_ _ | refine Ext.drew ?_ | refine Ext.drewN ?_ _ | refine Ext.alloc ?_ _ | refine Ext.setCell ?_ (by simp; try omega) _ | refine Ext.trans ?_ (by assumption))))) (HT.out.ext (by repeat (first | exact Ext.refl _ | assumption | refine Ext.more ?_ _ | refine Ext.drew ?_ | refine Ext.drewN ?_ _ | refine Ext.alloc ?_ _ | refine Ext.setCell ?_ (by simp; try omega) _ | refine Ext.trans ?_ (by assumption))))).yields ?_); intro p4)
  go_returns
  exact ⟨rfl, hE0.out.trans (HX.out.trans (HX5.out.trans (by repeat (first | exact Ext.refl _ | assumption | refine Ext.more ?_ _ | refine Ext.drew ?_ | refine Ext.drewN ?_ _ | refine Ext.alloc ?_ _ | refine Ext.setCell ?_ (by simp; try omega) _ | refine Ext.trans ?_ (by assumption)))))⟩

def s5x : Scr := ⟨baseC, 20, [[], [], [], []], [[], [], [], [⟨2001, 0⟩]]⟩
set_option maxRecDepth 100000 in
set_option maxHeartbeats 8000000 in
theorem walk5x (which : Int) (hw0 : 0 ≤ which) (hw1 : which ≤ 255) (hk : which % 6 = 5) (w : World) :
    Calls Try.prog 3 #[.int .u8 which, .bool true] w (Yields w (.bool true)) := by
  have hmk := mkAxns 401 401 rfl (by decide)
  have hmv := mkArvs 101 101 rfl (by decide)
  go_enter Try.func3, Try.ntmps3
  go_wp2_with fail
  refine (known4_any _).yields ?_
  intro p0
  have hE0 := hid (ext_more w p0)
  generalize more w p0 = w0 at *
  go_wp2_with fail
  refine (help_any _ 20).mono ?_
  rintro e w1 ⟨N, S, V, rfl, h1, x1⟩
  have HH := hid h1
  have bs := lt_of_block h1.sb
  have bv := lt_of_block h1.vb
  have sc0 := blk_cell h1.sb 0
  have sc1 := blk_cell h1.sb 1
  have vc0 := blk_cell h1.vb 0
  have vc2 := blk_cell h1.vb 2
  have vc3 := blk_cell h1.vb 3
  have sf0 := blk_free h1.sb 0
  have sf1 := blk_free h1.sb 1
  have vf0 := blk_free h1.vb 0
  have vf2 := blk_free h1.vb 2
  have vf3 := blk_free h1.vb 3
  simp only [nil4, List.getElem?_toArray, List.getElem?_cons_zero, List.getElem?_cons_succ] at sc0 sc1 vc0 vc2 vc3
  have HX1 := hid x1
  clear h1 x1
  go_upto_region 20 with (fail)
  have HIS : Hid (isScr s5x = 10) := by rw [Hid]; kernel_rfl
  have hn := (heap_new2' w1 ⟨V, 3, none⟩ (.slice (some ⟨w1.heap.size + 1, 0, none⟩) 1 1) (helpO N S V 20) (arvO 2001 0)).2
  have hA := (heap_new2' w1 ⟨V, 3, none⟩ (.slice (some ⟨w1.heap.size + 1, 0, none⟩) 1 1) (helpO N S V 20) (arvO 2001 0)).1
  change Code.wp _ _ _ _ (((w1.setCell ⟨V, 3, none⟩ (.slice (some ⟨w1.heap.size + 1, 0, none⟩) 1 1)).alloc (helpO N S V 20)).alloc (arvO 2001 0))
  refine wp_forget (fun v => SV N S V 20 s5x v ∧ v.heap[w1.heap.size]? = some (helpO N S V 20) ∧ Ext w0 v) ⟨?_, hA, (Ext.alloc (Ext.alloc (Ext.setCell HX1.out HH.out.hV _) _) _)⟩ ?_
  · refine ((HH.out.putV 3 (.slice (some ⟨w1.heap.size + 1, 0, none⟩) 1 1)).ext (Ext.alloc (Ext.alloc (Ext.refl _) _) _)).script baseC_of rfl rfl (fun i l hi => ?_) (fun i l hi => ?_)
    · match i, hi with
      | 0, hi => simp at hi; subst hi; exact ⟨_, rfl, axns_nil _⟩
      | 1, hi => simp at hi; subst hi; exact ⟨_, rfl, axns_nil _⟩
      | 2, hi => simp at hi; subst hi; exact ⟨_, rfl, axns_nil _⟩
      | 3, hi => simp at hi; subst hi; exact ⟨_, rfl, axns_nil _⟩
    · match i, hi with
      | 0, hi => simp at hi; subst hi; exact ⟨_, rfl, arvs_nil _⟩
      | 1, hi => simp at hi; subst hi; exact ⟨_, rfl, arvs_nil _⟩
      | 2, hi => simp at hi; subst hi; exact ⟨_, rfl, arvs_nil _⟩
      | 3, hi => simp at hi; subst hi; exact ⟨_, rfl, arvs_one (x := ⟨2001, 0⟩) hn⟩
  clear hmk hmv bs bv sc0 sc1 vc0 vc2 vc3 sf0 sf1 vf0 vf2 vf3 HH HX1 hn
  generalize w1.heap.size = A at *
  rintro v ⟨hs, hA, hx⟩
  have HS := hid hs
  have HX := hid hx
  have lA := lt_of_block hA
  have k0 := blk_cell hA 0
  have k1 := blk_cell hA 1
  have k2 := blk_cell hA 2
  have k3 := blk_cell hA 3
  have k4 := blk_cell hA 4
  have k5 := blk_cell hA 5
  have k6 := blk_cell hA 6
  simp only [List.getElem?_toArray, List.getElem?_cons_zero, List.getElem?_cons_succ] at k0 k1 k2 k3 k4 k5 k6
  clear hs hA hx
  have hIs := hid (fun z (hz : Ext v z) => show Calls Try.prog 7 #[helpV N S V 20] z (Yields z (.iface 34 (.int .i64 10))) from sIs HIS.out (HS.out.ext hz))
  have hBy := hid (fun z (hz : Ext v z) => gBytesNo (by rw [HIS.out]; decide) (HS.out.ext hz))
  go_wp2_with (first | (go_at_call 7; (with_reducible refine (hIs.out _ (by repeat (first | exact Ext.refl _ | assumption | refine Ext.more ?_ _ | refine Ext.drew ?_ | refine Ext.drewN ?_ _ | refine Ext.alloc ?_ _ | refine Ext.setCell ?_ (by simp; try omega) _ | refine Ext.trans ?_ (by assumption)))).yields ?_); intro p1) | (go_at_call 8; (with_reducible refine (is_errno_to' (r := true) rfl _).yields ?_); intro p2) | (go_at_call 9; (with_reducible refine (hBy.out _ (by repeat (first | exact Ext.refl _ | assumption | refine Ext.more ?_ _ | refine Ext.drew ?_ | refine Ext.drewN ?_ _ | refine Ext.alloc ?_ _ | refine Ext.setCell ?_ (by simp; try omega) _ | refine Ext.trans ?_ (by assumption)))).yields ?_); intro p3))
  go_returns
  exact ⟨rfl, hE0.out.trans (HX.out.trans (by repeat (first | exact Ext.refl _ | assumption | refine Ext.more ?_ _ | refine Ext.drew ?_ | refine Ext.drewN ?_ _ | refine Ext.alloc ?_ _ | refine Ext.setCell ?_ (by simp; try omega) _ | refine Ext.trans ?_ (by assumption))))⟩
end scriptLimits
end Go.Proofs.Ytbllibgddiiboaa
