/- ScriptUnlike: of every number of a case and of a change: the law answers true. No conditions. -/
import Derived.Test.YtbllibgddiiboaaUnlA
import Derived.Test.YtbllibgddiiboaaScU
import Derived.Test.YtbllibgddiiboaaOwn2
import Derived.Deep.CutRange
import Derived.Deep.QuietTactic
import Derived.BigQuiet
import Derived.BigRegion
namespace Go.Proofs.Ytbllibgddiiboaa
open Go.ChangeShapes Go.WideShapes Go.ChangeAt Go.RowKit Go.Joins Go.Deep
set_option linter.unusedVariables false

namespace scriptUnlike

def b5a : Scr := ⟨baseC, 20, [[], List.replicate 1 ⟨0, 0, 0⟩, [], []], nilA⟩
set_option maxRecDepth 100000 in
set_option maxHeartbeats 8000000 in
theorem walk5a (which n : Int) (hw0 : 0 ≤ which) (hw1 : which ≤ 255) (hn0 : 0 ≤ n) (hn1 : n ≤ 255) (hk : which % 9 = 5) (hn : n % 4 = 0) (w : World) :
    Calls Try.prog 4 #[.int .u8 which, .int .u8 n] w (Yields w (.bool true)) := by
  have hmk := mkAxns 1 1 rfl (by decide)
  go_enter Try.func4, Try.ntmps4
  go_wp2_with fail
  refine (known4_any _).yields ?_
  intro p0
  have hE0 := hid (ext_more w p0)
  generalize more w p0 = w0 at *
  go_wp2_with fail
  refine (help_any _ 20).mono ?_
  rintro e w1 ⟨Na, Sa, Va, rfl, ha, xa⟩
  go_wp2_with fail
  refine (help_any _ 20).mono ?_
  rintro e w2 ⟨Nb, Sb, Vb, rfl, hb, xb⟩
  have lna := lt_of_block (ha.lies.block (b := 13) rfl)
  have bsa := lt_of_block ha.sb
  have bva := lt_of_block ha.vb
  have hw12 := xb.size
  go_upto_region 5 with (fail)
  refine wp_forget (fun v => HelpS w0.heap.size Na Sa Va baseRO nil4 nil4 v ∧ HelpS w1.heap.size Nb Sb Vb baseRO nil4 nil4 v ∧ v.heap[w2.heap.size]? = some (helpO Na Sa Va 20) ∧ v.heap[w2.heap.size + 1]? = some (helpO Nb Sb Vb 20) ∧ Ext w0 v ∧ Nb + 13 < w2.heap.size ∧ Sb < w2.heap.size ∧ Vb < w2.heap.size)
    ⟨ha.ext (xb.trans (Ext.alloc (Ext.alloc (Ext.refl _) _) _)), hb.ext (Ext.alloc (Ext.alloc (Ext.refl _) _) _), block_ext (Ext.alloc (Ext.refl _) _) (heap_alloc_new w2 (helpO Na Sa Va 20)), heap_new2 w2 (helpO Na Sa Va 20) (helpO Nb Sb Vb 20), (xa.trans xb).trans (Ext.alloc (Ext.alloc (Ext.refl _) _) _), lt_of_block (hb.lies.block (b := 13) rfl), lt_of_block hb.sb, lt_of_block hb.vb⟩ ?_
  clear ha hb xa xb
  generalize w2.heap.size = A at *
  clear w2
  rintro v ⟨ha, hb, hA, hB, xv, b13, bsb, bvb⟩
  have HA := hid ha
  have HB := hid hb
  have XV := hid xv
  have HBA := hid hA
  have HBB := hid hB
  have hNa := ha.hN
  have hSa := ha.hS
  have hNb := hb.hN
  have hSb := hb.hS
  have hVb := hb.hV
  have lB := lt_of_block hB
  have bs := lt_of_block hb.sb
  have bv := lt_of_block hb.vb
  have bs2 := lt_of_block ha.sb
  have sa1 := blk_cell ha.sb 1
  have saf := blk_free ha.sb 1
  have sc1 := blk_cell hb.sb 1
  have vc2 := blk_cell hb.vb 2
  have sf1 := blk_free hb.sb 1
  have vf2 := blk_free hb.vb 2
  have pc : v.cell? ⟨Nb + 3, 0, none⟩ = some (.slice (some ⟨Nb + 1, 0, none⟩) 4 4) := hb.lies.at (b := 3) (j := 0) (v := .s 1 4) rfl
  have rc : v.cell? ⟨Nb + 1, 1, none⟩ = some (.int .i64 2) := hb.lies.at (b := 1) (j := 1) (v := .i 2) rfl
  have rf : v.frozen? ⟨Nb + 1, 1, none⟩ = false := hb.lies.free (b := 1) (j := 1) (v := .i 2) rfl
  have d31 : v.cell? ⟨Nb + 13, 31, none⟩ = some (.int .u64 3) := hb.lies.at (b := 13) (j := 31) (v := .u 3) rfl
  have f31 : v.frozen? ⟨Nb + 13, 31, none⟩ = false := hb.lies.free (b := 13) (j := 31) (v := .u 3) rfl
  have d25 : v.cell? ⟨Nb + 13, 25, none⟩ = some (.int .i64 4) := hb.lies.at (b := 13) (j := 25) (v := .i 4) rfl
  have f25 : v.frozen? ⟨Nb + 13, 25, none⟩ = false := hb.lies.free (b := 13) (j := 25) (v := .i 4) rfl
  have d02 : v.cell? ⟨Nb + 13, 2, none⟩ = some (.slice (some ⟨Nb + 6, 0, none⟩) 2 2) := hb.lies.at (b := 13) (j := 2) (v := .s 6 2) rfl
  have f02 : v.frozen? ⟨Nb + 13, 2, none⟩ = false := hb.lies.free (b := 13) (j := 2) (v := .s 6 2) rfl
  have d33 : v.cell? ⟨Nb + 13, 33, none⟩ = some (.slice (some ⟨Nb + 12, 0, none⟩) 3 3) := hb.lies.at (b := 13) (j := 33) (v := .s 12 3) rfl
  have f33 : v.frozen? ⟨Nb + 13, 33, none⟩ = false := hb.lies.free (b := 13) (j := 33) (v := .s 12 3) rfl
  have ln13 : Nb + 13 < v.heap.size := by omega
  have q2 : v.cell? ⟨A + 1, 2, none⟩ = some (.slice (some ⟨Nb + 3, 0, none⟩) 2 2) := blk_cell hB 2
  have q3 : v.cell? ⟨A + 1, 3, none⟩ = some (.slice (some ⟨Nb + 13, 0, none⟩) 4 4) := blk_cell hB 3
  have q4 : v.cell? ⟨A + 1, 4, none⟩ = some (.int .i64 20) := blk_cell hB 4
  have q5 : v.cell? ⟨A + 1, 5, none⟩ = some (.slice (some ⟨Sb, 0, none⟩) 4 4) := blk_cell hB 5
  have q6 : v.cell? ⟨A + 1, 6, none⟩ = some (.slice (some ⟨Vb, 0, none⟩) 4 4) := blk_cell hB 6
  have qf : v.frozen? ⟨A + 1, 4, none⟩ = false := blk_free hB 4
  have r5 : v.cell? ⟨A, 5, none⟩ = some (.slice (some ⟨Sa, 0, none⟩) 4 4) := blk_cell hA 5
  have lA : A < v.heap.size := by omega
  simp only [nil4, List.getElem?_toArray, List.getElem?_cons_zero, List.getElem?_cons_succ] at sa1 sc1 vc2
  clear ha hb hA hB xv
  go_upto_region 18 with (fail)
  go_region
  go_upto_region 24 with (fail)
  refine wp_forget (fun y => SV Na Sa Va 20 sZ y ∧ SV Nb Sb Vb 20 b5a y ∧ y.heap[A]? = some (helpO Na Sa Va 20) ∧ y.heap[A + 1]? = some (helpO Nb Sb Vb 20) ∧ Ext w0 y) ⟨?_, ?_, block_ext (Ext.drew (Ext.alloc (Ext.refl _) _)) ((Below.heap_setCell _ _ _ _ (by show A ≠ Sb; omega)).trans HBA.out), block_ext (Ext.drew (Ext.alloc (Ext.refl _) _)) ((Below.heap_setCell _ _ _ _ (by show A + 1 ≠ Sb; omega)).trans HBB.out), (Ext.drew (Ext.alloc (XV.out.setCell (by show w0.heap.size ≤ Sb; omega) _) _))⟩ ?_
  · exact ((HA.out.aside (b := Sb) _ (by omega) (by omega) (by omega)).ext (Ext.drew (Ext.alloc (Ext.refl _) _))).script baseC_of rfl rfl (nilS_v _) (nilA_v _)
  · have hn : ((v.setCell ⟨Sb, 1, none⟩ (.slice (some ⟨v.heap.size, 0, none⟩) 1 1)).alloc (axnsO 1)).heap[v.heap.size]? = some (axnsO 1) := heap_new1' v _ _ _
    exact ((HB.out.putS 1 (.slice (some ⟨v.heap.size, 0, none⟩) 1 1)).ext (Ext.drew (Ext.alloc (Ext.refl _) _))).script baseC_of rfl rfl (oneS_v (axns_made (by decide) hn)) (nilA_v _)
  clear HA HB XV HBA HBB hNa hSa hNb hSb hVb lB bs bv bs2 sa1 saf sc1 vc2 sf1 vf2 pc rc rf d31 f31 d25 f25 d02 f02 d33 f33 ln13 q2 q3 q4 q5 q6 qf r5 lA hmk b13 bsb bvb
  rintro y ⟨sa, sb, kA, kB, hx⟩
  (try clear v)
  have HX := hid hx
  have FA : ScFit sZ := .of (by kernel_rfl) (by kernel_rfl) (by kernel_rfl)
  have FB : ScFit b5a := .of (by kernel_rfl) (by kernel_rfl) (by kernel_rfl)
  have hne : sZ ≠ b5a := fun h => absurd (congrArg (fun s : Scr => s.streams) h) (by decide)
  have hIA := hid (fun z (hz : Ext y z) => show Calls Try.prog 7 #[helpV Na Sa Va 20] z (Yields z .nilIface) from sIs FA.is (sa.ext hz))
  have hIB := hid (fun z (hz : Ext y z) => show Calls Try.prog 7 #[helpV Nb Sb Vb 20] z (Yields z .nilIface) from sIs FB.is (sb.ext hz))
  have hBA := hid (fun z (hz : Ext y z) => gBytes FA.is FA.inn FA.len (sa.ext hz))
  have hBB := hid (fun z (hz : Ext y z) => gBytes FB.is FB.inn FB.len (sb.ext hz))
  have hSM := hid (fun z (hz : Ext y z) => uSame hne (sa.ext hz) (sb.ext hz))
  have hst := fit_ne FA FB hne
  obtain ⟨la, hla⟩ : ∃ l, l = allBytes sZ := ⟨_, rfl⟩
  obtain ⟨lb, hlb⟩ : ∃ l, l = allBytes b5a := ⟨_, rfl⟩
  rw [← hla] at hBA hst
  rw [← hlb] at hBB hst
  rw [str_toList, str_toList] at hst
  have g1 : (la == lb) = false := by simpa using hst
  have g2 : (la != lb) = true := by simpa using hst
  clear hla hlb hst FA FB hne
  have hen := fun w => run_eql_nil_nil' (P := Try.prog) w Try.underlying33
  have lA := lt_of_block kA
  have lB := lt_of_block kB
  have a0 := blk_cell kA 0
  have a1 := blk_cell kA 1
  have a2 := blk_cell kA 2
  have a3 := blk_cell kA 3
  have a4 := blk_cell kA 4
  have a5 := blk_cell kA 5
  have a6 := blk_cell kA 6
  have b0 := blk_cell kB 0
  have b1 := blk_cell kB 1
  have b2 := blk_cell kB 2
  have b3 := blk_cell kB 3
  have b4 := blk_cell kB 4
  have b5 := blk_cell kB 5
  have b6 := blk_cell kB 6
  simp only [List.getElem?_toArray, List.getElem?_cons_zero, List.getElem?_cons_succ] at a0 a1 a2 a3 a4 a5 a6 b0 b1 b2 b3 b4 b5 b6
  clear kA kB sa sb hx
  ((first | refine wp_region_more (by kernel_rfl) (by kernel_rfl) ?_ | refine wp_region_ext (by kernel_rfl) (by kernel_rfl) ?_); (try dsimp only [append_cons', append_nil']); (repeat (go_big_quiet_step ((first | (go_at_call 7; with_reducible refine Calls.more_of (hIA.out _ (ext_more _ _))) | (go_at_call 7; with_reducible refine Calls.more_of (hIB.out _ (ext_more _ _))) | (go_at_call 9; with_reducible refine Calls.more_of (hBA.out _ (ext_more _ _))) | (go_at_call 9; with_reducible refine Calls.more_of (hBB.out _ (ext_more _ _))) | (go_at_call 11; with_reducible refine Calls.more_of (hSM.out _ (ext_more _ _))))))); refine wpQuiet_nil ?_; rintro _ ⟨pq, rfl⟩)
  go_wp2
  go_returns
  exact ⟨rfl, hE0.out.trans (HX.out.more _)⟩

def b5b : Scr := ⟨baseC, 20, [[], List.replicate 2 ⟨0, 0, 0⟩, [], []], nilA⟩
set_option maxRecDepth 100000 in
set_option maxHeartbeats 8000000 in
theorem walk5b (which n : Int) (hw0 : 0 ≤ which) (hw1 : which ≤ 255) (hn0 : 0 ≤ n) (hn1 : n ≤ 255) (hk : which % 9 = 5) (hn : n % 4 = 1) (w : World) :
    Calls Try.prog 4 #[.int .u8 which, .int .u8 n] w (Yields w (.bool true)) := by
  have hmk := mkAxns 2 2 rfl (by decide)
  go_enter Try.func4, Try.ntmps4
  go_wp2_with fail
  refine (known4_any _).yields ?_
  intro p0
  have hE0 := hid (ext_more w p0)
  generalize more w p0 = w0 at *
  go_wp2_with fail
  refine (help_any _ 20).mono ?_
  rintro e w1 ⟨Na, Sa, Va, rfl, ha, xa⟩
  go_wp2_with fail
  refine (help_any _ 20).mono ?_
  rintro e w2 ⟨Nb, Sb, Vb, rfl, hb, xb⟩
  have lna := lt_of_block (ha.lies.block (b := 13) rfl)
  have bsa := lt_of_block ha.sb
  have bva := lt_of_block ha.vb
  have hw12 := xb.size
  go_upto_region 5 with (fail)
  refine wp_forget (fun v => HelpS w0.heap.size Na Sa Va baseRO nil4 nil4 v ∧ HelpS w1.heap.size Nb Sb Vb baseRO nil4 nil4 v ∧ v.heap[w2.heap.size]? = some (helpO Na Sa Va 20) ∧ v.heap[w2.heap.size + 1]? = some (helpO Nb Sb Vb 20) ∧ Ext w0 v ∧ Nb + 13 < w2.heap.size ∧ Sb < w2.heap.size ∧ Vb < w2.heap.size)
    ⟨ha.ext (xb.trans (Ext.alloc (Ext.alloc (Ext.refl _) _) _)), hb.ext (Ext.alloc (Ext.alloc (Ext.refl _) _) _), block_ext (Ext.alloc (Ext.refl _) _) (heap_alloc_new w2 (helpO Na Sa Va 20)), heap_new2 w2 (helpO Na Sa Va 20) (helpO Nb Sb Vb 20), (xa.trans xb).trans (Ext.alloc (Ext.alloc (Ext.refl _) _) _), lt_of_block (hb.lies.block (b := 13) rfl), lt_of_block hb.sb, lt_of_block hb.vb⟩ ?_
  clear ha hb xa xb
  generalize w2.heap.size = A at *
  clear w2
  rintro v ⟨ha, hb, hA, hB, xv, b13, bsb, bvb⟩
  have HA := hid ha
  have HB := hid hb
  have XV := hid xv
  have HBA := hid hA
  have HBB := hid hB
  have hNa := ha.hN
  have hSa := ha.hS
  have hNb := hb.hN
  have hSb := hb.hS
  have hVb := hb.hV
  have lB := lt_of_block hB
  have bs := lt_of_block hb.sb
  have bv := lt_of_block hb.vb
  have bs2 := lt_of_block ha.sb
  have sa1 := blk_cell ha.sb 1
  have saf := blk_free ha.sb 1
  have sc1 := blk_cell hb.sb 1
  have vc2 := blk_cell hb.vb 2
  have sf1 := blk_free hb.sb 1
  have vf2 := blk_free hb.vb 2
  have pc : v.cell? ⟨Nb + 3, 0, none⟩ = some (.slice (some ⟨Nb + 1, 0, none⟩) 4 4) := hb.lies.at (b := 3) (j := 0) (v := .s 1 4) rfl
  have rc : v.cell? ⟨Nb + 1, 1, none⟩ = some (.int .i64 2) := hb.lies.at (b := 1) (j := 1) (v := .i 2) rfl
  have rf : v.frozen? ⟨Nb + 1, 1, none⟩ = false := hb.lies.free (b := 1) (j := 1) (v := .i 2) rfl
  have d31 : v.cell? ⟨Nb + 13, 31, none⟩ = some (.int .u64 3) := hb.lies.at (b := 13) (j := 31) (v := .u 3) rfl
  have f31 : v.frozen? ⟨Nb + 13, 31, none⟩ = false := hb.lies.free (b := 13) (j := 31) (v := .u 3) rfl
  have d25 : v.cell? ⟨Nb + 13, 25, none⟩ = some (.int .i64 4) := hb.lies.at (b := 13) (j := 25) (v := .i 4) rfl
  have f25 : v.frozen? ⟨Nb + 13, 25, none⟩ = false := hb.lies.free (b := 13) (j := 25) (v := .i 4) rfl
  have d02 : v.cell? ⟨Nb + 13, 2, none⟩ = some (.slice (some ⟨Nb + 6, 0, none⟩) 2 2) := hb.lies.at (b := 13) (j := 2) (v := .s 6 2) rfl
  have f02 : v.frozen? ⟨Nb + 13, 2, none⟩ = false := hb.lies.free (b := 13) (j := 2) (v := .s 6 2) rfl
  have d33 : v.cell? ⟨Nb + 13, 33, none⟩ = some (.slice (some ⟨Nb + 12, 0, none⟩) 3 3) := hb.lies.at (b := 13) (j := 33) (v := .s 12 3) rfl
  have f33 : v.frozen? ⟨Nb + 13, 33, none⟩ = false := hb.lies.free (b := 13) (j := 33) (v := .s 12 3) rfl
  have ln13 : Nb + 13 < v.heap.size := by omega
  have q2 : v.cell? ⟨A + 1, 2, none⟩ = some (.slice (some ⟨Nb + 3, 0, none⟩) 2 2) := blk_cell hB 2
  have q3 : v.cell? ⟨A + 1, 3, none⟩ = some (.slice (some ⟨Nb + 13, 0, none⟩) 4 4) := blk_cell hB 3
  have q4 : v.cell? ⟨A + 1, 4, none⟩ = some (.int .i64 20) := blk_cell hB 4
  have q5 : v.cell? ⟨A + 1, 5, none⟩ = some (.slice (some ⟨Sb, 0, none⟩) 4 4) := blk_cell hB 5
  have q6 : v.cell? ⟨A + 1, 6, none⟩ = some (.slice (some ⟨Vb, 0, none⟩) 4 4) := blk_cell hB 6
  have qf : v.frozen? ⟨A + 1, 4, none⟩ = false := blk_free hB 4
  have r5 : v.cell? ⟨A, 5, none⟩ = some (.slice (some ⟨Sa, 0, none⟩) 4 4) := blk_cell hA 5
  have lA : A < v.heap.size := by omega
  simp only [nil4, List.getElem?_toArray, List.getElem?_cons_zero, List.getElem?_cons_succ] at sa1 sc1 vc2
  clear ha hb hA hB xv
  go_upto_region 18 with (fail)
  go_region
  go_upto_region 24 with (fail)
  refine wp_forget (fun y => SV Na Sa Va 20 sZ y ∧ SV Nb Sb Vb 20 b5b y ∧ y.heap[A]? = some (helpO Na Sa Va 20) ∧ y.heap[A + 1]? = some (helpO Nb Sb Vb 20) ∧ Ext w0 y) ⟨?_, ?_, block_ext (Ext.drew (Ext.alloc (Ext.refl _) _)) ((Below.heap_setCell _ _ _ _ (by show A ≠ Sb; omega)).trans HBA.out), block_ext (Ext.drew (Ext.alloc (Ext.refl _) _)) ((Below.heap_setCell _ _ _ _ (by show A + 1 ≠ Sb; omega)).trans HBB.out), (Ext.drew (Ext.alloc (XV.out.setCell (by show w0.heap.size ≤ Sb; omega) _) _))⟩ ?_
  · exact ((HA.out.aside (b := Sb) _ (by omega) (by omega) (by omega)).ext (Ext.drew (Ext.alloc (Ext.refl _) _))).script baseC_of rfl rfl (nilS_v _) (nilA_v _)
  · have hn : ((v.setCell ⟨Sb, 1, none⟩ (.slice (some ⟨v.heap.size, 0, none⟩) 2 2)).alloc (axnsO 2)).heap[v.heap.size]? = some (axnsO 2) := heap_new1' v _ _ _
    exact ((HB.out.putS 1 (.slice (some ⟨v.heap.size, 0, none⟩) 2 2)).ext (Ext.drew (Ext.alloc (Ext.refl _) _))).script baseC_of rfl rfl (oneS_v (axns_made (by decide) hn)) (nilA_v _)
  clear HA HB XV HBA HBB hNa hSa hNb hSb hVb lB bs bv bs2 sa1 saf sc1 vc2 sf1 vf2 pc rc rf d31 f31 d25 f25 d02 f02 d33 f33 ln13 q2 q3 q4 q5 q6 qf r5 lA hmk b13 bsb bvb
  rintro y ⟨sa, sb, kA, kB, hx⟩
  (try clear v)
  have HX := hid hx
  have FA : ScFit sZ := .of (by kernel_rfl) (by kernel_rfl) (by kernel_rfl)
  have FB : ScFit b5b := .of (by kernel_rfl) (by kernel_rfl) (by kernel_rfl)
  have hne : sZ ≠ b5b := fun h => absurd (congrArg (fun s : Scr => s.streams) h) (by decide)
  have hIA := hid (fun z (hz : Ext y z) => show Calls Try.prog 7 #[helpV Na Sa Va 20] z (Yields z .nilIface) from sIs FA.is (sa.ext hz))
  have hIB := hid (fun z (hz : Ext y z) => show Calls Try.prog 7 #[helpV Nb Sb Vb 20] z (Yields z .nilIface) from sIs FB.is (sb.ext hz))
  have hBA := hid (fun z (hz : Ext y z) => gBytes FA.is FA.inn FA.len (sa.ext hz))
  have hBB := hid (fun z (hz : Ext y z) => gBytes FB.is FB.inn FB.len (sb.ext hz))
  have hSM := hid (fun z (hz : Ext y z) => uSame hne (sa.ext hz) (sb.ext hz))
  have hst := fit_ne FA FB hne
  obtain ⟨la, hla⟩ : ∃ l, l = allBytes sZ := ⟨_, rfl⟩
  obtain ⟨lb, hlb⟩ : ∃ l, l = allBytes b5b := ⟨_, rfl⟩
  rw [← hla] at hBA hst
  rw [← hlb] at hBB hst
  rw [str_toList, str_toList] at hst
  have g1 : (la == lb) = false := by simpa using hst
  have g2 : (la != lb) = true := by simpa using hst
  clear hla hlb hst FA FB hne
  have hen := fun w => run_eql_nil_nil' (P := Try.prog) w Try.underlying33
  have lA := lt_of_block kA
  have lB := lt_of_block kB
  have a0 := blk_cell kA 0
  have a1 := blk_cell kA 1
  have a2 := blk_cell kA 2
  have a3 := blk_cell kA 3
  have a4 := blk_cell kA 4
  have a5 := blk_cell kA 5
  have a6 := blk_cell kA 6
  have b0 := blk_cell kB 0
  have b1 := blk_cell kB 1
  have b2 := blk_cell kB 2
  have b3 := blk_cell kB 3
  have b4 := blk_cell kB 4
  have b5 := blk_cell kB 5
  have b6 := blk_cell kB 6
  simp only [List.getElem?_toArray, List.getElem?_cons_zero, List.getElem?_cons_succ] at a0 a1 a2 a3 a4 a5 a6 b0 b1 b2 b3 b4 b5 b6
  clear kA kB sa sb hx
  ((first | refine wp_region_more (by kernel_rfl) (by kernel_rfl) ?_ | refine wp_region_ext (by kernel_rfl) (by kernel_rfl) ?_); (try dsimp only [append_cons', append_nil']); (repeat (go_big_quiet_step ((first | (go_at_call 7; with_reducible refine Calls.more_of (hIA.out _ (ext_more _ _))) | (go_at_call 7; with_reducible refine Calls.more_of (hIB.out _ (ext_more _ _))) | (go_at_call 9; with_reducible refine Calls.more_of (hBA.out _ (ext_more _ _))) | (go_at_call 9; with_reducible refine Calls.more_of (hBB.out _ (ext_more _ _))) | (go_at_call 11; with_reducible refine Calls.more_of (hSM.out _ (ext_more _ _))))))); refine wpQuiet_nil ?_; rintro _ ⟨pq, rfl⟩)
  go_wp2
  go_returns
  exact ⟨rfl, hE0.out.trans (HX.out.more _)⟩

def b5c : Scr := ⟨baseC, 20, [[], List.replicate 3 ⟨0, 0, 0⟩, [], []], nilA⟩
set_option maxRecDepth 100000 in
set_option maxHeartbeats 8000000 in
theorem walk5c (which n : Int) (hw0 : 0 ≤ which) (hw1 : which ≤ 255) (hn0 : 0 ≤ n) (hn1 : n ≤ 255) (hk : which % 9 = 5) (hn : n % 4 = 2) (w : World) :
    Calls Try.prog 4 #[.int .u8 which, .int .u8 n] w (Yields w (.bool true)) := by
  have hmk := mkAxns 3 3 rfl (by decide)
  go_enter Try.func4, Try.ntmps4
  go_wp2_with fail
  refine (known4_any _).yields ?_
  intro p0
  have hE0 := hid (ext_more w p0)
  generalize more w p0 = w0 at *
  go_wp2_with fail
  refine (help_any _ 20).mono ?_
  rintro e w1 ⟨Na, Sa, Va, rfl, ha, xa⟩
  go_wp2_with fail
  refine (help_any _ 20).mono ?_
  rintro e w2 ⟨Nb, Sb, Vb, rfl, hb, xb⟩
  have lna := lt_of_block (ha.lies.block (b := 13) rfl)
  have bsa := lt_of_block ha.sb
  have bva := lt_of_block ha.vb
  have hw12 := xb.size
  go_upto_region 5 with (fail)
  refine wp_forget (fun v => HelpS w0.heap.size Na Sa Va baseRO nil4 nil4 v ∧ HelpS w1.heap.size Nb Sb Vb baseRO nil4 nil4 v ∧ v.heap[w2.heap.size]? = some (helpO Na Sa Va 20) ∧ v.heap[w2.heap.size + 1]? = some (helpO Nb Sb Vb 20) ∧ Ext w0 v ∧ Nb + 13 < w2.heap.size ∧ Sb < w2.heap.size ∧ Vb < w2.heap.size)
    ⟨ha.ext (xb.trans (Ext.alloc (Ext.alloc (Ext.refl _) _) _)), hb.ext (Ext.alloc (Ext.alloc (Ext.refl _) _) _), block_ext (Ext.alloc (Ext.refl _) _) (heap_alloc_new w2 (helpO Na Sa Va 20)), heap_new2 w2 (helpO Na Sa Va 20) (helpO Nb Sb Vb 20), (xa.trans xb).trans (Ext.alloc (Ext.alloc (Ext.refl _) _) _), lt_of_block (hb.lies.block (b := 13) rfl), lt_of_block hb.sb, lt_of_block hb.vb⟩ ?_
  clear ha hb xa xb
  generalize w2.heap.size = A at *
  clear w2
  rintro v ⟨ha, hb, hA, hB, xv, b13, bsb, bvb⟩
  have HA := hid ha
  have HB := hid hb
  have XV := hid xv
  have HBA := hid hA
  have HBB := hid hB
  have hNa := ha.hN
  have hSa := ha.hS
  have hNb := hb.hN
  have hSb := hb.hS
  have hVb := hb.hV
  have lB := lt_of_block hB
  have bs := lt_of_block hb.sb
  have bv := lt_of_block hb.vb
  have bs2 := lt_of_block ha.sb
  have sa1 := blk_cell ha.sb 1
  have saf := blk_free ha.sb 1
  have sc1 := blk_cell hb.sb 1
  have vc2 := blk_cell hb.vb 2
  have sf1 := blk_free hb.sb 1
  have vf2 := blk_free hb.vb 2
  have pc : v.cell? ⟨Nb + 3, 0, none⟩ = some (.slice (some ⟨Nb + 1, 0, none⟩) 4 4) := hb.lies.at (b := 3) (j := 0) (v := .s 1 4) rfl
  have rc : v.cell? ⟨Nb + 1, 1, none⟩ = some (.int .i64 2) := hb.lies.at (b := 1) (j := 1) (v := .i 2) rfl
  have rf : v.frozen? ⟨Nb + 1, 1, none⟩ = false := hb.lies.free (b := 1) (j := 1) (v := .i 2) rfl
  have d31 : v.cell? ⟨Nb + 13, 31, none⟩ = some (.int .u64 3) := hb.lies.at (b := 13) (j := 31) (v := .u 3) rfl
  have f31 : v.frozen? ⟨Nb + 13, 31, none⟩ = false := hb.lies.free (b := 13) (j := 31) (v := .u 3) rfl
  have d25 : v.cell? ⟨Nb + 13, 25, none⟩ = some (.int .i64 4) := hb.lies.at (b := 13) (j := 25) (v := .i 4) rfl
  have f25 : v.frozen? ⟨Nb + 13, 25, none⟩ = false := hb.lies.free (b := 13) (j := 25) (v := .i 4) rfl
  have d02 : v.cell? ⟨Nb + 13, 2, none⟩ = some (.slice (some ⟨Nb + 6, 0, none⟩) 2 2) := hb.lies.at (b := 13) (j := 2) (v := .s 6 2) rfl
  have f02 : v.frozen? ⟨Nb + 13, 2, none⟩ = false := hb.lies.free (b := 13) (j := 2) (v := .s 6 2) rfl
  have d33 : v.cell? ⟨Nb + 13, 33, none⟩ = some (.slice (some ⟨Nb + 12, 0, none⟩) 3 3) := hb.lies.at (b := 13) (j := 33) (v := .s 12 3) rfl
  have f33 : v.frozen? ⟨Nb + 13, 33, none⟩ = false := hb.lies.free (b := 13) (j := 33) (v := .s 12 3) rfl
  have ln13 : Nb + 13 < v.heap.size := by omega
  have q2 : v.cell? ⟨A + 1, 2, none⟩ = some (.slice (some ⟨Nb + 3, 0, none⟩) 2 2) := blk_cell hB 2
  have q3 : v.cell? ⟨A + 1, 3, none⟩ = some (.slice (some ⟨Nb + 13, 0, none⟩) 4 4) := blk_cell hB 3
  have q4 : v.cell? ⟨A + 1, 4, none⟩ = some (.int .i64 20) := blk_cell hB 4
  have q5 : v.cell? ⟨A + 1, 5, none⟩ = some (.slice (some ⟨Sb, 0, none⟩) 4 4) := blk_cell hB 5
  have q6 : v.cell? ⟨A + 1, 6, none⟩ = some (.slice (some ⟨Vb, 0, none⟩) 4 4) := blk_cell hB 6
  have qf : v.frozen? ⟨A + 1, 4, none⟩ = false := blk_free hB 4
  have r5 : v.cell? ⟨A, 5, none⟩ = some (.slice (some ⟨Sa, 0, none⟩) 4 4) := blk_cell hA 5
  have lA : A < v.heap.size := by omega
  simp only [nil4, List.getElem?_toArray, List.getElem?_cons_zero, List.getElem?_cons_succ] at sa1 sc1 vc2
  clear ha hb hA hB xv
  go_upto_region 18 with (fail)
  go_region
  go_upto_region 24 with (fail)
  refine wp_forget (fun y => SV Na Sa Va 20 sZ y ∧ SV Nb Sb Vb 20 b5c y ∧ y.heap[A]? = some (helpO Na Sa Va 20) ∧ y.heap[A + 1]? = some (helpO Nb Sb Vb 20) ∧ Ext w0 y) ⟨?_, ?_, block_ext (Ext.drew (Ext.alloc (Ext.refl _) _)) ((Below.heap_setCell _ _ _ _ (by show A ≠ Sb; omega)).trans HBA.out), block_ext (Ext.drew (Ext.alloc (Ext.refl _) _)) ((Below.heap_setCell _ _ _ _ (by show A + 1 ≠ Sb; omega)).trans HBB.out), (Ext.drew (Ext.alloc (XV.out.setCell (by show w0.heap.size ≤ Sb; omega) _) _))⟩ ?_
  · exact ((HA.out.aside (b := Sb) _ (by omega) (by omega) (by omega)).ext (Ext.drew (Ext.alloc (Ext.refl _) _))).script baseC_of rfl rfl (nilS_v _) (nilA_v _)
  · have hn : ((v.setCell ⟨Sb, 1, none⟩ (.slice (some ⟨v.heap.size, 0, none⟩) 3 3)).alloc (axnsO 3)).heap[v.heap.size]? = some (axnsO 3) := heap_new1' v _ _ _
    exact ((HB.out.putS 1 (.slice (some ⟨v.heap.size, 0, none⟩) 3 3)).ext (Ext.drew (Ext.alloc (Ext.refl _) _))).script baseC_of rfl rfl (oneS_v (axns_made (by decide) hn)) (nilA_v _)
  clear HA HB XV HBA HBB hNa hSa hNb hSb hVb lB bs bv bs2 sa1 saf sc1 vc2 sf1 vf2 pc rc rf d31 f31 d25 f25 d02 f02 d33 f33 ln13 q2 q3 q4 q5 q6 qf r5 lA hmk b13 bsb bvb
  rintro y ⟨sa, sb, kA, kB, hx⟩
  (try clear v)
  have HX := hid hx
  have FA : ScFit sZ := .of (by kernel_rfl) (by kernel_rfl) (by kernel_rfl)
  have FB : ScFit b5c := .of (by kernel_rfl) (by kernel_rfl) (by kernel_rfl)
  have hne : sZ ≠ b5c := fun h => absurd (congrArg (fun s : Scr => s.streams) h) (by decide)
  have hIA := hid (fun z (hz : Ext y z) => show Calls Try.prog 7 #[helpV Na Sa Va 20] z (Yields z .nilIface) from sIs FA.is (sa.ext hz))
  have hIB := hid (fun z (hz : Ext y z) => show Calls Try.prog 7 #[helpV Nb Sb Vb 20] z (Yields z .nilIface) from sIs FB.is (sb.ext hz))
  have hBA := hid (fun z (hz : Ext y z) => gBytes FA.is FA.inn FA.len (sa.ext hz))
  have hBB := hid (fun z (hz : Ext y z) => gBytes FB.is FB.inn FB.len (sb.ext hz))
  have hSM := hid (fun z (hz : Ext y z) => uSame hne (sa.ext hz) (sb.ext hz))
  have hst := fit_ne FA FB hne
  obtain ⟨la, hla⟩ : ∃ l, l = allBytes sZ := ⟨_, rfl⟩
  obtain ⟨lb, hlb⟩ : ∃ l, l = allBytes b5c := ⟨_, rfl⟩
  rw [← hla] at hBA hst
  rw [← hlb] at hBB hst
  rw [str_toList, str_toList] at hst
  have g1 : (la == lb) = false := by simpa using hst
  have g2 : (la != lb) = true := by simpa using hst
  clear hla hlb hst FA FB hne
  have hen := fun w => run_eql_nil_nil' (P := Try.prog) w Try.underlying33
  have lA := lt_of_block kA
  have lB := lt_of_block kB
  have a0 := blk_cell kA 0
  have a1 := blk_cell kA 1
  have a2 := blk_cell kA 2
  have a3 := blk_cell kA 3
  have a4 := blk_cell kA 4
  have a5 := blk_cell kA 5
  have a6 := blk_cell kA 6
  have b0 := blk_cell kB 0
  have b1 := blk_cell kB 1
  have b2 := blk_cell kB 2
  have b3 := blk_cell kB 3
  have b4 := blk_cell kB 4
  have b5 := blk_cell kB 5
  have b6 := blk_cell kB 6
  simp only [List.getElem?_toArray, List.getElem?_cons_zero, List.getElem?_cons_succ] at a0 a1 a2 a3 a4 a5 a6 b0 b1 b2 b3 b4 b5 b6
  clear kA kB sa sb hx
  ((first | refine wp_region_more (by kernel_rfl) (by kernel_rfl) ?_ | refine wp_region_ext (by kernel_rfl) (by kernel_rfl) ?_); (try dsimp only [append_cons', append_nil']); (repeat (go_big_quiet_step ((first | (go_at_call 7; with_reducible refine Calls.more_of (hIA.out _ (ext_more _ _))) | (go_at_call 7; with_reducible refine Calls.more_of (hIB.out _ (ext_more _ _))) | (go_at_call 9; with_reducible refine Calls.more_of (hBA.out _ (ext_more _ _))) | (go_at_call 9; with_reducible refine Calls.more_of (hBB.out _ (ext_more _ _))) | (go_at_call 11; with_reducible refine Calls.more_of (hSM.out _ (ext_more _ _))))))); refine wpQuiet_nil ?_; rintro _ ⟨pq, rfl⟩)
  go_wp2
  go_returns
  exact ⟨rfl, hE0.out.trans (HX.out.more _)⟩

def b5d : Scr := ⟨baseC, 20, [[], List.replicate 4 ⟨0, 0, 0⟩, [], []], nilA⟩
set_option maxRecDepth 100000 in
set_option maxHeartbeats 8000000 in
theorem walk5d (which n : Int) (hw0 : 0 ≤ which) (hw1 : which ≤ 255) (hn0 : 0 ≤ n) (hn1 : n ≤ 255) (hk : which % 9 = 5) (hn : n % 4 = 3) (w : World) :
    Calls Try.prog 4 #[.int .u8 which, .int .u8 n] w (Yields w (.bool true)) := by
  have hmk := mkAxns 4 4 rfl (by decide)
  go_enter Try.func4, Try.ntmps4
  go_wp2_with fail
  refine (known4_any _).yields ?_
  intro p0
  have hE0 := hid (ext_more w p0)
  generalize more w p0 = w0 at *
  go_wp2_with fail
  refine (help_any _ 20).mono ?_
  rintro e w1 ⟨Na, Sa, Va, rfl, ha, xa⟩
  go_wp2_with fail
  refine (help_any _ 20).mono ?_
  rintro e w2 ⟨Nb, Sb, Vb, rfl, hb, xb⟩
  have lna := lt_of_block (ha.lies.block (b := 13) rfl)
  have bsa := lt_of_block ha.sb
  have bva := lt_of_block ha.vb
  have hw12 := xb.size
  go_upto_region 5 with (fail)
  refine wp_forget (fun v => HelpS w0.heap.size Na Sa Va baseRO nil4 nil4 v ∧ HelpS w1.heap.size Nb Sb Vb baseRO nil4 nil4 v ∧ v.heap[w2.heap.size]? = some (helpO Na Sa Va 20) ∧ v.heap[w2.heap.size + 1]? = some (helpO Nb Sb Vb 20) ∧ Ext w0 v ∧ Nb + 13 < w2.heap.size ∧ Sb < w2.heap.size ∧ Vb < w2.heap.size)
    ⟨ha.ext (xb.trans (Ext.alloc (Ext.alloc (Ext.refl _) _) _)), hb.ext (Ext.alloc (Ext.alloc (Ext.refl _) _) _), block_ext (Ext.alloc (Ext.refl _) _) (heap_alloc_new w2 (helpO Na Sa Va 20)), heap_new2 w2 (helpO Na Sa Va 20) (helpO Nb Sb Vb 20), (xa.trans xb).trans (Ext.alloc (Ext.alloc (Ext.refl _) _) _), lt_of_block (hb.lies.block (b := 13) rfl), lt_of_block hb.sb, lt_of_block hb.vb⟩ ?_
  clear ha hb xa xb
  generalize w2.heap.size = A at *
  clear w2
  rintro v ⟨ha, hb, hA, hB, xv, b13, bsb, bvb⟩
  have HA := hid ha
  have HB := hid hb
  have XV := hid xv
  have HBA := hid hA
  have HBB := hid hB
  have hNa := ha.hN
  have hSa := ha.hS
  have hNb := hb.hN
  have hSb := hb.hS
  have hVb := hb.hV
  have lB := lt_of_block hB
  have bs := lt_of_block hb.sb
  have bv := lt_of_block hb.vb
  have bs2 := lt_of_block ha.sb
  have sa1 := blk_cell ha.sb 1
  have saf := blk_free ha.sb 1
  have sc1 := blk_cell hb.sb 1
  have vc2 := blk_cell hb.vb 2
  have sf1 := blk_free hb.sb 1
  have vf2 := blk_free hb.vb 2
  have pc : v.cell? ⟨Nb + 3, 0, none⟩ = some (.slice (some ⟨Nb + 1, 0, none⟩) 4 4) := hb.lies.at (b := 3) (j := 0) (v := .s 1 4) rfl
  have rc : v.cell? ⟨Nb + 1, 1, none⟩ = some (.int .i64 2) := hb.lies.at (b := 1) (j := 1) (v := .i 2) rfl
  have rf : v.frozen? ⟨Nb + 1, 1, none⟩ = false := hb.lies.free (b := 1) (j := 1) (v := .i 2) rfl
  have d31 : v.cell? ⟨Nb + 13, 31, none⟩ = some (.int .u64 3) := hb.lies.at (b := 13) (j := 31) (v := .u 3) rfl
  have f31 : v.frozen? ⟨Nb + 13, 31, none⟩ = false := hb.lies.free (b := 13) (j := 31) (v := .u 3) rfl
  have d25 : v.cell? ⟨Nb + 13, 25, none⟩ = some (.int .i64 4) := hb.lies.at (b := 13) (j := 25) (v := .i 4) rfl
  have f25 : v.frozen? ⟨Nb + 13, 25, none⟩ = false := hb.lies.free (b := 13) (j := 25) (v := .i 4) rfl
  have d02 : v.cell? ⟨Nb + 13, 2, none⟩ = some (.slice (some ⟨Nb + 6, 0, none⟩) 2 2) := hb.lies.at (b := 13) (j := 2) (v := .s 6 2) rfl
  have f02 : v.frozen? ⟨Nb + 13, 2, none⟩ = false := hb.lies.free (b := 13) (j := 2) (v := .s 6 2) rfl
  have d33 : v.cell? ⟨Nb + 13, 33, none⟩ = some (.slice (some ⟨Nb + 12, 0, none⟩) 3 3) := hb.lies.at (b := 13) (j := 33) (v := .s 12 3) rfl
  have f33 : v.frozen? ⟨Nb + 13, 33, none⟩ = false := hb.lies.free (b := 13) (j := 33) (v := .s 12 3) rfl
  have ln13 : Nb + 13 < v.heap.size := by omega
  have q2 : v.cell? ⟨A + 1, 2, none⟩ = some (.slice (some ⟨Nb + 3, 0, none⟩) 2 2) := blk_cell hB 2
  have q3 : v.cell? ⟨A + 1, 3, none⟩ = some (.slice (some ⟨Nb + 13, 0, none⟩) 4 4) := blk_cell hB 3
  have q4 : v.cell? ⟨A + 1, 4, none⟩ = some (.int .i64 20) := blk_cell hB 4
  have q5 : v.cell? ⟨A + 1, 5, none⟩ = some (.slice (some ⟨Sb, 0, none⟩) 4 4) := blk_cell hB 5
  have q6 : v.cell? ⟨A + 1, 6, none⟩ = some (.slice (some ⟨Vb, 0, none⟩) 4 4) := blk_cell hB 6
  have qf : v.frozen? ⟨A + 1, 4, none⟩ = false := blk_free hB 4
  have r5 : v.cell? ⟨A, 5, none⟩ = some (.slice (some ⟨Sa, 0, none⟩) 4 4) := blk_cell hA 5
  have lA : A < v.heap.size := by omega
  simp only [nil4, List.getElem?_toArray, List.getElem?_cons_zero, List.getElem?_cons_succ] at sa1 sc1 vc2
  clear ha hb hA hB xv
  go_upto_region 18 with (fail)
  go_region
  go_upto_region 24 with (fail)
  refine wp_forget (fun y => SV Na Sa Va 20 sZ y ∧ SV Nb Sb Vb 20 b5d y ∧ y.heap[A]? = some (helpO Na Sa Va 20) ∧ y.heap[A + 1]? = some (helpO Nb Sb Vb 20) ∧ Ext w0 y) ⟨?_, ?_, block_ext (Ext.drew (Ext.alloc (Ext.refl _) _)) ((Below.heap_setCell _ _ _ _ (by show A ≠ Sb; omega)).trans HBA.out), block_ext (Ext.drew (Ext.alloc (Ext.refl _) _)) ((Below.heap_setCell _ _ _ _ (by show A + 1 ≠ Sb; omega)).trans HBB.out), (Ext.drew (Ext.alloc (XV.out.setCell (by show w0.heap.size ≤ Sb; omega) _) _))⟩ ?_
  · exact ((HA.out.aside (b := Sb) _ (by omega) (by omega) (by omega)).ext (Ext.drew (Ext.alloc (Ext.refl _) _))).script baseC_of rfl rfl (nilS_v _) (nilA_v _)
  · have hn : ((v.setCell ⟨Sb, 1, none⟩ (.slice (some ⟨v.heap.size, 0, none⟩) 4 4)).alloc (axnsO 4)).heap[v.heap.size]? = some (axnsO 4) := heap_new1' v _ _ _
    exact ((HB.out.putS 1 (.slice (some ⟨v.heap.size, 0, none⟩) 4 4)).ext (Ext.drew (Ext.alloc (Ext.refl _) _))).script baseC_of rfl rfl (oneS_v (axns_made (by decide) hn)) (nilA_v _)
  clear HA HB XV HBA HBB hNa hSa hNb hSb hVb lB bs bv bs2 sa1 saf sc1 vc2 sf1 vf2 pc rc rf d31 f31 d25 f25 d02 f02 d33 f33 ln13 q2 q3 q4 q5 q6 qf r5 lA hmk b13 bsb bvb
  rintro y ⟨sa, sb, kA, kB, hx⟩
  (try clear v)
  have HX := hid hx
  have FA : ScFit sZ := .of (by kernel_rfl) (by kernel_rfl) (by kernel_rfl)
  have FB : ScFit b5d := .of (by kernel_rfl) (by kernel_rfl) (by kernel_rfl)
  have hne : sZ ≠ b5d := fun h => absurd (congrArg (fun s : Scr => s.streams) h) (by decide)
  have hIA := hid (fun z (hz : Ext y z) => show Calls Try.prog 7 #[helpV Na Sa Va 20] z (Yields z .nilIface) from sIs FA.is (sa.ext hz))
  have hIB := hid (fun z (hz : Ext y z) => show Calls Try.prog 7 #[helpV Nb Sb Vb 20] z (Yields z .nilIface) from sIs FB.is (sb.ext hz))
  have hBA := hid (fun z (hz : Ext y z) => gBytes FA.is FA.inn FA.len (sa.ext hz))
  have hBB := hid (fun z (hz : Ext y z) => gBytes FB.is FB.inn FB.len (sb.ext hz))
  have hSM := hid (fun z (hz : Ext y z) => uSame hne (sa.ext hz) (sb.ext hz))
  have hst := fit_ne FA FB hne
  obtain ⟨la, hla⟩ : ∃ l, l = allBytes sZ := ⟨_, rfl⟩
  obtain ⟨lb, hlb⟩ : ∃ l, l = allBytes b5d := ⟨_, rfl⟩
  rw [← hla] at hBA hst
  rw [← hlb] at hBB hst
  rw [str_toList, str_toList] at hst
  have g1 : (la == lb) = false := by simpa using hst
  have g2 : (la != lb) = true := by simpa using hst
  clear hla hlb hst FA FB hne
  have hen := fun w => run_eql_nil_nil' (P := Try.prog) w Try.underlying33
  have lA := lt_of_block kA
  have lB := lt_of_block kB
  have a0 := blk_cell kA 0
  have a1 := blk_cell kA 1
  have a2 := blk_cell kA 2
  have a3 := blk_cell kA 3
  have a4 := blk_cell kA 4
  have a5 := blk_cell kA 5
  have a6 := blk_cell kA 6
  have b0 := blk_cell kB 0
  have b1 := blk_cell kB 1
  have b2 := blk_cell kB 2
  have b3 := blk_cell kB 3
  have b4 := blk_cell kB 4
  have b5 := blk_cell kB 5
  have b6 := blk_cell kB 6
  simp only [List.getElem?_toArray, List.getElem?_cons_zero, List.getElem?_cons_succ] at a0 a1 a2 a3 a4 a5 a6 b0 b1 b2 b3 b4 b5 b6
  clear kA kB sa sb hx
  ((first | refine wp_region_more (by kernel_rfl) (by kernel_rfl) ?_ | refine wp_region_ext (by kernel_rfl) (by kernel_rfl) ?_); (try dsimp only [append_cons', append_nil']); (repeat (go_big_quiet_step ((first | (go_at_call 7; with_reducible refine Calls.more_of (hIA.out _ (ext_more _ _))) | (go_at_call 7; with_reducible refine Calls.more_of (hIB.out _ (ext_more _ _))) | (go_at_call 9; with_reducible refine Calls.more_of (hBA.out _ (ext_more _ _))) | (go_at_call 9; with_reducible refine Calls.more_of (hBB.out _ (ext_more _ _))) | (go_at_call 11; with_reducible refine Calls.more_of (hSM.out _ (ext_more _ _))))))); refine wpQuiet_nil ?_; rintro _ ⟨pq, rfl⟩)
  go_wp2
  go_returns
  exact ⟨rfl, hE0.out.trans (HX.out.more _)⟩

def a6a : Scr := ⟨baseC, 20, [[], [⟨0, 0, 1⟩], [], []], nilA⟩
def b6a : Scr := ⟨baseC, 20, [[], [⟨0, 1, 0⟩], [], []], nilA⟩
set_option maxRecDepth 100000 in
set_option maxHeartbeats 8000000 in
theorem walk6a (which n : Int) (hw0 : 0 ≤ which) (hw1 : which ≤ 255) (hn0 : 0 ≤ n) (hn1 : n ≤ 255) (hk : which % 9 = 6) (hn : n % 4 = 0) (w : World) :
    Calls Try.prog 4 #[.int .u8 which, .int .u8 n] w (Yields w (.bool true)) := by
  have hmk := mkAxns 1 1 rfl (by decide)
  go_enter Try.func4, Try.ntmps4
  go_wp2_with fail
  refine (known4_any _).yields ?_
  intro p0
  have hE0 := hid (ext_more w p0)
  generalize more w p0 = w0 at *
  go_wp2_with fail
  refine (help_any _ 20).mono ?_
  rintro e w1 ⟨Na, Sa, Va, rfl, ha, xa⟩
  go_wp2_with fail
  refine (help_any _ 20).mono ?_
  rintro e w2 ⟨Nb, Sb, Vb, rfl, hb, xb⟩
  have lna := lt_of_block (ha.lies.block (b := 13) rfl)
  have bsa := lt_of_block ha.sb
  have bva := lt_of_block ha.vb
  have hw12 := xb.size
  go_upto_region 5 with (fail)
  refine wp_forget (fun v => HelpS w0.heap.size Na Sa Va baseRO nil4 nil4 v ∧ HelpS w1.heap.size Nb Sb Vb baseRO nil4 nil4 v ∧ v.heap[w2.heap.size]? = some (helpO Na Sa Va 20) ∧ v.heap[w2.heap.size + 1]? = some (helpO Nb Sb Vb 20) ∧ Ext w0 v ∧ Nb + 13 < w2.heap.size ∧ Sb < w2.heap.size ∧ Vb < w2.heap.size)
    ⟨ha.ext (xb.trans (Ext.alloc (Ext.alloc (Ext.refl _) _) _)), hb.ext (Ext.alloc (Ext.alloc (Ext.refl _) _) _), block_ext (Ext.alloc (Ext.refl _) _) (heap_alloc_new w2 (helpO Na Sa Va 20)), heap_new2 w2 (helpO Na Sa Va 20) (helpO Nb Sb Vb 20), (xa.trans xb).trans (Ext.alloc (Ext.alloc (Ext.refl _) _) _), lt_of_block (hb.lies.block (b := 13) rfl), lt_of_block hb.sb, lt_of_block hb.vb⟩ ?_
  clear ha hb xa xb
  generalize w2.heap.size = A at *
  clear w2
  rintro v ⟨ha, hb, hA, hB, xv, b13, bsb, bvb⟩
  have HA := hid ha
  have HB := hid hb
  have XV := hid xv
  have HBA := hid hA
  have HBB := hid hB
  have hNa := ha.hN
  have hSa := ha.hS
  have hNb := hb.hN
  have hSb := hb.hS
  have hVb := hb.hV
  have lB := lt_of_block hB
  have bs := lt_of_block hb.sb
  have bv := lt_of_block hb.vb
  have bs2 := lt_of_block ha.sb
  have sa1 := blk_cell ha.sb 1
  have saf := blk_free ha.sb 1
  have sc1 := blk_cell hb.sb 1
  have vc2 := blk_cell hb.vb 2
  have sf1 := blk_free hb.sb 1
  have vf2 := blk_free hb.vb 2
  have pc : v.cell? ⟨Nb + 3, 0, none⟩ = some (.slice (some ⟨Nb + 1, 0, none⟩) 4 4) := hb.lies.at (b := 3) (j := 0) (v := .s 1 4) rfl
  have rc : v.cell? ⟨Nb + 1, 1, none⟩ = some (.int .i64 2) := hb.lies.at (b := 1) (j := 1) (v := .i 2) rfl
  have rf : v.frozen? ⟨Nb + 1, 1, none⟩ = false := hb.lies.free (b := 1) (j := 1) (v := .i 2) rfl
  have d31 : v.cell? ⟨Nb + 13, 31, none⟩ = some (.int .u64 3) := hb.lies.at (b := 13) (j := 31) (v := .u 3) rfl
  have f31 : v.frozen? ⟨Nb + 13, 31, none⟩ = false := hb.lies.free (b := 13) (j := 31) (v := .u 3) rfl
  have d25 : v.cell? ⟨Nb + 13, 25, none⟩ = some (.int .i64 4) := hb.lies.at (b := 13) (j := 25) (v := .i 4) rfl
  have f25 : v.frozen? ⟨Nb + 13, 25, none⟩ = false := hb.lies.free (b := 13) (j := 25) (v := .i 4) rfl
  have d02 : v.cell? ⟨Nb + 13, 2, none⟩ = some (.slice (some ⟨Nb + 6, 0, none⟩) 2 2) := hb.lies.at (b := 13) (j := 2) (v := .s 6 2) rfl
  have f02 : v.frozen? ⟨Nb + 13, 2, none⟩ = false := hb.lies.free (b := 13) (j := 2) (v := .s 6 2) rfl
  have d33 : v.cell? ⟨Nb + 13, 33, none⟩ = some (.slice (some ⟨Nb + 12, 0, none⟩) 3 3) := hb.lies.at (b := 13) (j := 33) (v := .s 12 3) rfl
  have f33 : v.frozen? ⟨Nb + 13, 33, none⟩ = false := hb.lies.free (b := 13) (j := 33) (v := .s 12 3) rfl
  have ln13 : Nb + 13 < v.heap.size := by omega
  have q2 : v.cell? ⟨A + 1, 2, none⟩ = some (.slice (some ⟨Nb + 3, 0, none⟩) 2 2) := blk_cell hB 2
  have q3 : v.cell? ⟨A + 1, 3, none⟩ = some (.slice (some ⟨Nb + 13, 0, none⟩) 4 4) := blk_cell hB 3
  have q4 : v.cell? ⟨A + 1, 4, none⟩ = some (.int .i64 20) := blk_cell hB 4
  have q5 : v.cell? ⟨A + 1, 5, none⟩ = some (.slice (some ⟨Sb, 0, none⟩) 4 4) := blk_cell hB 5
  have q6 : v.cell? ⟨A + 1, 6, none⟩ = some (.slice (some ⟨Vb, 0, none⟩) 4 4) := blk_cell hB 6
  have qf : v.frozen? ⟨A + 1, 4, none⟩ = false := blk_free hB 4
  have r5 : v.cell? ⟨A, 5, none⟩ = some (.slice (some ⟨Sa, 0, none⟩) 4 4) := blk_cell hA 5
  have lA : A < v.heap.size := by omega
  simp only [nil4, List.getElem?_toArray, List.getElem?_cons_zero, List.getElem?_cons_succ] at sa1 sc1 vc2
  clear ha hb hA hB xv
  go_upto_region 24 with (fail)
  refine wp_forget (fun y => SV Na Sa Va 20 a6a y ∧ SV Nb Sb Vb 20 b6a y ∧ y.heap[A]? = some (helpO Na Sa Va 20) ∧ y.heap[A + 1]? = some (helpO Nb Sb Vb 20) ∧ Ext w0 y) ⟨?_, ?_, block_ext (Ext.alloc (Ext.alloc (Ext.refl _) _) _) ((Below.heap_setCell _ _ _ _ (by show A ≠ Sa; omega)).trans ((Below.heap_setCell _ _ _ _ (by show A ≠ Sb; omega)).trans HBA.out)), block_ext (Ext.alloc (Ext.alloc (Ext.refl _) _) _) ((Below.heap_setCell _ _ _ _ (by show A + 1 ≠ Sa; omega)).trans ((Below.heap_setCell _ _ _ _ (by show A + 1 ≠ Sb; omega)).trans HBB.out)), (Ext.alloc (Ext.alloc ((XV.out.setCell (by show w0.heap.size ≤ Sb; omega) _).setCell (by show w0.heap.size ≤ Sa; omega) _) _) _)⟩ ?_
  · have hn : ((((v.setCell ⟨Sb, 1, none⟩ (.slice (some ⟨v.heap.size, 0, none⟩) 1 1)).setCell ⟨Sa, 1, none⟩ (.slice (some ⟨v.heap.size + 1, 0, none⟩) 1 1)).alloc (axnO 0 1 0)).alloc (axnO 0 0 1)).heap[v.heap.size + 1]? = some (axnO 0 0 1) := by have h := (heap_new2' (v.setCell ⟨Sb, 1, none⟩ (.slice (some ⟨v.heap.size, 0, none⟩) 1 1)) ⟨Sa, 1, none⟩ (.slice (some ⟨v.heap.size + 1, 0, none⟩) 1 1) (axnO 0 1 0) (axnO 0 0 1)).2; simpa [World.setCell] using h
    exact (((HA.out.aside (b := Sb) _ (by omega) (by omega) (by omega)).putS 1 (.slice (some ⟨v.heap.size + 1, 0, none⟩) 1 1)).ext (Ext.alloc (Ext.alloc (Ext.refl _) _) _)).script baseC_of rfl rfl (oneS_v (axns_one (x := ⟨0, 0, 1⟩) hn)) (nilA_v _)
  · have hn : ((((v.setCell ⟨Sb, 1, none⟩ (.slice (some ⟨v.heap.size, 0, none⟩) 1 1)).setCell ⟨Sa, 1, none⟩ (.slice (some ⟨v.heap.size + 1, 0, none⟩) 1 1)).alloc (axnO 0 1 0)).alloc (axnO 0 0 1)).heap[v.heap.size]? = some (axnO 0 1 0) := by have h := (heap_new2' (v.setCell ⟨Sb, 1, none⟩ (.slice (some ⟨v.heap.size, 0, none⟩) 1 1)) ⟨Sa, 1, none⟩ (.slice (some ⟨v.heap.size + 1, 0, none⟩) 1 1) (axnO 0 1 0) (axnO 0 0 1)).1; simpa [World.setCell] using h
    exact (((HB.out.putS 1 (.slice (some ⟨v.heap.size, 0, none⟩) 1 1)).aside (b := Sa) _ (by omega) (by omega) (by omega)).ext (Ext.alloc (Ext.alloc (Ext.refl _) _) _)).script baseC_of rfl rfl (oneS_v (axns_one (x := ⟨0, 1, 0⟩) hn)) (nilA_v _)
  clear HA HB XV HBA HBB hNa hSa hNb hSb hVb lB bs bv bs2 sa1 saf sc1 vc2 sf1 vf2 pc rc rf d31 f31 d25 f25 d02 f02 d33 f33 ln13 q2 q3 q4 q5 q6 qf r5 lA hmk b13 bsb bvb
  rintro y ⟨sa, sb, kA, kB, hx⟩
  (try clear v)
  have HX := hid hx
  have FA : ScFit a6a := .of (by kernel_rfl) (by kernel_rfl) (by kernel_rfl)
  have FB : ScFit b6a := .of (by kernel_rfl) (by kernel_rfl) (by kernel_rfl)
  have hne : a6a ≠ b6a := fun h => absurd (congrArg (fun s : Scr => s.streams) h) (by decide)
  have hIA := hid (fun z (hz : Ext y z) => show Calls Try.prog 7 #[helpV Na Sa Va 20] z (Yields z .nilIface) from sIs FA.is (sa.ext hz))
  have hIB := hid (fun z (hz : Ext y z) => show Calls Try.prog 7 #[helpV Nb Sb Vb 20] z (Yields z .nilIface) from sIs FB.is (sb.ext hz))
  have hBA := hid (fun z (hz : Ext y z) => gBytes FA.is FA.inn FA.len (sa.ext hz))
  have hBB := hid (fun z (hz : Ext y z) => gBytes FB.is FB.inn FB.len (sb.ext hz))
  have hSM := hid (fun z (hz : Ext y z) => uSame hne (sa.ext hz) (sb.ext hz))
  have hst := fit_ne FA FB hne
  obtain ⟨la, hla⟩ : ∃ l, l = allBytes a6a := ⟨_, rfl⟩
  obtain ⟨lb, hlb⟩ : ∃ l, l = allBytes b6a := ⟨_, rfl⟩
  rw [← hla] at hBA hst
  rw [← hlb] at hBB hst
  rw [str_toList, str_toList] at hst
  have g1 : (la == lb) = false := by simpa using hst
  have g2 : (la != lb) = true := by simpa using hst
  clear hla hlb hst FA FB hne
  have hen := fun w => run_eql_nil_nil' (P := Try.prog) w Try.underlying33
  have lA := lt_of_block kA
  have lB := lt_of_block kB
  have a0 := blk_cell kA 0
  have a1 := blk_cell kA 1
  have a2 := blk_cell kA 2
  have a3 := blk_cell kA 3
  have a4 := blk_cell kA 4
  have a5 := blk_cell kA 5
  have a6 := blk_cell kA 6
  have b0 := blk_cell kB 0
  have b1 := blk_cell kB 1
  have b2 := blk_cell kB 2
  have b3 := blk_cell kB 3
  have b4 := blk_cell kB 4
  have b5 := blk_cell kB 5
  have b6 := blk_cell kB 6
  simp only [List.getElem?_toArray, List.getElem?_cons_zero, List.getElem?_cons_succ] at a0 a1 a2 a3 a4 a5 a6 b0 b1 b2 b3 b4 b5 b6
  clear kA kB sa sb hx
  ((first | refine wp_region_more (by kernel_rfl) (by kernel_rfl) ?_ | refine wp_region_ext (by kernel_rfl) (by kernel_rfl) ?_); (try dsimp only [append_cons', append_nil']); (repeat (go_big_quiet_step ((first | (go_at_call 7; with_reducible refine Calls.more_of (hIA.out _ (ext_more _ _))) | (go_at_call 7; with_reducible refine Calls.more_of (hIB.out _ (ext_more _ _))) | (go_at_call 9; with_reducible refine Calls.more_of (hBA.out _ (ext_more _ _))) | (go_at_call 9; with_reducible refine Calls.more_of (hBB.out _ (ext_more _ _))) | (go_at_call 11; with_reducible refine Calls.more_of (hSM.out _ (ext_more _ _))))))); refine wpQuiet_nil ?_; rintro _ ⟨pq, rfl⟩)
  go_wp2
  go_returns
  exact ⟨rfl, hE0.out.trans (HX.out.more _)⟩

def a6b : Scr := ⟨baseC, 20, [[], [⟨0, 0, 2⟩], [], []], nilA⟩
def b6b : Scr := ⟨baseC, 20, [[], [⟨0, 2, 0⟩], [], []], nilA⟩
set_option maxRecDepth 100000 in
set_option maxHeartbeats 8000000 in
theorem walk6b (which n : Int) (hw0 : 0 ≤ which) (hw1 : which ≤ 255) (hn0 : 0 ≤ n) (hn1 : n ≤ 255) (hk : which % 9 = 6) (hn : n % 4 = 1) (w : World) :
    Calls Try.prog 4 #[.int .u8 which, .int .u8 n] w (Yields w (.bool true)) := by
  have hmk := mkAxns 2 2 rfl (by decide)
  go_enter Try.func4, Try.ntmps4
  go_wp2_with fail
  refine (known4_any _).yields ?_
  intro p0
  have hE0 := hid (ext_more w p0)
  generalize more w p0 = w0 at *
  go_wp2_with fail
  refine (help_any _ 20).mono ?_
  rintro e w1 ⟨Na, Sa, Va, rfl, ha, xa⟩
  go_wp2_with fail
  refine (help_any _ 20).mono ?_
  rintro e w2 ⟨Nb, Sb, Vb, rfl, hb, xb⟩
  have lna := lt_of_block (ha.lies.block (b := 13) rfl)
  have bsa := lt_of_block ha.sb
  have bva := lt_of_block ha.vb
  have hw12 := xb.size
  go_upto_region 5 with (fail)
  refine wp_forget (fun v => HelpS w0.heap.size Na Sa Va baseRO nil4 nil4 v ∧ HelpS w1.heap.size Nb Sb Vb baseRO nil4 nil4 v ∧ v.heap[w2.heap.size]? = some (helpO Na Sa Va 20) ∧ v.heap[w2.heap.size + 1]? = some (helpO Nb Sb Vb 20) ∧ Ext w0 v ∧ Nb + 13 < w2.heap.size ∧ Sb < w2.heap.size ∧ Vb < w2.heap.size)
    ⟨ha.ext (xb.trans (Ext.alloc (Ext.alloc (Ext.refl _) _) _)), hb.ext (Ext.alloc (Ext.alloc (Ext.refl _) _) _), block_ext (Ext.alloc (Ext.refl _) _) (heap_alloc_new w2 (helpO Na Sa Va 20)), heap_new2 w2 (helpO Na Sa Va 20) (helpO Nb Sb Vb 20), (xa.trans xb).trans (Ext.alloc (Ext.alloc (Ext.refl _) _) _), lt_of_block (hb.lies.block (b := 13) rfl), lt_of_block hb.sb, lt_of_block hb.vb⟩ ?_
  clear ha hb xa xb
  generalize w2.heap.size = A at *
  clear w2
  rintro v ⟨ha, hb, hA, hB, xv, b13, bsb, bvb⟩
  have HA := hid ha
  have HB := hid hb
  have XV := hid xv
  have HBA := hid hA
  have HBB := hid hB
  have hNa := ha.hN
  have hSa := ha.hS
  have hNb := hb.hN
  have hSb := hb.hS
  have hVb := hb.hV
  have lB := lt_of_block hB
  have bs := lt_of_block hb.sb
  have bv := lt_of_block hb.vb
  have bs2 := lt_of_block ha.sb
  have sa1 := blk_cell ha.sb 1
  have saf := blk_free ha.sb 1
  have sc1 := blk_cell hb.sb 1
  have vc2 := blk_cell hb.vb 2
  have sf1 := blk_free hb.sb 1
  have vf2 := blk_free hb.vb 2
  have pc : v.cell? ⟨Nb + 3, 0, none⟩ = some (.slice (some ⟨Nb + 1, 0, none⟩) 4 4) := hb.lies.at (b := 3) (j := 0) (v := .s 1 4) rfl
  have rc : v.cell? ⟨Nb + 1, 1, none⟩ = some (.int .i64 2) := hb.lies.at (b := 1) (j := 1) (v := .i 2) rfl
  have rf : v.frozen? ⟨Nb + 1, 1, none⟩ = false := hb.lies.free (b := 1) (j := 1) (v := .i 2) rfl
  have d31 : v.cell? ⟨Nb + 13, 31, none⟩ = some (.int .u64 3) := hb.lies.at (b := 13) (j := 31) (v := .u 3) rfl
  have f31 : v.frozen? ⟨Nb + 13, 31, none⟩ = false := hb.lies.free (b := 13) (j := 31) (v := .u 3) rfl
  have d25 : v.cell? ⟨Nb + 13, 25, none⟩ = some (.int .i64 4) := hb.lies.at (b := 13) (j := 25) (v := .i 4) rfl
  have f25 : v.frozen? ⟨Nb + 13, 25, none⟩ = false := hb.lies.free (b := 13) (j := 25) (v := .i 4) rfl
  have d02 : v.cell? ⟨Nb + 13, 2, none⟩ = some (.slice (some ⟨Nb + 6, 0, none⟩) 2 2) := hb.lies.at (b := 13) (j := 2) (v := .s 6 2) rfl
  have f02 : v.frozen? ⟨Nb + 13, 2, none⟩ = false := hb.lies.free (b := 13) (j := 2) (v := .s 6 2) rfl
  have d33 : v.cell? ⟨Nb + 13, 33, none⟩ = some (.slice (some ⟨Nb + 12, 0, none⟩) 3 3) := hb.lies.at (b := 13) (j := 33) (v := .s 12 3) rfl
  have f33 : v.frozen? ⟨Nb + 13, 33, none⟩ = false := hb.lies.free (b := 13) (j := 33) (v := .s 12 3) rfl
  have ln13 : Nb + 13 < v.heap.size := by omega
  have q2 : v.cell? ⟨A + 1, 2, none⟩ = some (.slice (some ⟨Nb + 3, 0, none⟩) 2 2) := blk_cell hB 2
  have q3 : v.cell? ⟨A + 1, 3, none⟩ = some (.slice (some ⟨Nb + 13, 0, none⟩) 4 4) := blk_cell hB 3
  have q4 : v.cell? ⟨A + 1, 4, none⟩ = some (.int .i64 20) := blk_cell hB 4
  have q5 : v.cell? ⟨A + 1, 5, none⟩ = some (.slice (some ⟨Sb, 0, none⟩) 4 4) := blk_cell hB 5
  have q6 : v.cell? ⟨A + 1, 6, none⟩ = some (.slice (some ⟨Vb, 0, none⟩) 4 4) := blk_cell hB 6
  have qf : v.frozen? ⟨A + 1, 4, none⟩ = false := blk_free hB 4
  have r5 : v.cell? ⟨A, 5, none⟩ = some (.slice (some ⟨Sa, 0, none⟩) 4 4) := blk_cell hA 5
  have lA : A < v.heap.size := by omega
  simp only [nil4, List.getElem?_toArray, List.getElem?_cons_zero, List.getElem?_cons_succ] at sa1 sc1 vc2
  clear ha hb hA hB xv
  go_upto_region 24 with (fail)
  refine wp_forget (fun y => SV Na Sa Va 20 a6b y ∧ SV Nb Sb Vb 20 b6b y ∧ y.heap[A]? = some (helpO Na Sa Va 20) ∧ y.heap[A + 1]? = some (helpO Nb Sb Vb 20) ∧ Ext w0 y) ⟨?_, ?_, block_ext (Ext.alloc (Ext.alloc (Ext.refl _) _) _) ((Below.heap_setCell _ _ _ _ (by show A ≠ Sa; omega)).trans ((Below.heap_setCell _ _ _ _ (by show A ≠ Sb; omega)).trans HBA.out)), block_ext (Ext.alloc (Ext.alloc (Ext.refl _) _) _) ((Below.heap_setCell _ _ _ _ (by show A + 1 ≠ Sa; omega)).trans ((Below.heap_setCell _ _ _ _ (by show A + 1 ≠ Sb; omega)).trans HBB.out)), (Ext.alloc (Ext.alloc ((XV.out.setCell (by show w0.heap.size ≤ Sb; omega) _).setCell (by show w0.heap.size ≤ Sa; omega) _) _) _)⟩ ?_
  · have hn : ((((v.setCell ⟨Sb, 1, none⟩ (.slice (some ⟨v.heap.size, 0, none⟩) 1 1)).setCell ⟨Sa, 1, none⟩ (.slice (some ⟨v.heap.size + 1, 0, none⟩) 1 1)).alloc (axnO 0 2 0)).alloc (axnO 0 0 2)).heap[v.heap.size + 1]? = some (axnO 0 0 2) := by have h := (heap_new2' (v.setCell ⟨Sb, 1, none⟩ (.slice (some ⟨v.heap.size, 0, none⟩) 1 1)) ⟨Sa, 1, none⟩ (.slice (some ⟨v.heap.size + 1, 0, none⟩) 1 1) (axnO 0 2 0) (axnO 0 0 2)).2; simpa [World.setCell] using h
    exact (((HA.out.aside (b := Sb) _ (by omega) (by omega) (by omega)).putS 1 (.slice (some ⟨v.heap.size + 1, 0, none⟩) 1 1)).ext (Ext.alloc (Ext.alloc (Ext.refl _) _) _)).script baseC_of rfl rfl (oneS_v (axns_one (x := ⟨0, 0, 2⟩) hn)) (nilA_v _)
  · have hn : ((((v.setCell ⟨Sb, 1, none⟩ (.slice (some ⟨v.heap.size, 0, none⟩) 1 1)).setCell ⟨Sa, 1, none⟩ (.slice (some ⟨v.heap.size + 1, 0, none⟩) 1 1)).alloc (axnO 0 2 0)).alloc (axnO 0 0 2)).heap[v.heap.size]? = some (axnO 0 2 0) := by have h := (heap_new2' (v.setCell ⟨Sb, 1, none⟩ (.slice (some ⟨v.heap.size, 0, none⟩) 1 1)) ⟨Sa, 1, none⟩ (.slice (some ⟨v.heap.size + 1, 0, none⟩) 1 1) (axnO 0 2 0) (axnO 0 0 2)).1; simpa [World.setCell] using h
    exact (((HB.out.putS 1 (.slice (some ⟨v.heap.size, 0, none⟩) 1 1)).aside (b := Sa) _ (by omega) (by omega) (by omega)).ext (Ext.alloc (Ext.alloc (Ext.refl _) _) _)).script baseC_of rfl rfl (oneS_v (axns_one (x := ⟨0, 2, 0⟩) hn)) (nilA_v _)
  clear HA HB XV HBA HBB hNa hSa hNb hSb hVb lB bs bv bs2 sa1 saf sc1 vc2 sf1 vf2 pc rc rf d31 f31 d25 f25 d02 f02 d33 f33 ln13 q2 q3 q4 q5 q6 qf r5 lA hmk b13 bsb bvb
  rintro y ⟨sa, sb, kA, kB, hx⟩
  (try clear v)
  have HX := hid hx
  have FA : ScFit a6b := .of (by kernel_rfl) (by kernel_rfl) (by kernel_rfl)
  have FB : ScFit b6b := .of (by kernel_rfl) (by kernel_rfl) (by kernel_rfl)
  have hne : a6b ≠ b6b := fun h => absurd (congrArg (fun s : Scr => s.streams) h) (by decide)
  have hIA := hid (fun z (hz : Ext y z) => show Calls Try.prog 7 #[helpV Na Sa Va 20] z (Yields z .nilIface) from sIs FA.is (sa.ext hz))
  have hIB := hid (fun z (hz : Ext y z) => show Calls Try.prog 7 #[helpV Nb Sb Vb 20] z (Yields z .nilIface) from sIs FB.is (sb.ext hz))
  have hBA := hid (fun z (hz : Ext y z) => gBytes FA.is FA.inn FA.len (sa.ext hz))
  have hBB := hid (fun z (hz : Ext y z) => gBytes FB.is FB.inn FB.len (sb.ext hz))
  have hSM := hid (fun z (hz : Ext y z) => uSame hne (sa.ext hz) (sb.ext hz))
  have hst := fit_ne FA FB hne
  obtain ⟨la, hla⟩ : ∃ l, l = allBytes a6b := ⟨_, rfl⟩
  obtain ⟨lb, hlb⟩ : ∃ l, l = allBytes b6b := ⟨_, rfl⟩
  rw [← hla] at hBA hst
  rw [← hlb] at hBB hst
  rw [str_toList, str_toList] at hst
  have g1 : (la == lb) = false := by simpa using hst
  have g2 : (la != lb) = true := by simpa using hst
  clear hla hlb hst FA FB hne
  have hen := fun w => run_eql_nil_nil' (P := Try.prog) w Try.underlying33
  have lA := lt_of_block kA
  have lB := lt_of_block kB
  have a0 := blk_cell kA 0
  have a1 := blk_cell kA 1
  have a2 := blk_cell kA 2
  have a3 := blk_cell kA 3
  have a4 := blk_cell kA 4
  have a5 := blk_cell kA 5
  have a6 := blk_cell kA 6
  have b0 := blk_cell kB 0
  have b1 := blk_cell kB 1
  have b2 := blk_cell kB 2
  have b3 := blk_cell kB 3
  have b4 := blk_cell kB 4
  have b5 := blk_cell kB 5
  have b6 := blk_cell kB 6
  simp only [List.getElem?_toArray, List.getElem?_cons_zero, List.getElem?_cons_succ] at a0 a1 a2 a3 a4 a5 a6 b0 b1 b2 b3 b4 b5 b6
  clear kA kB sa sb hx
  ((first | refine wp_region_more (by kernel_rfl) (by kernel_rfl) ?_ | refine wp_region_ext (by kernel_rfl) (by kernel_rfl) ?_); (try dsimp only [append_cons', append_nil']); (repeat (go_big_quiet_step ((first | (go_at_call 7; with_reducible refine Calls.more_of (hIA.out _ (ext_more _ _))) | (go_at_call 7; with_reducible refine Calls.more_of (hIB.out _ (ext_more _ _))) | (go_at_call 9; with_reducible refine Calls.more_of (hBA.out _ (ext_more _ _))) | (go_at_call 9; with_reducible refine Calls.more_of (hBB.out _ (ext_more _ _))) | (go_at_call 11; with_reducible refine Calls.more_of (hSM.out _ (ext_more _ _))))))); refine wpQuiet_nil ?_; rintro _ ⟨pq, rfl⟩)
  go_wp2
  go_returns
  exact ⟨rfl, hE0.out.trans (HX.out.more _)⟩

def a6c : Scr := ⟨baseC, 20, [[], [⟨0, 0, 3⟩], [], []], nilA⟩
def b6c : Scr := ⟨baseC, 20, [[], [⟨0, 3, 0⟩], [], []], nilA⟩
set_option maxRecDepth 100000 in
set_option maxHeartbeats 8000000 in
theorem walk6c (which n : Int) (hw0 : 0 ≤ which) (hw1 : which ≤ 255) (hn0 : 0 ≤ n) (hn1 : n ≤ 255) (hk : which % 9 = 6) (hn : n % 4 = 2) (w : World) :
    Calls Try.prog 4 #[.int .u8 which, .int .u8 n] w (Yields w (.bool true)) := by
  have hmk := mkAxns 3 3 rfl (by decide)
  go_enter Try.func4, Try.ntmps4
  go_wp2_with fail
  refine (known4_any _).yields ?_
  intro p0
  have hE0 := hid (ext_more w p0)
  generalize more w p0 = w0 at *
  go_wp2_with fail
  refine (help_any _ 20).mono ?_
  rintro e w1 ⟨Na, Sa, Va, rfl, ha, xa⟩
  go_wp2_with fail
  refine (help_any _ 20).mono ?_
  rintro e w2 ⟨Nb, Sb, Vb, rfl, hb, xb⟩
  have lna := lt_of_block (ha.lies.block (b := 13) rfl)
  have bsa := lt_of_block ha.sb
  have bva := lt_of_block ha.vb
  have hw12 := xb.size
  go_upto_region 5 with (fail)
  refine wp_forget (fun v => HelpS w0.heap.size Na Sa Va baseRO nil4 nil4 v ∧ HelpS w1.heap.size Nb Sb Vb baseRO nil4 nil4 v ∧ v.heap[w2.heap.size]? = some (helpO Na Sa Va 20) ∧ v.heap[w2.heap.size + 1]? = some (helpO Nb Sb Vb 20) ∧ Ext w0 v ∧ Nb + 13 < w2.heap.size ∧ Sb < w2.heap.size ∧ Vb < w2.heap.size)
    ⟨ha.ext (xb.trans (Ext.alloc (Ext.alloc (Ext.refl _) _) _)), hb.ext (Ext.alloc (Ext.alloc (Ext.refl _) _) _), block_ext (Ext.alloc (Ext.refl _) _) (heap_alloc_new w2 (helpO Na Sa Va 20)), heap_new2 w2 (helpO Na Sa Va 20) (helpO Nb Sb Vb 20), (xa.trans xb).trans (Ext.alloc (Ext.alloc (Ext.refl _) _) _), lt_of_block (hb.lies.block (b := 13) rfl), lt_of_block hb.sb, lt_of_block hb.vb⟩ ?_
  clear ha hb xa xb
  generalize w2.heap.size = A at *
  clear w2
  rintro v ⟨ha, hb, hA, hB, xv, b13, bsb, bvb⟩
  have HA := hid ha
  have HB := hid hb
  have XV := hid xv
  have HBA := hid hA
  have HBB := hid hB
  have hNa := ha.hN
  have hSa := ha.hS
  have hNb := hb.hN
  have hSb := hb.hS
  have hVb := hb.hV
  have lB := lt_of_block hB
  have bs := lt_of_block hb.sb
  have bv := lt_of_block hb.vb
  have bs2 := lt_of_block ha.sb
  have sa1 := blk_cell ha.sb 1
  have saf := blk_free ha.sb 1
  have sc1 := blk_cell hb.sb 1
  have vc2 := blk_cell hb.vb 2
  have sf1 := blk_free hb.sb 1
  have vf2 := blk_free hb.vb 2
  have pc : v.cell? ⟨Nb + 3, 0, none⟩ = some (.slice (some ⟨Nb + 1, 0, none⟩) 4 4) := hb.lies.at (b := 3) (j := 0) (v := .s 1 4) rfl
  have rc : v.cell? ⟨Nb + 1, 1, none⟩ = some (.int .i64 2) := hb.lies.at (b := 1) (j := 1) (v := .i 2) rfl
  have rf : v.frozen? ⟨Nb + 1, 1, none⟩ = false := hb.lies.free (b := 1) (j := 1) (v := .i 2) rfl
  have d31 : v.cell? ⟨Nb + 13, 31, none⟩ = some (.int .u64 3) := hb.lies.at (b := 13) (j := 31) (v := .u 3) rfl
  have f31 : v.frozen? ⟨Nb + 13, 31, none⟩ = false := hb.lies.free (b := 13) (j := 31) (v := .u 3) rfl
  have d25 : v.cell? ⟨Nb + 13, 25, none⟩ = some (.int .i64 4) := hb.lies.at (b := 13) (j := 25) (v := .i 4) rfl
  have f25 : v.frozen? ⟨Nb + 13, 25, none⟩ = false := hb.lies.free (b := 13) (j := 25) (v := .i 4) rfl
  have d02 : v.cell? ⟨Nb + 13, 2, none⟩ = some (.slice (some ⟨Nb + 6, 0, none⟩) 2 2) := hb.lies.at (b := 13) (j := 2) (v := .s 6 2) rfl
  have f02 : v.frozen? ⟨Nb + 13, 2, none⟩ = false := hb.lies.free (b := 13) (j := 2) (v := .s 6 2) rfl
  have d33 : v.cell? ⟨Nb + 13, 33, none⟩ = some (.slice (some ⟨Nb + 12, 0, none⟩) 3 3) := hb.lies.at (b := 13) (j := 33) (v := .s 12 3) rfl
  have f33 : v.frozen? ⟨Nb + 13, 33, none⟩ = false := hb.lies.free (b := 13) (j := 33) (v := .s 12 3) rfl
  have ln13 : Nb + 13 < v.heap.size := by omega
  have q2 : v.cell? ⟨A + 1, 2, none⟩ = some (.slice (some ⟨Nb + 3, 0, none⟩) 2 2) := blk_cell hB 2
  have q3 : v.cell? ⟨A + 1, 3, none⟩ = some (.slice (some ⟨Nb + 13, 0, none⟩) 4 4) := blk_cell hB 3
  have q4 : v.cell? ⟨A + 1, 4, none⟩ = some (.int .i64 20) := blk_cell hB 4
  have q5 : v.cell? ⟨A + 1, 5, none⟩ = some (.slice (some ⟨Sb, 0, none⟩) 4 4) := blk_cell hB 5
  have q6 : v.cell? ⟨A + 1, 6, none⟩ = some (.slice (some ⟨Vb, 0, none⟩) 4 4) := blk_cell hB 6
  have qf : v.frozen? ⟨A + 1, 4, none⟩ = false := blk_free hB 4
  have r5 : v.cell? ⟨A, 5, none⟩ = some (.slice (some ⟨Sa, 0, none⟩) 4 4) := blk_cell hA 5
  have lA : A < v.heap.size := by omega
  simp only [nil4, List.getElem?_toArray, List.getElem?_cons_zero, List.getElem?_cons_succ] at sa1 sc1 vc2
  clear ha hb hA hB xv
  go_upto_region 24 with (fail)
  refine wp_forget (fun y => SV Na Sa Va 20 a6c y ∧ SV Nb Sb Vb 20 b6c y ∧ y.heap[A]? = some (helpO Na Sa Va 20) ∧ y.heap[A + 1]? = some (helpO Nb Sb Vb 20) ∧ Ext w0 y) ⟨?_, ?_, block_ext (Ext.alloc (Ext.alloc (Ext.refl _) _) _) ((Below.heap_setCell _ _ _ _ (by show A ≠ Sa; omega)).trans ((Below.heap_setCell _ _ _ _ (by show A ≠ Sb; omega)).trans HBA.out)), block_ext (Ext.alloc (Ext.alloc (Ext.refl _) _) _) ((Below.heap_setCell _ _ _ _ (by show A + 1 ≠ Sa; omega)).trans ((Below.heap_setCell _ _ _ _ (by show A + 1 ≠ Sb; omega)).trans HBB.out)), (Ext.alloc (Ext.alloc ((XV.out.setCell (by show w0.heap.size ≤ Sb; omega) _).setCell (by show w0.heap.size ≤ Sa; omega) _) _) _)⟩ ?_
  · have hn : ((((v.setCell ⟨Sb, 1, none⟩ (.slice (some ⟨v.heap.size, 0, none⟩) 1 1)).setCell ⟨Sa, 1, none⟩ (.slice (some ⟨v.heap.size + 1, 0, none⟩) 1 1)).alloc (axnO 0 3 0)).alloc (axnO 0 0 3)).heap[v.heap.size + 1]? = some (axnO 0 0 3) := by have h := (heap_new2' (v.setCell ⟨Sb, 1, none⟩ (.slice (some ⟨v.heap.size, 0, none⟩) 1 1)) ⟨Sa, 1, none⟩ (.slice (some ⟨v.heap.size + 1, 0, none⟩) 1 1) (axnO 0 3 0) (axnO 0 0 3)).2; simpa [World.setCell] using h
    exact (((HA.out.aside (b := Sb) _ (by omega) (by omega) (by omega)).putS 1 (.slice (some ⟨v.heap.size + 1, 0, none⟩) 1 1)).ext (Ext.alloc (Ext.alloc (Ext.refl _) _) _)).script baseC_of rfl rfl (oneS_v (axns_one (x := ⟨0, 0, 3⟩) hn)) (nilA_v _)
  · have hn : ((((v.setCell ⟨Sb, 1, none⟩ (.slice (some ⟨v.heap.size, 0, none⟩) 1 1)).setCell ⟨Sa, 1, none⟩ (.slice (some ⟨v.heap.size + 1, 0, none⟩) 1 1)).alloc (axnO 0 3 0)).alloc (axnO 0 0 3)).heap[v.heap.size]? = some (axnO 0 3 0) := by have h := (heap_new2' (v.setCell ⟨Sb, 1, none⟩ (.slice (some ⟨v.heap.size, 0, none⟩) 1 1)) ⟨Sa, 1, none⟩ (.slice (some ⟨v.heap.size + 1, 0, none⟩) 1 1) (axnO 0 3 0) (axnO 0 0 3)).1; simpa [World.setCell] using h
    exact (((HB.out.putS 1 (.slice (some ⟨v.heap.size, 0, none⟩) 1 1)).aside (b := Sa) _ (by omega) (by omega) (by omega)).ext (Ext.alloc (Ext.alloc (Ext.refl _) _) _)).script baseC_of rfl rfl (oneS_v (axns_one (x := ⟨0, 3, 0⟩) hn)) (nilA_v _)
  clear HA HB XV HBA HBB hNa hSa hNb hSb hVb lB bs bv bs2 sa1 saf sc1 vc2 sf1 vf2 pc rc rf d31 f31 d25 f25 d02 f02 d33 f33 ln13 q2 q3 q4 q5 q6 qf r5 lA hmk b13 bsb bvb
  rintro y ⟨sa, sb, kA, kB, hx⟩
  (try clear v)
  have HX := hid hx
  have FA : ScFit a6c := .of (by kernel_rfl) (by kernel_rfl) (by kernel_rfl)
  have FB : ScFit b6c := .of (by kernel_rfl) (by kernel_rfl) (by kernel_rfl)
  have hne : a6c ≠ b6c := fun h => absurd (congrArg (fun s : Scr => s.streams) h) (by decide)
  have hIA := hid (fun z (hz : Ext y z) => show Calls Try.prog 7 #[helpV Na Sa Va 20] z (Yields z .nilIface) from sIs FA.is (sa.ext hz))
  have hIB := hid (fun z (hz : Ext y z) => show Calls Try.prog 7 #[helpV Nb Sb Vb 20] z (Yields z .nilIface) from sIs FB.is (sb.ext hz))
  have hBA := hid (fun z (hz : Ext y z) => gBytes FA.is FA.inn FA.len (sa.ext hz))
  have hBB := hid (fun z (hz : Ext y z) => gBytes FB.is FB.inn FB.len (sb.ext hz))
  have hSM := hid (fun z (hz : Ext y z) => uSame hne (sa.ext hz) (sb.ext hz))
  have hst := fit_ne FA FB hne
  obtain ⟨la, hla⟩ : ∃ l, l = allBytes a6c := ⟨_, rfl⟩
  obtain ⟨lb, hlb⟩ : ∃ l, l = allBytes b6c := ⟨_, rfl⟩
  rw [← hla] at hBA hst
  rw [← hlb] at hBB hst
  rw [str_toList, str_toList] at hst
  have g1 : (la == lb) = false := by simpa using hst
  have g2 : (la != lb) = true := by simpa using hst
  clear hla hlb hst FA FB hne
  have hen := fun w => run_eql_nil_nil' (P := Try.prog) w Try.underlying33
  have lA := lt_of_block kA
  have lB := lt_of_block kB
  have a0 := blk_cell kA 0
  have a1 := blk_cell kA 1
  have a2 := blk_cell kA 2
  have a3 := blk_cell kA 3
  have a4 := blk_cell kA 4
  have a5 := blk_cell kA 5
  have a6 := blk_cell kA 6
  have b0 := blk_cell kB 0
  have b1 := blk_cell kB 1
  have b2 := blk_cell kB 2
  have b3 := blk_cell kB 3
  have b4 := blk_cell kB 4
  have b5 := blk_cell kB 5
  have b6 := blk_cell kB 6
  simp only [List.getElem?_toArray, List.getElem?_cons_zero, List.getElem?_cons_succ] at a0 a1 a2 a3 a4 a5 a6 b0 b1 b2 b3 b4 b5 b6
  clear kA kB sa sb hx
  ((first | refine wp_region_more (by kernel_rfl) (by kernel_rfl) ?_ | refine wp_region_ext (by kernel_rfl) (by kernel_rfl) ?_); (try dsimp only [append_cons', append_nil']); (repeat (go_big_quiet_step ((first | (go_at_call 7; with_reducible refine Calls.more_of (hIA.out _ (ext_more _ _))) | (go_at_call 7; with_reducible refine Calls.more_of (hIB.out _ (ext_more _ _))) | (go_at_call 9; with_reducible refine Calls.more_of (hBA.out _ (ext_more _ _))) | (go_at_call 9; with_reducible refine Calls.more_of (hBB.out _ (ext_more _ _))) | (go_at_call 11; with_reducible refine Calls.more_of (hSM.out _ (ext_more _ _))))))); refine wpQuiet_nil ?_; rintro _ ⟨pq, rfl⟩)
  go_wp2
  go_returns
  exact ⟨rfl, hE0.out.trans (HX.out.more _)⟩

def a6d : Scr := ⟨baseC, 20, [[], [⟨0, 0, 4⟩], [], []], nilA⟩
def b6d : Scr := ⟨baseC, 20, [[], [⟨0, 4, 0⟩], [], []], nilA⟩
set_option maxRecDepth 100000 in
set_option maxHeartbeats 8000000 in
theorem walk6d (which n : Int) (hw0 : 0 ≤ which) (hw1 : which ≤ 255) (hn0 : 0 ≤ n) (hn1 : n ≤ 255) (hk : which % 9 = 6) (hn : n % 4 = 3) (w : World) :
    Calls Try.prog 4 #[.int .u8 which, .int .u8 n] w (Yields w (.bool true)) := by
  have hmk := mkAxns 4 4 rfl (by decide)
  go_enter Try.func4, Try.ntmps4
  go_wp2_with fail
  refine (known4_any _).yields ?_
  intro p0
  have hE0 := hid (ext_more w p0)
  generalize more w p0 = w0 at *
  go_wp2_with fail
  refine (help_any _ 20).mono ?_
  rintro e w1 ⟨Na, Sa, Va, rfl, ha, xa⟩
  go_wp2_with fail
  refine (help_any _ 20).mono ?_
  rintro e w2 ⟨Nb, Sb, Vb, rfl, hb, xb⟩
  have lna := lt_of_block (ha.lies.block (b := 13) rfl)
  have bsa := lt_of_block ha.sb
  have bva := lt_of_block ha.vb
  have hw12 := xb.size
  go_upto_region 5 with (fail)
  refine wp_forget (fun v => HelpS w0.heap.size Na Sa Va baseRO nil4 nil4 v ∧ HelpS w1.heap.size Nb Sb Vb baseRO nil4 nil4 v ∧ v.heap[w2.heap.size]? = some (helpO Na Sa Va 20) ∧ v.heap[w2.heap.size + 1]? = some (helpO Nb Sb Vb 20) ∧ Ext w0 v ∧ Nb + 13 < w2.heap.size ∧ Sb < w2.heap.size ∧ Vb < w2.heap.size)
    ⟨ha.ext (xb.trans (Ext.alloc (Ext.alloc (Ext.refl _) _) _)), hb.ext (Ext.alloc (Ext.alloc (Ext.refl _) _) _), block_ext (Ext.alloc (Ext.refl _) _) (heap_alloc_new w2 (helpO Na Sa Va 20)), heap_new2 w2 (helpO Na Sa Va 20) (helpO Nb Sb Vb 20), (xa.trans xb).trans (Ext.alloc (Ext.alloc (Ext.refl _) _) _), lt_of_block (hb.lies.block (b := 13) rfl), lt_of_block hb.sb, lt_of_block hb.vb⟩ ?_
  clear ha hb xa xb
  generalize w2.heap.size = A at *
  clear w2
  rintro v ⟨ha, hb, hA, hB, xv, b13, bsb, bvb⟩
  have HA := hid ha
  have HB := hid hb
  have XV := hid xv
  have HBA := hid hA
  have HBB := hid hB
  have hNa := ha.hN
  have hSa := ha.hS
  have hNb := hb.hN
  have hSb := hb.hS
  have hVb := hb.hV
  have lB := lt_of_block hB
  have bs := lt_of_block hb.sb
  have bv := lt_of_block hb.vb
  have bs2 := lt_of_block ha.sb
  have sa1 := blk_cell ha.sb 1
  have saf := blk_free ha.sb 1
  have sc1 := blk_cell hb.sb 1
  have vc2 := blk_cell hb.vb 2
  have sf1 := blk_free hb.sb 1
  have vf2 := blk_free hb.vb 2
  have pc : v.cell? ⟨Nb + 3, 0, none⟩ = some (.slice (some ⟨Nb + 1, 0, none⟩) 4 4) := hb.lies.at (b := 3) (j := 0) (v := .s 1 4) rfl
  have rc : v.cell? ⟨Nb + 1, 1, none⟩ = some (.int .i64 2) := hb.lies.at (b := 1) (j := 1) (v := .i 2) rfl
  have rf : v.frozen? ⟨Nb + 1, 1, none⟩ = false := hb.lies.free (b := 1) (j := 1) (v := .i 2) rfl
  have d31 : v.cell? ⟨Nb + 13, 31, none⟩ = some (.int .u64 3) := hb.lies.at (b := 13) (j := 31) (v := .u 3) rfl
  have f31 : v.frozen? ⟨Nb + 13, 31, none⟩ = false := hb.lies.free (b := 13) (j := 31) (v := .u 3) rfl
  have d25 : v.cell? ⟨Nb + 13, 25, none⟩ = some (.int .i64 4) := hb.lies.at (b := 13) (j := 25) (v := .i 4) rfl
  have f25 : v.frozen? ⟨Nb + 13, 25, none⟩ = false := hb.lies.free (b := 13) (j := 25) (v := .i 4) rfl
  have d02 : v.cell? ⟨Nb + 13, 2, none⟩ = some (.slice (some ⟨Nb + 6, 0, none⟩) 2 2) := hb.lies.at (b := 13) (j := 2) (v := .s 6 2) rfl
  have f02 : v.frozen? ⟨Nb + 13, 2, none⟩ = false := hb.lies.free (b := 13) (j := 2) (v := .s 6 2) rfl
  have d33 : v.cell? ⟨Nb + 13, 33, none⟩ = some (.slice (some ⟨Nb + 12, 0, none⟩) 3 3) := hb.lies.at (b := 13) (j := 33) (v := .s 12 3) rfl
  have f33 : v.frozen? ⟨Nb + 13, 33, none⟩ = false := hb.lies.free (b := 13) (j := 33) (v := .s 12 3) rfl
  have ln13 : Nb + 13 < v.heap.size := by omega
  have q2 : v.cell? ⟨A + 1, 2, none⟩ = some (.slice (some ⟨Nb + 3, 0, none⟩) 2 2) := blk_cell hB 2
  have q3 : v.cell? ⟨A + 1, 3, none⟩ = some (.slice (some ⟨Nb + 13, 0, none⟩) 4 4) := blk_cell hB 3
  have q4 : v.cell? ⟨A + 1, 4, none⟩ = some (.int .i64 20) := blk_cell hB 4
  have q5 : v.cell? ⟨A + 1, 5, none⟩ = some (.slice (some ⟨Sb, 0, none⟩) 4 4) := blk_cell hB 5
  have q6 : v.cell? ⟨A + 1, 6, none⟩ = some (.slice (some ⟨Vb, 0, none⟩) 4 4) := blk_cell hB 6
  have qf : v.frozen? ⟨A + 1, 4, none⟩ = false := blk_free hB 4
  have r5 : v.cell? ⟨A, 5, none⟩ = some (.slice (some ⟨Sa, 0, none⟩) 4 4) := blk_cell hA 5
  have lA : A < v.heap.size := by omega
  simp only [nil4, List.getElem?_toArray, List.getElem?_cons_zero, List.getElem?_cons_succ] at sa1 sc1 vc2
  clear ha hb hA hB xv
  go_upto_region 24 with (fail)
  refine wp_forget (fun y => SV Na Sa Va 20 a6d y ∧ SV Nb Sb Vb 20 b6d y ∧ y.heap[A]? = some (helpO Na Sa Va 20) ∧ y.heap[A + 1]? = some (helpO Nb Sb Vb 20) ∧ Ext w0 y) ⟨?_, ?_, block_ext (Ext.alloc (Ext.alloc (Ext.refl _) _) _) ((Below.heap_setCell _ _ _ _ (by show A ≠ Sa; omega)).trans ((Below.heap_setCell _ _ _ _ (by show A ≠ Sb; omega)).trans HBA.out)), block_ext (Ext.alloc (Ext.alloc (Ext.refl _) _) _) ((Below.heap_setCell _ _ _ _ (by show A + 1 ≠ Sa; omega)).trans ((Below.heap_setCell _ _ _ _ (by show A + 1 ≠ Sb; omega)).trans HBB.out)), (Ext.alloc (Ext.alloc ((XV.out.setCell (by show w0.heap.size ≤ Sb; omega) _).setCell (by show w0.heap.size ≤ Sa; omega) _) _) _)⟩ ?_
  · have hn : ((((v.setCell ⟨Sb, 1, none⟩ (.slice (some ⟨v.heap.size, 0, none⟩) 1 1)).setCell ⟨Sa, 1, none⟩ (.slice (some ⟨v.heap.size + 1, 0, none⟩) 1 1)).alloc (axnO 0 4 0)).alloc (axnO 0 0 4)).heap[v.heap.size + 1]? = some (axnO 0 0 4) := by have h := (heap_new2' (v.setCell ⟨Sb, 1, none⟩ (.slice (some ⟨v.heap.size, 0, none⟩) 1 1)) ⟨Sa, 1, none⟩ (.slice (some ⟨v.heap.size + 1, 0, none⟩) 1 1) (axnO 0 4 0) (axnO 0 0 4)).2; simpa [World.setCell] using h
    exact (((HA.out.aside (b := Sb) _ (by omega) (by omega) (by omega)).putS 1 (.slice (some ⟨v.heap.size + 1, 0, none⟩) 1 1)).ext (Ext.alloc (Ext.alloc (Ext.refl _) _) _)).script baseC_of rfl rfl (oneS_v (axns_one (x := ⟨0, 0, 4⟩) hn)) (nilA_v _)
  · have hn : ((((v.setCell ⟨Sb, 1, none⟩ (.slice (some ⟨v.heap.size, 0, none⟩) 1 1)).setCell ⟨Sa, 1, none⟩ (.slice (some ⟨v.heap.size + 1, 0, none⟩) 1 1)).alloc (axnO 0 4 0)).alloc (axnO 0 0 4)).heap[v.heap.size]? = some (axnO 0 4 0) := by have h := (heap_new2' (v.setCell ⟨Sb, 1, none⟩ (.slice (some ⟨v.heap.size, 0, none⟩) 1 1)) ⟨Sa, 1, none⟩ (.slice (some ⟨v.heap.size + 1, 0, none⟩) 1 1) (axnO 0 4 0) (axnO 0 0 4)).1; simpa [World.setCell] using h
    exact (((HB.out.putS 1 (.slice (some ⟨v.heap.size, 0, none⟩) 1 1)).aside (b := Sa) _ (by omega) (by omega) (by omega)).ext (Ext.alloc (Ext.alloc (Ext.refl _) _) _)).script baseC_of rfl rfl (oneS_v (axns_one (x := ⟨0, 4, 0⟩) hn)) (nilA_v _)
  clear HA HB XV HBA HBB hNa hSa hNb hSb hVb lB bs bv bs2 sa1 saf sc1 vc2 sf1 vf2 pc rc rf d31 f31 d25 f25 d02 f02 d33 f33 ln13 q2 q3 q4 q5 q6 qf r5 lA hmk b13 bsb bvb
  rintro y ⟨sa, sb, kA, kB, hx⟩
  (try clear v)
  have HX := hid hx
  have FA : ScFit a6d := .of (by kernel_rfl) (by kernel_rfl) (by kernel_rfl)
  have FB : ScFit b6d := .of (by kernel_rfl) (by kernel_rfl) (by kernel_rfl)
  have hne : a6d ≠ b6d := fun h => absurd (congrArg (fun s : Scr => s.streams) h) (by decide)
  have hIA := hid (fun z (hz : Ext y z) => show Calls Try.prog 7 #[helpV Na Sa Va 20] z (Yields z .nilIface) from sIs FA.is (sa.ext hz))
  have hIB := hid (fun z (hz : Ext y z) => show Calls Try.prog 7 #[helpV Nb Sb Vb 20] z (Yields z .nilIface) from sIs FB.is (sb.ext hz))
  have hBA := hid (fun z (hz : Ext y z) => gBytes FA.is FA.inn FA.len (sa.ext hz))
  have hBB := hid (fun z (hz : Ext y z) => gBytes FB.is FB.inn FB.len (sb.ext hz))
  have hSM := hid (fun z (hz : Ext y z) => uSame hne (sa.ext hz) (sb.ext hz))
  have hst := fit_ne FA FB hne
  obtain ⟨la, hla⟩ : ∃ l, l = allBytes a6d := ⟨_, rfl⟩
  obtain ⟨lb, hlb⟩ : ∃ l, l = allBytes b6d := ⟨_, rfl⟩
  rw [← hla] at hBA hst
  rw [← hlb] at hBB hst
  rw [str_toList, str_toList] at hst
  have g1 : (la == lb) = false := by simpa using hst
  have g2 : (la != lb) = true := by simpa using hst
  clear hla hlb hst FA FB hne
  have hen := fun w => run_eql_nil_nil' (P := Try.prog) w Try.underlying33
  have lA := lt_of_block kA
  have lB := lt_of_block kB
  have a0 := blk_cell kA 0
  have a1 := blk_cell kA 1
  have a2 := blk_cell kA 2
  have a3 := blk_cell kA 3
  have a4 := blk_cell kA 4
  have a5 := blk_cell kA 5
  have a6 := blk_cell kA 6
  have b0 := blk_cell kB 0
  have b1 := blk_cell kB 1
  have b2 := blk_cell kB 2
  have b3 := blk_cell kB 3
  have b4 := blk_cell kB 4
  have b5 := blk_cell kB 5
  have b6 := blk_cell kB 6
  simp only [List.getElem?_toArray, List.getElem?_cons_zero, List.getElem?_cons_succ] at a0 a1 a2 a3 a4 a5 a6 b0 b1 b2 b3 b4 b5 b6
  clear kA kB sa sb hx
  ((first | refine wp_region_more (by kernel_rfl) (by kernel_rfl) ?_ | refine wp_region_ext (by kernel_rfl) (by kernel_rfl) ?_); (try dsimp only [append_cons', append_nil']); (repeat (go_big_quiet_step ((first | (go_at_call 7; with_reducible refine Calls.more_of (hIA.out _ (ext_more _ _))) | (go_at_call 7; with_reducible refine Calls.more_of (hIB.out _ (ext_more _ _))) | (go_at_call 9; with_reducible refine Calls.more_of (hBA.out _ (ext_more _ _))) | (go_at_call 9; with_reducible refine Calls.more_of (hBB.out _ (ext_more _ _))) | (go_at_call 11; with_reducible refine Calls.more_of (hSM.out _ (ext_more _ _))))))); refine wpQuiet_nil ?_; rintro _ ⟨pq, rfl⟩)
  go_wp2
  go_returns
  exact ⟨rfl, hE0.out.trans (HX.out.more _)⟩

def b7a : Scr := ⟨baseC, 20, nilS, [[], [], [⟨1, 0⟩], []]⟩
set_option maxRecDepth 100000 in
set_option maxHeartbeats 8000000 in
theorem walk7a (which n : Int) (hw0 : 0 ≤ which) (hw1 : which ≤ 255) (hn0 : 0 ≤ n) (hn1 : n ≤ 255) (hk : which % 9 = 7) (hn : n % 4 = 0) (w : World) :
    Calls Try.prog 4 #[.int .u8 which, .int .u8 n] w (Yields w (.bool true)) := by
  have hmk := mkAxns 1 1 rfl (by decide)
  go_enter Try.func4, Try.ntmps4
  go_wp2_with fail
  refine (known4_any _).yields ?_
  intro p0
  have hE0 := hid (ext_more w p0)
  generalize more w p0 = w0 at *
  go_wp2_with fail
  refine (help_any _ 20).mono ?_
  rintro e w1 ⟨Na, Sa, Va, rfl, ha, xa⟩
  go_wp2_with fail
  refine (help_any _ 20).mono ?_
  rintro e w2 ⟨Nb, Sb, Vb, rfl, hb, xb⟩
  have lna := lt_of_block (ha.lies.block (b := 13) rfl)
  have bsa := lt_of_block ha.sb
  have bva := lt_of_block ha.vb
  have hw12 := xb.size
  go_upto_region 5 with (fail)
  refine wp_forget (fun v => HelpS w0.heap.size Na Sa Va baseRO nil4 nil4 v ∧ HelpS w1.heap.size Nb Sb Vb baseRO nil4 nil4 v ∧ v.heap[w2.heap.size]? = some (helpO Na Sa Va 20) ∧ v.heap[w2.heap.size + 1]? = some (helpO Nb Sb Vb 20) ∧ Ext w0 v ∧ Nb + 13 < w2.heap.size ∧ Sb < w2.heap.size ∧ Vb < w2.heap.size)
    ⟨ha.ext (xb.trans (Ext.alloc (Ext.alloc (Ext.refl _) _) _)), hb.ext (Ext.alloc (Ext.alloc (Ext.refl _) _) _), block_ext (Ext.alloc (Ext.refl _) _) (heap_alloc_new w2 (helpO Na Sa Va 20)), heap_new2 w2 (helpO Na Sa Va 20) (helpO Nb Sb Vb 20), (xa.trans xb).trans (Ext.alloc (Ext.alloc (Ext.refl _) _) _), lt_of_block (hb.lies.block (b := 13) rfl), lt_of_block hb.sb, lt_of_block hb.vb⟩ ?_
  clear ha hb xa xb
  generalize w2.heap.size = A at *
  clear w2
  rintro v ⟨ha, hb, hA, hB, xv, b13, bsb, bvb⟩
  have HA := hid ha
  have HB := hid hb
  have XV := hid xv
  have HBA := hid hA
  have HBB := hid hB
  have hNa := ha.hN
  have hSa := ha.hS
  have hNb := hb.hN
  have hSb := hb.hS
  have hVb := hb.hV
  have lB := lt_of_block hB
  have bs := lt_of_block hb.sb
  have bv := lt_of_block hb.vb
  have bs2 := lt_of_block ha.sb
  have sa1 := blk_cell ha.sb 1
  have saf := blk_free ha.sb 1
  have sc1 := blk_cell hb.sb 1
  have vc2 := blk_cell hb.vb 2
  have sf1 := blk_free hb.sb 1
  have vf2 := blk_free hb.vb 2
  have pc : v.cell? ⟨Nb + 3, 0, none⟩ = some (.slice (some ⟨Nb + 1, 0, none⟩) 4 4) := hb.lies.at (b := 3) (j := 0) (v := .s 1 4) rfl
  have rc : v.cell? ⟨Nb + 1, 1, none⟩ = some (.int .i64 2) := hb.lies.at (b := 1) (j := 1) (v := .i 2) rfl
  have rf : v.frozen? ⟨Nb + 1, 1, none⟩ = false := hb.lies.free (b := 1) (j := 1) (v := .i 2) rfl
  have d31 : v.cell? ⟨Nb + 13, 31, none⟩ = some (.int .u64 3) := hb.lies.at (b := 13) (j := 31) (v := .u 3) rfl
  have f31 : v.frozen? ⟨Nb + 13, 31, none⟩ = false := hb.lies.free (b := 13) (j := 31) (v := .u 3) rfl
  have d25 : v.cell? ⟨Nb + 13, 25, none⟩ = some (.int .i64 4) := hb.lies.at (b := 13) (j := 25) (v := .i 4) rfl
  have f25 : v.frozen? ⟨Nb + 13, 25, none⟩ = false := hb.lies.free (b := 13) (j := 25) (v := .i 4) rfl
  have d02 : v.cell? ⟨Nb + 13, 2, none⟩ = some (.slice (some ⟨Nb + 6, 0, none⟩) 2 2) := hb.lies.at (b := 13) (j := 2) (v := .s 6 2) rfl
  have f02 : v.frozen? ⟨Nb + 13, 2, none⟩ = false := hb.lies.free (b := 13) (j := 2) (v := .s 6 2) rfl
  have d33 : v.cell? ⟨Nb + 13, 33, none⟩ = some (.slice (some ⟨Nb + 12, 0, none⟩) 3 3) := hb.lies.at (b := 13) (j := 33) (v := .s 12 3) rfl
  have f33 : v.frozen? ⟨Nb + 13, 33, none⟩ = false := hb.lies.free (b := 13) (j := 33) (v := .s 12 3) rfl
  have ln13 : Nb + 13 < v.heap.size := by omega
  have q2 : v.cell? ⟨A + 1, 2, none⟩ = some (.slice (some ⟨Nb + 3, 0, none⟩) 2 2) := blk_cell hB 2
  have q3 : v.cell? ⟨A + 1, 3, none⟩ = some (.slice (some ⟨Nb + 13, 0, none⟩) 4 4) := blk_cell hB 3
  have q4 : v.cell? ⟨A + 1, 4, none⟩ = some (.int .i64 20) := blk_cell hB 4
  have q5 : v.cell? ⟨A + 1, 5, none⟩ = some (.slice (some ⟨Sb, 0, none⟩) 4 4) := blk_cell hB 5
  have q6 : v.cell? ⟨A + 1, 6, none⟩ = some (.slice (some ⟨Vb, 0, none⟩) 4 4) := blk_cell hB 6
  have qf : v.frozen? ⟨A + 1, 4, none⟩ = false := blk_free hB 4
  have r5 : v.cell? ⟨A, 5, none⟩ = some (.slice (some ⟨Sa, 0, none⟩) 4 4) := blk_cell hA 5
  have lA : A < v.heap.size := by omega
  simp only [nil4, List.getElem?_toArray, List.getElem?_cons_zero, List.getElem?_cons_succ] at sa1 sc1 vc2
  clear ha hb hA hB xv
  go_upto_region 24 with (fail)
  refine wp_forget (fun y => SV Na Sa Va 20 sZ y ∧ SV Nb Sb Vb 20 b7a y ∧ y.heap[A]? = some (helpO Na Sa Va 20) ∧ y.heap[A + 1]? = some (helpO Nb Sb Vb 20) ∧ Ext w0 y) ⟨?_, ?_, block_ext (Ext.alloc (Ext.refl _) _) ((Below.heap_setCell _ _ _ _ (by show A ≠ Vb; omega)).trans HBA.out), block_ext (Ext.alloc (Ext.refl _) _) ((Below.heap_setCell _ _ _ _ (by show A + 1 ≠ Vb; omega)).trans HBB.out), (Ext.alloc (XV.out.setCell (by show w0.heap.size ≤ Vb; omega) _) _)⟩ ?_
  · exact ((HA.out.aside (b := Vb) _ (by omega) (by omega) (by omega)).ext (Ext.alloc (Ext.refl _) _)).script baseC_of rfl rfl (nilS_v _) (nilA_v _)
  · have hn : ((v.setCell ⟨Vb, 2, none⟩ (.slice (some ⟨v.heap.size, 0, none⟩) 1 1)).alloc (arvO 1 0)).heap[v.heap.size]? = some (arvO 1 0) := heap_new1' v _ _ _
    exact ((HB.out.putV 2 (.slice (some ⟨v.heap.size, 0, none⟩) 1 1)).ext (Ext.alloc (Ext.refl _) _)).script baseC_of rfl rfl (nilS_v _) (twoA_v (arvs_one (x := ⟨1, 0⟩) hn))
  clear HA HB XV HBA HBB hNa hSa hNb hSb hVb lB bs bv bs2 sa1 saf sc1 vc2 sf1 vf2 pc rc rf d31 f31 d25 f25 d02 f02 d33 f33 ln13 q2 q3 q4 q5 q6 qf r5 lA hmk b13 bsb bvb
  rintro y ⟨sa, sb, kA, kB, hx⟩
  (try clear v)
  have HX := hid hx
  have FA : ScFit sZ := .of (by kernel_rfl) (by kernel_rfl) (by kernel_rfl)
  have FB : ScFit b7a := .of (by kernel_rfl) (by kernel_rfl) (by kernel_rfl)
  have hne : sZ ≠ b7a := fun h => absurd (congrArg (fun s : Scr => s.arrivals) h) (by decide)
  have hIA := hid (fun z (hz : Ext y z) => show Calls Try.prog 7 #[helpV Na Sa Va 20] z (Yields z .nilIface) from sIs FA.is (sa.ext hz))
  have hIB := hid (fun z (hz : Ext y z) => show Calls Try.prog 7 #[helpV Nb Sb Vb 20] z (Yields z .nilIface) from sIs FB.is (sb.ext hz))
  have hBA := hid (fun z (hz : Ext y z) => gBytes FA.is FA.inn FA.len (sa.ext hz))
  have hBB := hid (fun z (hz : Ext y z) => gBytes FB.is FB.inn FB.len (sb.ext hz))
  have hSM := hid (fun z (hz : Ext y z) => uSame hne (sa.ext hz) (sb.ext hz))
  have hst := fit_ne FA FB hne
  obtain ⟨la, hla⟩ : ∃ l, l = allBytes sZ := ⟨_, rfl⟩
  obtain ⟨lb, hlb⟩ : ∃ l, l = allBytes b7a := ⟨_, rfl⟩
  rw [← hla] at hBA hst
  rw [← hlb] at hBB hst
  rw [str_toList, str_toList] at hst
  have g1 : (la == lb) = false := by simpa using hst
  have g2 : (la != lb) = true := by simpa using hst
  clear hla hlb hst FA FB hne
  have hen := fun w => run_eql_nil_nil' (P := Try.prog) w Try.underlying33
  have lA := lt_of_block kA
  have lB := lt_of_block kB
  have a0 := blk_cell kA 0
  have a1 := blk_cell kA 1
  have a2 := blk_cell kA 2
  have a3 := blk_cell kA 3
  have a4 := blk_cell kA 4
  have a5 := blk_cell kA 5
  have a6 := blk_cell kA 6
  have b0 := blk_cell kB 0
  have b1 := blk_cell kB 1
  have b2 := blk_cell kB 2
  have b3 := blk_cell kB 3
  have b4 := blk_cell kB 4
  have b5 := blk_cell kB 5
  have b6 := blk_cell kB 6
  simp only [List.getElem?_toArray, List.getElem?_cons_zero, List.getElem?_cons_succ] at a0 a1 a2 a3 a4 a5 a6 b0 b1 b2 b3 b4 b5 b6
  clear kA kB sa sb hx
  ((first | refine wp_region_more (by kernel_rfl) (by kernel_rfl) ?_ | refine wp_region_ext (by kernel_rfl) (by kernel_rfl) ?_); (try dsimp only [append_cons', append_nil']); (repeat (go_big_quiet_step ((first | (go_at_call 7; with_reducible refine Calls.more_of (hIA.out _ (ext_more _ _))) | (go_at_call 7; with_reducible refine Calls.more_of (hIB.out _ (ext_more _ _))) | (go_at_call 9; with_reducible refine Calls.more_of (hBA.out _ (ext_more _ _))) | (go_at_call 9; with_reducible refine Calls.more_of (hBB.out _ (ext_more _ _))) | (go_at_call 11; with_reducible refine Calls.more_of (hSM.out _ (ext_more _ _))))))); refine wpQuiet_nil ?_; rintro _ ⟨pq, rfl⟩)
  go_wp2
  go_returns
  exact ⟨rfl, hE0.out.trans (HX.out.more _)⟩

def b7b : Scr := ⟨baseC, 20, nilS, [[], [], [⟨2, 0⟩], []]⟩
set_option maxRecDepth 100000 in
set_option maxHeartbeats 8000000 in
theorem walk7b (which n : Int) (hw0 : 0 ≤ which) (hw1 : which ≤ 255) (hn0 : 0 ≤ n) (hn1 : n ≤ 255) (hk : which % 9 = 7) (hn : n % 4 = 1) (w : World) :
    Calls Try.prog 4 #[.int .u8 which, .int .u8 n] w (Yields w (.bool true)) := by
  have hmk := mkAxns 2 2 rfl (by decide)
  go_enter Try.func4, Try.ntmps4
  go_wp2_with fail
  refine (known4_any _).yields ?_
  intro p0
  have hE0 := hid (ext_more w p0)
  generalize more w p0 = w0 at *
  go_wp2_with fail
  refine (help_any _ 20).mono ?_
  rintro e w1 ⟨Na, Sa, Va, rfl, ha, xa⟩
  go_wp2_with fail
  refine (help_any _ 20).mono ?_
  rintro e w2 ⟨Nb, Sb, Vb, rfl, hb, xb⟩
  have lna := lt_of_block (ha.lies.block (b := 13) rfl)
  have bsa := lt_of_block ha.sb
  have bva := lt_of_block ha.vb
  have hw12 := xb.size
  go_upto_region 5 with (fail)
  refine wp_forget (fun v => HelpS w0.heap.size Na Sa Va baseRO nil4 nil4 v ∧ HelpS w1.heap.size Nb Sb Vb baseRO nil4 nil4 v ∧ v.heap[w2.heap.size]? = some (helpO Na Sa Va 20) ∧ v.heap[w2.heap.size + 1]? = some (helpO Nb Sb Vb 20) ∧ Ext w0 v ∧ Nb + 13 < w2.heap.size ∧ Sb < w2.heap.size ∧ Vb < w2.heap.size)
    ⟨ha.ext (xb.trans (Ext.alloc (Ext.alloc (Ext.refl _) _) _)), hb.ext (Ext.alloc (Ext.alloc (Ext.refl _) _) _), block_ext (Ext.alloc (Ext.refl _) _) (heap_alloc_new w2 (helpO Na Sa Va 20)), heap_new2 w2 (helpO Na Sa Va 20) (helpO Nb Sb Vb 20), (xa.trans xb).trans (Ext.alloc (Ext.alloc (Ext.refl _) _) _), lt_of_block (hb.lies.block (b := 13) rfl), lt_of_block hb.sb, lt_of_block hb.vb⟩ ?_
  clear ha hb xa xb
  generalize w2.heap.size = A at *
  clear w2
  rintro v ⟨ha, hb, hA, hB, xv, b13, bsb, bvb⟩
  have HA := hid ha
  have HB := hid hb
  have XV := hid xv
  have HBA := hid hA
  have HBB := hid hB
  have hNa := ha.hN
  have hSa := ha.hS
  have hNb := hb.hN
  have hSb := hb.hS
  have hVb := hb.hV
  have lB := lt_of_block hB
  have bs := lt_of_block hb.sb
  have bv := lt_of_block hb.vb
  have bs2 := lt_of_block ha.sb
  have sa1 := blk_cell ha.sb 1
  have saf := blk_free ha.sb 1
  have sc1 := blk_cell hb.sb 1
  have vc2 := blk_cell hb.vb 2
  have sf1 := blk_free hb.sb 1
  have vf2 := blk_free hb.vb 2
  have pc : v.cell? ⟨Nb + 3, 0, none⟩ = some (.slice (some ⟨Nb + 1, 0, none⟩) 4 4) := hb.lies.at (b := 3) (j := 0) (v := .s 1 4) rfl
  have rc : v.cell? ⟨Nb + 1, 1, none⟩ = some (.int .i64 2) := hb.lies.at (b := 1) (j := 1) (v := .i 2) rfl
  have rf : v.frozen? ⟨Nb + 1, 1, none⟩ = false := hb.lies.free (b := 1) (j := 1) (v := .i 2) rfl
  have d31 : v.cell? ⟨Nb + 13, 31, none⟩ = some (.int .u64 3) := hb.lies.at (b := 13) (j := 31) (v := .u 3) rfl
  have f31 : v.frozen? ⟨Nb + 13, 31, none⟩ = false := hb.lies.free (b := 13) (j := 31) (v := .u 3) rfl
  have d25 : v.cell? ⟨Nb + 13, 25, none⟩ = some (.int .i64 4) := hb.lies.at (b := 13) (j := 25) (v := .i 4) rfl
  have f25 : v.frozen? ⟨Nb + 13, 25, none⟩ = false := hb.lies.free (b := 13) (j := 25) (v := .i 4) rfl
  have d02 : v.cell? ⟨Nb + 13, 2, none⟩ = some (.slice (some ⟨Nb + 6, 0, none⟩) 2 2) := hb.lies.at (b := 13) (j := 2) (v := .s 6 2) rfl
  have f02 : v.frozen? ⟨Nb + 13, 2, none⟩ = false := hb.lies.free (b := 13) (j := 2) (v := .s 6 2) rfl
  have d33 : v.cell? ⟨Nb + 13, 33, none⟩ = some (.slice (some ⟨Nb + 12, 0, none⟩) 3 3) := hb.lies.at (b := 13) (j := 33) (v := .s 12 3) rfl
  have f33 : v.frozen? ⟨Nb + 13, 33, none⟩ = false := hb.lies.free (b := 13) (j := 33) (v := .s 12 3) rfl
  have ln13 : Nb + 13 < v.heap.size := by omega
  have q2 : v.cell? ⟨A + 1, 2, none⟩ = some (.slice (some ⟨Nb + 3, 0, none⟩) 2 2) := blk_cell hB 2
  have q3 : v.cell? ⟨A + 1, 3, none⟩ = some (.slice (some ⟨Nb + 13, 0, none⟩) 4 4) := blk_cell hB 3
  have q4 : v.cell? ⟨A + 1, 4, none⟩ = some (.int .i64 20) := blk_cell hB 4
  have q5 : v.cell? ⟨A + 1, 5, none⟩ = some (.slice (some ⟨Sb, 0, none⟩) 4 4) := blk_cell hB 5
  have q6 : v.cell? ⟨A + 1, 6, none⟩ = some (.slice (some ⟨Vb, 0, none⟩) 4 4) := blk_cell hB 6
  have qf : v.frozen? ⟨A + 1, 4, none⟩ = false := blk_free hB 4
  have r5 : v.cell? ⟨A, 5, none⟩ = some (.slice (some ⟨Sa, 0, none⟩) 4 4) := blk_cell hA 5
  have lA : A < v.heap.size := by omega
  simp only [nil4, List.getElem?_toArray, List.getElem?_cons_zero, List.getElem?_cons_succ] at sa1 sc1 vc2
  clear ha hb hA hB xv
  go_upto_region 24 with (fail)
  refine wp_forget (fun y => SV Na Sa Va 20 sZ y ∧ SV Nb Sb Vb 20 b7b y ∧ y.heap[A]? = some (helpO Na Sa Va 20) ∧ y.heap[A + 1]? = some (helpO Nb Sb Vb 20) ∧ Ext w0 y) ⟨?_, ?_, block_ext (Ext.alloc (Ext.refl _) _) ((Below.heap_setCell _ _ _ _ (by show A ≠ Vb; omega)).trans HBA.out), block_ext (Ext.alloc (Ext.refl _) _) ((Below.heap_setCell _ _ _ _ (by show A + 1 ≠ Vb; omega)).trans HBB.out), (Ext.alloc (XV.out.setCell (by show w0.heap.size ≤ Vb; omega) _) _)⟩ ?_
  · exact ((HA.out.aside (b := Vb) _ (by omega) (by omega) (by omega)).ext (Ext.alloc (Ext.refl _) _)).script baseC_of rfl rfl (nilS_v _) (nilA_v _)
  · have hn : ((v.setCell ⟨Vb, 2, none⟩ (.slice (some ⟨v.heap.size, 0, none⟩) 1 1)).alloc (arvO 2 0)).heap[v.heap.size]? = some (arvO 2 0) := heap_new1' v _ _ _
    exact ((HB.out.putV 2 (.slice (some ⟨v.heap.size, 0, none⟩) 1 1)).ext (Ext.alloc (Ext.refl _) _)).script baseC_of rfl rfl (nilS_v _) (twoA_v (arvs_one (x := ⟨2, 0⟩) hn))
  clear HA HB XV HBA HBB hNa hSa hNb hSb hVb lB bs bv bs2 sa1 saf sc1 vc2 sf1 vf2 pc rc rf d31 f31 d25 f25 d02 f02 d33 f33 ln13 q2 q3 q4 q5 q6 qf r5 lA hmk b13 bsb bvb
  rintro y ⟨sa, sb, kA, kB, hx⟩
  (try clear v)
  have HX := hid hx
  have FA : ScFit sZ := .of (by kernel_rfl) (by kernel_rfl) (by kernel_rfl)
  have FB : ScFit b7b := .of (by kernel_rfl) (by kernel_rfl) (by kernel_rfl)
  have hne : sZ ≠ b7b := fun h => absurd (congrArg (fun s : Scr => s.arrivals) h) (by decide)
  have hIA := hid (fun z (hz : Ext y z) => show Calls Try.prog 7 #[helpV Na Sa Va 20] z (Yields z .nilIface) from sIs FA.is (sa.ext hz))
  have hIB := hid (fun z (hz : Ext y z) => show Calls Try.prog 7 #[helpV Nb Sb Vb 20] z (Yields z .nilIface) from sIs FB.is (sb.ext hz))
  have hBA := hid (fun z (hz : Ext y z) => gBytes FA.is FA.inn FA.len (sa.ext hz))
  have hBB := hid (fun z (hz : Ext y z) => gBytes FB.is FB.inn FB.len (sb.ext hz))
  have hSM := hid (fun z (hz : Ext y z) => uSame hne (sa.ext hz) (sb.ext hz))
  have hst := fit_ne FA FB hne
  obtain ⟨la, hla⟩ : ∃ l, l = allBytes sZ := ⟨_, rfl⟩
  obtain ⟨lb, hlb⟩ : ∃ l, l = allBytes b7b := ⟨_, rfl⟩
  rw [← hla] at hBA hst
  rw [← hlb] at hBB hst
  rw [str_toList, str_toList] at hst
  have g1 : (la == lb) = false := by simpa using hst
  have g2 : (la != lb) = true := by simpa using hst
  clear hla hlb hst FA FB hne
  have hen := fun w => run_eql_nil_nil' (P := Try.prog) w Try.underlying33
  have lA := lt_of_block kA
  have lB := lt_of_block kB
  have a0 := blk_cell kA 0
  have a1 := blk_cell kA 1
  have a2 := blk_cell kA 2
  have a3 := blk_cell kA 3
  have a4 := blk_cell kA 4
  have a5 := blk_cell kA 5
  have a6 := blk_cell kA 6
  have b0 := blk_cell kB 0
  have b1 := blk_cell kB 1
  have b2 := blk_cell kB 2
  have b3 := blk_cell kB 3
  have b4 := blk_cell kB 4
  have b5 := blk_cell kB 5
  have b6 := blk_cell kB 6
  simp only [List.getElem?_toArray, List.getElem?_cons_zero, List.getElem?_cons_succ] at a0 a1 a2 a3 a4 a5 a6 b0 b1 b2 b3 b4 b5 b6
  clear kA kB sa sb hx
  ((first | refine wp_region_more (by kernel_rfl) (by kernel_rfl) ?_ | refine wp_region_ext (by kernel_rfl) (by kernel_rfl) ?_); (try dsimp only [append_cons', append_nil']); (repeat (go_big_quiet_step ((first | (go_at_call 7; with_reducible refine Calls.more_of (hIA.out _ (ext_more _ _))) | (go_at_call 7; with_reducible refine Calls.more_of (hIB.out _ (ext_more _ _))) | (go_at_call 9; with_reducible refine Calls.more_of (hBA.out _ (ext_more _ _))) | (go_at_call 9; with_reducible refine Calls.more_of (hBB.out _ (ext_more _ _))) | (go_at_call 11; with_reducible refine Calls.more_of (hSM.out _ (ext_more _ _))))))); refine wpQuiet_nil ?_; rintro _ ⟨pq, rfl⟩)
  go_wp2
  go_returns
  exact ⟨rfl, hE0.out.trans (HX.out.more _)⟩

def b7c : Scr := ⟨baseC, 20, nilS, [[], [], [⟨3, 0⟩], []]⟩
set_option maxRecDepth 100000 in
set_option maxHeartbeats 8000000 in
theorem walk7c (which n : Int) (hw0 : 0 ≤ which) (hw1 : which ≤ 255) (hn0 : 0 ≤ n) (hn1 : n ≤ 255) (hk : which % 9 = 7) (hn : n % 4 = 2) (w : World) :
    Calls Try.prog 4 #[.int .u8 which, .int .u8 n] w (Yields w (.bool true)) := by
  have hmk := mkAxns 3 3 rfl (by decide)
  go_enter Try.func4, Try.ntmps4
  go_wp2_with fail
  refine (known4_any _).yields ?_
  intro p0
  have hE0 := hid (ext_more w p0)
  generalize more w p0 = w0 at *
  go_wp2_with fail
  refine (help_any _ 20).mono ?_
  rintro e w1 ⟨Na, Sa, Va, rfl, ha, xa⟩
  go_wp2_with fail
  refine (help_any _ 20).mono ?_
  rintro e w2 ⟨Nb, Sb, Vb, rfl, hb, xb⟩
  have lna := lt_of_block (ha.lies.block (b := 13) rfl)
  have bsa := lt_of_block ha.sb
  have bva := lt_of_block ha.vb
  have hw12 := xb.size
  go_upto_region 5 with (fail)
  refine wp_forget (fun v => HelpS w0.heap.size Na Sa Va baseRO nil4 nil4 v ∧ HelpS w1.heap.size Nb Sb Vb baseRO nil4 nil4 v ∧ v.heap[w2.heap.size]? = some (helpO Na Sa Va 20) ∧ v.heap[w2.heap.size + 1]? = some (helpO Nb Sb Vb 20) ∧ Ext w0 v ∧ Nb + 13 < w2.heap.size ∧ Sb < w2.heap.size ∧ Vb < w2.heap.size)
    ⟨ha.ext (xb.trans (Ext.alloc (Ext.alloc (Ext.refl _) _) _)), hb.ext (Ext.alloc (Ext.alloc (Ext.refl _) _) _), block_ext (Ext.alloc (Ext.refl _) _) (heap_alloc_new w2 (helpO Na Sa Va 20)), heap_new2 w2 (helpO Na Sa Va 20) (helpO Nb Sb Vb 20), (xa.trans xb).trans (Ext.alloc (Ext.alloc (Ext.refl _) _) _), lt_of_block (hb.lies.block (b := 13) rfl), lt_of_block hb.sb, lt_of_block hb.vb⟩ ?_
  clear ha hb xa xb
  generalize w2.heap.size = A at *
  clear w2
  rintro v ⟨ha, hb, hA, hB, xv, b13, bsb, bvb⟩
  have HA := hid ha
  have HB := hid hb
  have XV := hid xv
  have HBA := hid hA
  have HBB := hid hB
  have hNa := ha.hN
  have hSa := ha.hS
  have hNb := hb.hN
  have hSb := hb.hS
  have hVb := hb.hV
  have lB := lt_of_block hB
  have bs := lt_of_block hb.sb
  have bv := lt_of_block hb.vb
  have bs2 := lt_of_block ha.sb
  have sa1 := blk_cell ha.sb 1
  have saf := blk_free ha.sb 1
  have sc1 := blk_cell hb.sb 1
  have vc2 := blk_cell hb.vb 2
  have sf1 := blk_free hb.sb 1
  have vf2 := blk_free hb.vb 2
  have pc : v.cell? ⟨Nb + 3, 0, none⟩ = some (.slice (some ⟨Nb + 1, 0, none⟩) 4 4) := hb.lies.at (b := 3) (j := 0) (v := .s 1 4) rfl
  have rc : v.cell? ⟨Nb + 1, 1, none⟩ = some (.int .i64 2) := hb.lies.at (b := 1) (j := 1) (v := .i 2) rfl
  have rf : v.frozen? ⟨Nb + 1, 1, none⟩ = false := hb.lies.free (b := 1) (j := 1) (v := .i 2) rfl
  have d31 : v.cell? ⟨Nb + 13, 31, none⟩ = some (.int .u64 3) := hb.lies.at (b := 13) (j := 31) (v := .u 3) rfl
  have f31 : v.frozen? ⟨Nb + 13, 31, none⟩ = false := hb.lies.free (b := 13) (j := 31) (v := .u 3) rfl
  have d25 : v.cell? ⟨Nb + 13, 25, none⟩ = some (.int .i64 4) := hb.lies.at (b := 13) (j := 25) (v := .i 4) rfl
  have f25 : v.frozen? ⟨Nb + 13, 25, none⟩ = false := hb.lies.free (b := 13) (j := 25) (v := .i 4) rfl
  have d02 : v.cell? ⟨Nb + 13, 2, none⟩ = some (.slice (some ⟨Nb + 6, 0, none⟩) 2 2) := hb.lies.at (b := 13) (j := 2) (v := .s 6 2) rfl
  have f02 : v.frozen? ⟨Nb + 13, 2, none⟩ = false := hb.lies.free (b := 13) (j := 2) (v := .s 6 2) rfl
  have d33 : v.cell? ⟨Nb + 13, 33, none⟩ = some (.slice (some ⟨Nb + 12, 0, none⟩) 3 3) := hb.lies.at (b := 13) (j := 33) (v := .s 12 3) rfl
  have f33 : v.frozen? ⟨Nb + 13, 33, none⟩ = false := hb.lies.free (b := 13) (j := 33) (v := .s 12 3) rfl
  have ln13 : Nb + 13 < v.heap.size := by omega
  have q2 : v.cell? ⟨A + 1, 2, none⟩ = some (.slice (some ⟨Nb + 3, 0, none⟩) 2 2) := blk_cell hB 2
  have q3 : v.cell? ⟨A + 1, 3, none⟩ = some (.slice (some ⟨Nb + 13, 0, none⟩) 4 4) := blk_cell hB 3
  have q4 : v.cell? ⟨A + 1, 4, none⟩ = some (.int .i64 20) := blk_cell hB 4
  have q5 : v.cell? ⟨A + 1, 5, none⟩ = some (.slice (some ⟨Sb, 0, none⟩) 4 4) := blk_cell hB 5
  have q6 : v.cell? ⟨A + 1, 6, none⟩ = some (.slice (some ⟨Vb, 0, none⟩) 4 4) := blk_cell hB 6
  have qf : v.frozen? ⟨A + 1, 4, none⟩ = false := blk_free hB 4
  have r5 : v.cell? ⟨A, 5, none⟩ = some (.slice (some ⟨Sa, 0, none⟩) 4 4) := blk_cell hA 5
  have lA : A < v.heap.size := by omega
  simp only [nil4, List.getElem?_toArray, List.getElem?_cons_zero, List.getElem?_cons_succ] at sa1 sc1 vc2
  clear ha hb hA hB xv
  go_upto_region 24 with (fail)
  refine wp_forget (fun y => SV Na Sa Va 20 sZ y ∧ SV Nb Sb Vb 20 b7c y ∧ y.heap[A]? = some (helpO Na Sa Va 20) ∧ y.heap[A + 1]? = some (helpO Nb Sb Vb 20) ∧ Ext w0 y) ⟨?_, ?_, block_ext (Ext.alloc (Ext.refl _) _) ((Below.heap_setCell _ _ _ _ (by show A ≠ Vb; omega)).trans HBA.out), block_ext (Ext.alloc (Ext.refl _) _) ((Below.heap_setCell _ _ _ _ (by show A + 1 ≠ Vb; omega)).trans HBB.out), (Ext.alloc (XV.out.setCell (by show w0.heap.size ≤ Vb; omega) _) _)⟩ ?_
  · exact ((HA.out.aside (b := Vb) _ (by omega) (by omega) (by omega)).ext (Ext.alloc (Ext.refl _) _)).script baseC_of rfl rfl (nilS_v _) (nilA_v _)
  · have hn : ((v.setCell ⟨Vb, 2, none⟩ (.slice (some ⟨v.heap.size, 0, none⟩) 1 1)).alloc (arvO 3 0)).heap[v.heap.size]? = some (arvO 3 0) := heap_new1' v _ _ _
    exact ((HB.out.putV 2 (.slice (some ⟨v.heap.size, 0, none⟩) 1 1)).ext (Ext.alloc (Ext.refl _) _)).script baseC_of rfl rfl (nilS_v _) (twoA_v (arvs_one (x := ⟨3, 0⟩) hn))
  clear HA HB XV HBA HBB hNa hSa hNb hSb hVb lB bs bv bs2 sa1 saf sc1 vc2 sf1 vf2 pc rc rf d31 f31 d25 f25 d02 f02 d33 f33 ln13 q2 q3 q4 q5 q6 qf r5 lA hmk b13 bsb bvb
  rintro y ⟨sa, sb, kA, kB, hx⟩
  (try clear v)
  have HX := hid hx
  have FA : ScFit sZ := .of (by kernel_rfl) (by kernel_rfl) (by kernel_rfl)
  have FB : ScFit b7c := .of (by kernel_rfl) (by kernel_rfl) (by kernel_rfl)
  have hne : sZ ≠ b7c := fun h => absurd (congrArg (fun s : Scr => s.arrivals) h) (by decide)
  have hIA := hid (fun z (hz : Ext y z) => show Calls Try.prog 7 #[helpV Na Sa Va 20] z (Yields z .nilIface) from sIs FA.is (sa.ext hz))
  have hIB := hid (fun z (hz : Ext y z) => show Calls Try.prog 7 #[helpV Nb Sb Vb 20] z (Yields z .nilIface) from sIs FB.is (sb.ext hz))
  have hBA := hid (fun z (hz : Ext y z) => gBytes FA.is FA.inn FA.len (sa.ext hz))
  have hBB := hid (fun z (hz : Ext y z) => gBytes FB.is FB.inn FB.len (sb.ext hz))
  have hSM := hid (fun z (hz : Ext y z) => uSame hne (sa.ext hz) (sb.ext hz))
  have hst := fit_ne FA FB hne
  obtain ⟨la, hla⟩ : ∃ l, l = allBytes sZ := ⟨_, rfl⟩
  obtain ⟨lb, hlb⟩ : ∃ l, l = allBytes b7c := ⟨_, rfl⟩
  rw [← hla] at hBA hst
  rw [← hlb] at hBB hst
  rw [str_toList, str_toList] at hst
  have g1 : (la == lb) = false := by simpa using hst
  have g2 : (la != lb) = true := by simpa using hst
  clear hla hlb hst FA FB hne
  have hen := fun w => run_eql_nil_nil' (P := Try.prog) w Try.underlying33
  have lA := lt_of_block kA
  have lB := lt_of_block kB
  have a0 := blk_cell kA 0
  have a1 := blk_cell kA 1
  have a2 := blk_cell kA 2
  have a3 := blk_cell kA 3
  have a4 := blk_cell kA 4
  have a5 := blk_cell kA 5
  have a6 := blk_cell kA 6
  have b0 := blk_cell kB 0
  have b1 := blk_cell kB 1
  have b2 := blk_cell kB 2
  have b3 := blk_cell kB 3
  have b4 := blk_cell kB 4
  have b5 := blk_cell kB 5
  have b6 := blk_cell kB 6
  simp only [List.getElem?_toArray, List.getElem?_cons_zero, List.getElem?_cons_succ] at a0 a1 a2 a3 a4 a5 a6 b0 b1 b2 b3 b4 b5 b6
  clear kA kB sa sb hx
  ((first | refine wp_region_more (by kernel_rfl) (by kernel_rfl) ?_ | refine wp_region_ext (by kernel_rfl) (by kernel_rfl) ?_); (try dsimp only [append_cons', append_nil']); (repeat (go_big_quiet_step ((first | (go_at_call 7; with_reducible refine Calls.more_of (hIA.out _ (ext_more _ _))) | (go_at_call 7; with_reducible refine Calls.more_of (hIB.out _ (ext_more _ _))) | (go_at_call 9; with_reducible refine Calls.more_of (hBA.out _ (ext_more _ _))) | (go_at_call 9; with_reducible refine Calls.more_of (hBB.out _ (ext_more _ _))) | (go_at_call 11; with_reducible refine Calls.more_of (hSM.out _ (ext_more _ _))))))); refine wpQuiet_nil ?_; rintro _ ⟨pq, rfl⟩)
  go_wp2
  go_returns
  exact ⟨rfl, hE0.out.trans (HX.out.more _)⟩

def b7d : Scr := ⟨baseC, 20, nilS, [[], [], [⟨4, 0⟩], []]⟩
set_option maxRecDepth 100000 in
set_option maxHeartbeats 8000000 in
theorem walk7d (which n : Int) (hw0 : 0 ≤ which) (hw1 : which ≤ 255) (hn0 : 0 ≤ n) (hn1 : n ≤ 255) (hk : which % 9 = 7) (hn : n % 4 = 3) (w : World) :
    Calls Try.prog 4 #[.int .u8 which, .int .u8 n] w (Yields w (.bool true)) := by
  have hmk := mkAxns 4 4 rfl (by decide)
  go_enter Try.func4, Try.ntmps4
  go_wp2_with fail
  refine (known4_any _).yields ?_
  intro p0
  have hE0 := hid (ext_more w p0)
  generalize more w p0 = w0 at *
  go_wp2_with fail
  refine (help_any _ 20).mono ?_
  rintro e w1 ⟨Na, Sa, Va, rfl, ha, xa⟩
  go_wp2_with fail
  refine (help_any _ 20).mono ?_
  rintro e w2 ⟨Nb, Sb, Vb, rfl, hb, xb⟩
  have lna := lt_of_block (ha.lies.block (b := 13) rfl)
  have bsa := lt_of_block ha.sb
  have bva := lt_of_block ha.vb
  have hw12 := xb.size
  go_upto_region 5 with (fail)
  refine wp_forget (fun v => HelpS w0.heap.size Na Sa Va baseRO nil4 nil4 v ∧ HelpS w1.heap.size Nb Sb Vb baseRO nil4 nil4 v ∧ v.heap[w2.heap.size]? = some (helpO Na Sa Va 20) ∧ v.heap[w2.heap.size + 1]? = some (helpO Nb Sb Vb 20) ∧ Ext w0 v ∧ Nb + 13 < w2.heap.size ∧ Sb < w2.heap.size ∧ Vb < w2.heap.size)
    ⟨ha.ext (xb.trans (Ext.alloc (Ext.alloc (Ext.refl _) _) _)), hb.ext (Ext.alloc (Ext.alloc (Ext.refl _) _) _), block_ext (Ext.alloc (Ext.refl _) _) (heap_alloc_new w2 (helpO Na Sa Va 20)), heap_new2 w2 (helpO Na Sa Va 20) (helpO Nb Sb Vb 20), (xa.trans xb).trans (Ext.alloc (Ext.alloc (Ext.refl _) _) _), lt_of_block (hb.lies.block (b := 13) rfl), lt_of_block hb.sb, lt_of_block hb.vb⟩ ?_
  clear ha hb xa xb
  generalize w2.heap.size = A at *
  clear w2
  rintro v ⟨ha, hb, hA, hB, xv, b13, bsb, bvb⟩
  have HA := hid ha
  have HB := hid hb
  have XV := hid xv
  have HBA := hid hA
  have HBB := hid hB
  have hNa := ha.hN
  have hSa := ha.hS
  have hNb := hb.hN
  have hSb := hb.hS
  have hVb := hb.hV
  have lB := lt_of_block hB
  have bs := lt_of_block hb.sb
  have bv := lt_of_block hb.vb
  have bs2 := lt_of_block ha.sb
  have sa1 := blk_cell ha.sb 1
  have saf := blk_free ha.sb 1
  have sc1 := blk_cell hb.sb 1
  have vc2 := blk_cell hb.vb 2
  have sf1 := blk_free hb.sb 1
  have vf2 := blk_free hb.vb 2
  have pc : v.cell? ⟨Nb + 3, 0, none⟩ = some (.slice (some ⟨Nb + 1, 0, none⟩) 4 4) := hb.lies.at (b := 3) (j := 0) (v := .s 1 4) rfl
  have rc : v.cell? ⟨Nb + 1, 1, none⟩ = some (.int .i64 2) := hb.lies.at (b := 1) (j := 1) (v := .i 2) rfl
  have rf : v.frozen? ⟨Nb + 1, 1, none⟩ = false := hb.lies.free (b := 1) (j := 1) (v := .i 2) rfl
  have d31 : v.cell? ⟨Nb + 13, 31, none⟩ = some (.int .u64 3) := hb.lies.at (b := 13) (j := 31) (v := .u 3) rfl
  have f31 : v.frozen? ⟨Nb + 13, 31, none⟩ = false := hb.lies.free (b := 13) (j := 31) (v := .u 3) rfl
  have d25 : v.cell? ⟨Nb + 13, 25, none⟩ = some (.int .i64 4) := hb.lies.at (b := 13) (j := 25) (v := .i 4) rfl
  have f25 : v.frozen? ⟨Nb + 13, 25, none⟩ = false := hb.lies.free (b := 13) (j := 25) (v := .i 4) rfl
  have d02 : v.cell? ⟨Nb + 13, 2, none⟩ = some (.slice (some ⟨Nb + 6, 0, none⟩) 2 2) := hb.lies.at (b := 13) (j := 2) (v := .s 6 2) rfl
  have f02 : v.frozen? ⟨Nb + 13, 2, none⟩ = false := hb.lies.free (b := 13) (j := 2) (v := .s 6 2) rfl
  have d33 : v.cell? ⟨Nb + 13, 33, none⟩ = some (.slice (some ⟨Nb + 12, 0, none⟩) 3 3) := hb.lies.at (b := 13) (j := 33) (v := .s 12 3) rfl
  have f33 : v.frozen? ⟨Nb + 13, 33, none⟩ = false := hb.lies.free (b := 13) (j := 33) (v := .s 12 3) rfl
  have ln13 : Nb + 13 < v.heap.size := by omega
  have q2 : v.cell? ⟨A + 1, 2, none⟩ = some (.slice (some ⟨Nb + 3, 0, none⟩) 2 2) := blk_cell hB 2
  have q3 : v.cell? ⟨A + 1, 3, none⟩ = some (.slice (some ⟨Nb + 13, 0, none⟩) 4 4) := blk_cell hB 3
  have q4 : v.cell? ⟨A + 1, 4, none⟩ = some (.int .i64 20) := blk_cell hB 4
  have q5 : v.cell? ⟨A + 1, 5, none⟩ = some (.slice (some ⟨Sb, 0, none⟩) 4 4) := blk_cell hB 5
  have q6 : v.cell? ⟨A + 1, 6, none⟩ = some (.slice (some ⟨Vb, 0, none⟩) 4 4) := blk_cell hB 6
  have qf : v.frozen? ⟨A + 1, 4, none⟩ = false := blk_free hB 4
  have r5 : v.cell? ⟨A, 5, none⟩ = some (.slice (some ⟨Sa, 0, none⟩) 4 4) := blk_cell hA 5
  have lA : A < v.heap.size := by omega
  simp only [nil4, List.getElem?_toArray, List.getElem?_cons_zero, List.getElem?_cons_succ] at sa1 sc1 vc2
  clear ha hb hA hB xv
  go_upto_region 24 with (fail)
  refine wp_forget (fun y => SV Na Sa Va 20 sZ y ∧ SV Nb Sb Vb 20 b7d y ∧ y.heap[A]? = some (helpO Na Sa Va 20) ∧ y.heap[A + 1]? = some (helpO Nb Sb Vb 20) ∧ Ext w0 y) ⟨?_, ?_, block_ext (Ext.alloc (Ext.refl _) _) ((Below.heap_setCell _ _ _ _ (by show A ≠ Vb; omega)).trans HBA.out), block_ext (Ext.alloc (Ext.refl _) _) ((Below.heap_setCell _ _ _ _ (by show A + 1 ≠ Vb; omega)).trans HBB.out), (Ext.alloc (XV.out.setCell (by show w0.heap.size ≤ Vb; omega) _) _)⟩ ?_
  · exact ((HA.out.aside (b := Vb) _ (by omega) (by omega) (by omega)).ext (Ext.alloc (Ext.refl _) _)).script baseC_of rfl rfl (nilS_v _) (nilA_v _)
  · have hn : ((v.setCell ⟨Vb, 2, none⟩ (.slice (some ⟨v.heap.size, 0, none⟩) 1 1)).alloc (arvO 4 0)).heap[v.heap.size]? = some (arvO 4 0) := heap_new1' v _ _ _
    exact ((HB.out.putV 2 (.slice (some ⟨v.heap.size, 0, none⟩) 1 1)).ext (Ext.alloc (Ext.refl _) _)).script baseC_of rfl rfl (nilS_v _) (twoA_v (arvs_one (x := ⟨4, 0⟩) hn))
  clear HA HB XV HBA HBB hNa hSa hNb hSb hVb lB bs bv bs2 sa1 saf sc1 vc2 sf1 vf2 pc rc rf d31 f31 d25 f25 d02 f02 d33 f33 ln13 q2 q3 q4 q5 q6 qf r5 lA hmk b13 bsb bvb
  rintro y ⟨sa, sb, kA, kB, hx⟩
  (try clear v)
  have HX := hid hx
  have FA : ScFit sZ := .of (by kernel_rfl) (by kernel_rfl) (by kernel_rfl)
  have FB : ScFit b7d := .of (by kernel_rfl) (by kernel_rfl) (by kernel_rfl)
  have hne : sZ ≠ b7d := fun h => absurd (congrArg (fun s : Scr => s.arrivals) h) (by decide)
  have hIA := hid (fun z (hz : Ext y z) => show Calls Try.prog 7 #[helpV Na Sa Va 20] z (Yields z .nilIface) from sIs FA.is (sa.ext hz))
  have hIB := hid (fun z (hz : Ext y z) => show Calls Try.prog 7 #[helpV Nb Sb Vb 20] z (Yields z .nilIface) from sIs FB.is (sb.ext hz))
  have hBA := hid (fun z (hz : Ext y z) => gBytes FA.is FA.inn FA.len (sa.ext hz))
  have hBB := hid (fun z (hz : Ext y z) => gBytes FB.is FB.inn FB.len (sb.ext hz))
  have hSM := hid (fun z (hz : Ext y z) => uSame hne (sa.ext hz) (sb.ext hz))
  have hst := fit_ne FA FB hne
  obtain ⟨la, hla⟩ : ∃ l, l = allBytes sZ := ⟨_, rfl⟩
  obtain ⟨lb, hlb⟩ : ∃ l, l = allBytes b7d := ⟨_, rfl⟩
  rw [← hla] at hBA hst
  rw [← hlb] at hBB hst
  rw [str_toList, str_toList] at hst
  have g1 : (la == lb) = false := by simpa using hst
  have g2 : (la != lb) = true := by simpa using hst
  clear hla hlb hst FA FB hne
  have hen := fun w => run_eql_nil_nil' (P := Try.prog) w Try.underlying33
  have lA := lt_of_block kA
  have lB := lt_of_block kB
  have a0 := blk_cell kA 0
  have a1 := blk_cell kA 1
  have a2 := blk_cell kA 2
  have a3 := blk_cell kA 3
  have a4 := blk_cell kA 4
  have a5 := blk_cell kA 5
  have a6 := blk_cell kA 6
  have b0 := blk_cell kB 0
  have b1 := blk_cell kB 1
  have b2 := blk_cell kB 2
  have b3 := blk_cell kB 3
  have b4 := blk_cell kB 4
  have b5 := blk_cell kB 5
  have b6 := blk_cell kB 6
  simp only [List.getElem?_toArray, List.getElem?_cons_zero, List.getElem?_cons_succ] at a0 a1 a2 a3 a4 a5 a6 b0 b1 b2 b3 b4 b5 b6
  clear kA kB sa sb hx
  ((first | refine wp_region_more (by kernel_rfl) (by kernel_rfl) ?_ | refine wp_region_ext (by kernel_rfl) (by kernel_rfl) ?_); (try dsimp only [append_cons', append_nil']); (repeat (go_big_quiet_step ((first | (go_at_call 7; with_reducible refine Calls.more_of (hIA.out _ (ext_more _ _))) | (go_at_call 7; with_reducible refine Calls.more_of (hIB.out _ (ext_more _ _))) | (go_at_call 9; with_reducible refine Calls.more_of (hBA.out _ (ext_more _ _))) | (go_at_call 9; with_reducible refine Calls.more_of (hBB.out _ (ext_more _ _))) | (go_at_call 11; with_reducible refine Calls.more_of (hSM.out _ (ext_more _ _))))))); refine wpQuiet_nil ?_; rintro _ ⟨pq, rfl⟩)
  go_wp2
  go_returns
  exact ⟨rfl, hE0.out.trans (HX.out.more _)⟩

def b8a : Scr := ⟨⟨8, 2, [[2, 2, 2, 2], [5, 1, 1, 1]], [⟨0, 0, [[1, 3], [2, 3]], [], -1, 4, 2, 4, 3, 2⟩, ⟨1, 1, [[3]], [0, 1], 0, 4, 2, 4, 3, 2⟩, ⟨1, 2, [[3]], [], -1, 5, 2, 4, 3, 2⟩, ⟨2, 3, [], [0, 1, 2], 1, 4, 2, 4, 3, 2⟩]⟩, 20, nilS, nilA⟩
set_option maxRecDepth 100000 in
set_option maxHeartbeats 8000000 in
theorem walk8a (which n : Int) (hw0 : 0 ≤ which) (hw1 : which ≤ 255) (hn0 : 0 ≤ n) (hn1 : n ≤ 255) (hk : which % 9 = 8) (hn : n % 4 = 0) (w : World) :
    Calls Try.prog 4 #[.int .u8 which, .int .u8 n] w (Yields w (.bool true)) := by
  have hmk := mkAxns 1 1 rfl (by decide)
  go_enter Try.func4, Try.ntmps4
  go_wp2_with fail
  refine (known4_any _).yields ?_
  intro p0
  have hE0 := hid (ext_more w p0)
  generalize more w p0 = w0 at *
  go_wp2_with fail
  refine (help_any _ 20).mono ?_
  rintro e w1 ⟨Na, Sa, Va, rfl, ha, xa⟩
  go_wp2_with fail
  refine (help_any _ 20).mono ?_
  rintro e w2 ⟨Nb, Sb, Vb, rfl, hb, xb⟩
  have lna := lt_of_block (ha.lies.block (b := 13) rfl)
  have bsa := lt_of_block ha.sb
  have bva := lt_of_block ha.vb
  have hw12 := xb.size
  go_upto_region 5 with (fail)
  refine wp_forget (fun v => HelpS w0.heap.size Na Sa Va baseRO nil4 nil4 v ∧ HelpS w1.heap.size Nb Sb Vb baseRO nil4 nil4 v ∧ v.heap[w2.heap.size]? = some (helpO Na Sa Va 20) ∧ v.heap[w2.heap.size + 1]? = some (helpO Nb Sb Vb 20) ∧ Ext w0 v ∧ Nb + 13 < w2.heap.size ∧ Sb < w2.heap.size ∧ Vb < w2.heap.size)
    ⟨ha.ext (xb.trans (Ext.alloc (Ext.alloc (Ext.refl _) _) _)), hb.ext (Ext.alloc (Ext.alloc (Ext.refl _) _) _), block_ext (Ext.alloc (Ext.refl _) _) (heap_alloc_new w2 (helpO Na Sa Va 20)), heap_new2 w2 (helpO Na Sa Va 20) (helpO Nb Sb Vb 20), (xa.trans xb).trans (Ext.alloc (Ext.alloc (Ext.refl _) _) _), lt_of_block (hb.lies.block (b := 13) rfl), lt_of_block hb.sb, lt_of_block hb.vb⟩ ?_
  clear ha hb xa xb
  generalize w2.heap.size = A at *
  clear w2
  rintro v ⟨ha, hb, hA, hB, xv, b13, bsb, bvb⟩
  have HA := hid ha
  have HB := hid hb
  have XV := hid xv
  have HBA := hid hA
  have HBB := hid hB
  have hNa := ha.hN
  have hSa := ha.hS
  have hNb := hb.hN
  have hSb := hb.hS
  have hVb := hb.hV
  have lB := lt_of_block hB
  have bs := lt_of_block hb.sb
  have bv := lt_of_block hb.vb
  have bs2 := lt_of_block ha.sb
  have sa1 := blk_cell ha.sb 1
  have saf := blk_free ha.sb 1
  have sc1 := blk_cell hb.sb 1
  have vc2 := blk_cell hb.vb 2
  have sf1 := blk_free hb.sb 1
  have vf2 := blk_free hb.vb 2
  have pc : v.cell? ⟨Nb + 3, 0, none⟩ = some (.slice (some ⟨Nb + 1, 0, none⟩) 4 4) := hb.lies.at (b := 3) (j := 0) (v := .s 1 4) rfl
  have rc : v.cell? ⟨Nb + 1, 1, none⟩ = some (.int .i64 2) := hb.lies.at (b := 1) (j := 1) (v := .i 2) rfl
  have rf : v.frozen? ⟨Nb + 1, 1, none⟩ = false := hb.lies.free (b := 1) (j := 1) (v := .i 2) rfl
  have d31 : v.cell? ⟨Nb + 13, 31, none⟩ = some (.int .u64 3) := hb.lies.at (b := 13) (j := 31) (v := .u 3) rfl
  have f31 : v.frozen? ⟨Nb + 13, 31, none⟩ = false := hb.lies.free (b := 13) (j := 31) (v := .u 3) rfl
  have d25 : v.cell? ⟨Nb + 13, 25, none⟩ = some (.int .i64 4) := hb.lies.at (b := 13) (j := 25) (v := .i 4) rfl
  have f25 : v.frozen? ⟨Nb + 13, 25, none⟩ = false := hb.lies.free (b := 13) (j := 25) (v := .i 4) rfl
  have d02 : v.cell? ⟨Nb + 13, 2, none⟩ = some (.slice (some ⟨Nb + 6, 0, none⟩) 2 2) := hb.lies.at (b := 13) (j := 2) (v := .s 6 2) rfl
  have f02 : v.frozen? ⟨Nb + 13, 2, none⟩ = false := hb.lies.free (b := 13) (j := 2) (v := .s 6 2) rfl
  have d33 : v.cell? ⟨Nb + 13, 33, none⟩ = some (.slice (some ⟨Nb + 12, 0, none⟩) 3 3) := hb.lies.at (b := 13) (j := 33) (v := .s 12 3) rfl
  have f33 : v.frozen? ⟨Nb + 13, 33, none⟩ = false := hb.lies.free (b := 13) (j := 33) (v := .s 12 3) rfl
  have ln13 : Nb + 13 < v.heap.size := by omega
  have q2 : v.cell? ⟨A + 1, 2, none⟩ = some (.slice (some ⟨Nb + 3, 0, none⟩) 2 2) := blk_cell hB 2
  have q3 : v.cell? ⟨A + 1, 3, none⟩ = some (.slice (some ⟨Nb + 13, 0, none⟩) 4 4) := blk_cell hB 3
  have q4 : v.cell? ⟨A + 1, 4, none⟩ = some (.int .i64 20) := blk_cell hB 4
  have q5 : v.cell? ⟨A + 1, 5, none⟩ = some (.slice (some ⟨Sb, 0, none⟩) 4 4) := blk_cell hB 5
  have q6 : v.cell? ⟨A + 1, 6, none⟩ = some (.slice (some ⟨Vb, 0, none⟩) 4 4) := blk_cell hB 6
  have qf : v.frozen? ⟨A + 1, 4, none⟩ = false := blk_free hB 4
  have r5 : v.cell? ⟨A, 5, none⟩ = some (.slice (some ⟨Sa, 0, none⟩) 4 4) := blk_cell hA 5
  have lA : A < v.heap.size := by omega
  simp only [nil4, List.getElem?_toArray, List.getElem?_cons_zero, List.getElem?_cons_succ] at sa1 sc1 vc2
  clear ha hb hA hB xv
  go_upto_region 24 with (fail)
  refine wp_forget (fun y => SV Na Sa Va 20 sZ y ∧ SV Nb Sb Vb 20 b8a y ∧ y.heap[A]? = some (helpO Na Sa Va 20) ∧ y.heap[A + 1]? = some (helpO Nb Sb Vb 20) ∧ Ext w0 y) ⟨?_, ?_, block_ext (Ext.refl _) ((Below.heap_setCell _ _ _ _ (by show A ≠ Nb + 13; omega)).trans HBA.out), block_ext (Ext.refl _) ((Below.heap_setCell _ _ _ _ (by show A + 1 ≠ Nb + 13; omega)).trans HBB.out), (XV.out.setCell (by show w0.heap.size ≤ Nb + 13; omega) _)⟩ ?_
  · exact ((HA.out.aside (b := Nb + 13) _ (by omega) (by omega) (by omega)).ext (Ext.refl _)).script baseC_of rfl rfl (nilS_v _) (nilA_v _)
  · exact (HB.out.put (b := 13) (j := 25) (.i 5) rfl (RV.wf_of rfl) (by decide)).script (c := b8a.conf) (by rfl) rfl rfl (nilS_v _) (nilA_v _)
  clear HA HB XV HBA HBB hNa hSa hNb hSb hVb lB bs bv bs2 sa1 saf sc1 vc2 sf1 vf2 pc rc rf d31 f31 d25 f25 d02 f02 d33 f33 ln13 q2 q3 q4 q5 q6 qf r5 lA hmk b13 bsb bvb
  rintro y ⟨sa, sb, kA, kB, hx⟩
  (try clear v)
  have HX := hid hx
  have FA : ScFit sZ := .of (by kernel_rfl) (by kernel_rfl) (by kernel_rfl)
  have FB : ScFit b8a := .of (by kernel_rfl) (by kernel_rfl) (by kernel_rfl)
  have hne : sZ ≠ b8a := fun h => absurd (congrArg (fun s : Scr => s.conf.doms.map (·.threads)) h) (by decide)
  have hIA := hid (fun z (hz : Ext y z) => show Calls Try.prog 7 #[helpV Na Sa Va 20] z (Yields z .nilIface) from sIs FA.is (sa.ext hz))
  have hIB := hid (fun z (hz : Ext y z) => show Calls Try.prog 7 #[helpV Nb Sb Vb 20] z (Yields z .nilIface) from sIs FB.is (sb.ext hz))
  have hBA := hid (fun z (hz : Ext y z) => gBytes FA.is FA.inn FA.len (sa.ext hz))
  have hBB := hid (fun z (hz : Ext y z) => gBytes FB.is FB.inn FB.len (sb.ext hz))
  have hSM := hid (fun z (hz : Ext y z) => uSame hne (sa.ext hz) (sb.ext hz))
  have hst := fit_ne FA FB hne
  obtain ⟨la, hla⟩ : ∃ l, l = allBytes sZ := ⟨_, rfl⟩
  obtain ⟨lb, hlb⟩ : ∃ l, l = allBytes b8a := ⟨_, rfl⟩
  rw [← hla] at hBA hst
  rw [← hlb] at hBB hst
  rw [str_toList, str_toList] at hst
  have g1 : (la == lb) = false := by simpa using hst
  have g2 : (la != lb) = true := by simpa using hst
  clear hla hlb hst FA FB hne
  have hen := fun w => run_eql_nil_nil' (P := Try.prog) w Try.underlying33
  have lA := lt_of_block kA
  have lB := lt_of_block kB
  have a0 := blk_cell kA 0
  have a1 := blk_cell kA 1
  have a2 := blk_cell kA 2
  have a3 := blk_cell kA 3
  have a4 := blk_cell kA 4
  have a5 := blk_cell kA 5
  have a6 := blk_cell kA 6
  have b0 := blk_cell kB 0
  have b1 := blk_cell kB 1
  have b2 := blk_cell kB 2
  have b3 := blk_cell kB 3
  have b4 := blk_cell kB 4
  have b5 := blk_cell kB 5
  have b6 := blk_cell kB 6
  simp only [List.getElem?_toArray, List.getElem?_cons_zero, List.getElem?_cons_succ] at a0 a1 a2 a3 a4 a5 a6 b0 b1 b2 b3 b4 b5 b6
  clear kA kB sa sb hx
  ((first | refine wp_region_more (by kernel_rfl) (by kernel_rfl) ?_ | refine wp_region_ext (by kernel_rfl) (by kernel_rfl) ?_); (try dsimp only [append_cons', append_nil']); (repeat (go_big_quiet_step ((first | (go_at_call 7; with_reducible refine Calls.more_of (hIA.out _ (ext_more _ _))) | (go_at_call 7; with_reducible refine Calls.more_of (hIB.out _ (ext_more _ _))) | (go_at_call 9; with_reducible refine Calls.more_of (hBA.out _ (ext_more _ _))) | (go_at_call 9; with_reducible refine Calls.more_of (hBB.out _ (ext_more _ _))) | (go_at_call 11; with_reducible refine Calls.more_of (hSM.out _ (ext_more _ _))))))); refine wpQuiet_nil ?_; rintro _ ⟨pq, rfl⟩)
  go_wp2
  go_returns
  exact ⟨rfl, hE0.out.trans (HX.out.more _)⟩

def b8b : Scr := ⟨⟨8, 2, [[2, 2, 2, 2], [5, 1, 1, 1]], [⟨0, 0, [[1, 3], [2, 3]], [], -1, 4, 2, 4, 3, 2⟩, ⟨1, 1, [[3]], [0, 1], 0, 4, 2, 4, 3, 2⟩, ⟨1, 2, [[3]], [], -1, 6, 2, 4, 3, 2⟩, ⟨2, 3, [], [0, 1, 2], 1, 4, 2, 4, 3, 2⟩]⟩, 20, nilS, nilA⟩
set_option maxRecDepth 100000 in
set_option maxHeartbeats 8000000 in
theorem walk8b (which n : Int) (hw0 : 0 ≤ which) (hw1 : which ≤ 255) (hn0 : 0 ≤ n) (hn1 : n ≤ 255) (hk : which % 9 = 8) (hn : n % 4 = 1) (w : World) :
    Calls Try.prog 4 #[.int .u8 which, .int .u8 n] w (Yields w (.bool true)) := by
  have hmk := mkAxns 2 2 rfl (by decide)
  go_enter Try.func4, Try.ntmps4
  go_wp2_with fail
  refine (known4_any _).yields ?_
  intro p0
  have hE0 := hid (ext_more w p0)
  generalize more w p0 = w0 at *
  go_wp2_with fail
  refine (help_any _ 20).mono ?_
  rintro e w1 ⟨Na, Sa, Va, rfl, ha, xa⟩
  go_wp2_with fail
  refine (help_any _ 20).mono ?_
  rintro e w2 ⟨Nb, Sb, Vb, rfl, hb, xb⟩
  have lna := lt_of_block (ha.lies.block (b := 13) rfl)
  have bsa := lt_of_block ha.sb
  have bva := lt_of_block ha.vb
  have hw12 := xb.size
  go_upto_region 5 with (fail)
  refine wp_forget (fun v => HelpS w0.heap.size Na Sa Va baseRO nil4 nil4 v ∧ HelpS w1.heap.size Nb Sb Vb baseRO nil4 nil4 v ∧ v.heap[w2.heap.size]? = some (helpO Na Sa Va 20) ∧ v.heap[w2.heap.size + 1]? = some (helpO Nb Sb Vb 20) ∧ Ext w0 v ∧ Nb + 13 < w2.heap.size ∧ Sb < w2.heap.size ∧ Vb < w2.heap.size)
    ⟨ha.ext (xb.trans (Ext.alloc (Ext.alloc (Ext.refl _) _) _)), hb.ext (Ext.alloc (Ext.alloc (Ext.refl _) _) _), block_ext (Ext.alloc (Ext.refl _) _) (heap_alloc_new w2 (helpO Na Sa Va 20)), heap_new2 w2 (helpO Na Sa Va 20) (helpO Nb Sb Vb 20), (xa.trans xb).trans (Ext.alloc (Ext.alloc (Ext.refl _) _) _), lt_of_block (hb.lies.block (b := 13) rfl), lt_of_block hb.sb, lt_of_block hb.vb⟩ ?_
  clear ha hb xa xb
  generalize w2.heap.size = A at *
  clear w2
  rintro v ⟨ha, hb, hA, hB, xv, b13, bsb, bvb⟩
  have HA := hid ha
  have HB := hid hb
  have XV := hid xv
  have HBA := hid hA
  have HBB := hid hB
  have hNa := ha.hN
  have hSa := ha.hS
  have hNb := hb.hN
  have hSb := hb.hS
  have hVb := hb.hV
  have lB := lt_of_block hB
  have bs := lt_of_block hb.sb
  have bv := lt_of_block hb.vb
  have bs2 := lt_of_block ha.sb
  have sa1 := blk_cell ha.sb 1
  have saf := blk_free ha.sb 1
  have sc1 := blk_cell hb.sb 1
  have vc2 := blk_cell hb.vb 2
  have sf1 := blk_free hb.sb 1
  have vf2 := blk_free hb.vb 2
  have pc : v.cell? ⟨Nb + 3, 0, none⟩ = some (.slice (some ⟨Nb + 1, 0, none⟩) 4 4) := hb.lies.at (b := 3) (j := 0) (v := .s 1 4) rfl
  have rc : v.cell? ⟨Nb + 1, 1, none⟩ = some (.int .i64 2) := hb.lies.at (b := 1) (j := 1) (v := .i 2) rfl
  have rf : v.frozen? ⟨Nb + 1, 1, none⟩ = false := hb.lies.free (b := 1) (j := 1) (v := .i 2) rfl
  have d31 : v.cell? ⟨Nb + 13, 31, none⟩ = some (.int .u64 3) := hb.lies.at (b := 13) (j := 31) (v := .u 3) rfl
  have f31 : v.frozen? ⟨Nb + 13, 31, none⟩ = false := hb.lies.free (b := 13) (j := 31) (v := .u 3) rfl
  have d25 : v.cell? ⟨Nb + 13, 25, none⟩ = some (.int .i64 4) := hb.lies.at (b := 13) (j := 25) (v := .i 4) rfl
  have f25 : v.frozen? ⟨Nb + 13, 25, none⟩ = false := hb.lies.free (b := 13) (j := 25) (v := .i 4) rfl
  have d02 : v.cell? ⟨Nb + 13, 2, none⟩ = some (.slice (some ⟨Nb + 6, 0, none⟩) 2 2) := hb.lies.at (b := 13) (j := 2) (v := .s 6 2) rfl
  have f02 : v.frozen? ⟨Nb + 13, 2, none⟩ = false := hb.lies.free (b := 13) (j := 2) (v := .s 6 2) rfl
  have d33 : v.cell? ⟨Nb + 13, 33, none⟩ = some (.slice (some ⟨Nb + 12, 0, none⟩) 3 3) := hb.lies.at (b := 13) (j := 33) (v := .s 12 3) rfl
  have f33 : v.frozen? ⟨Nb + 13, 33, none⟩ = false := hb.lies.free (b := 13) (j := 33) (v := .s 12 3) rfl
  have ln13 : Nb + 13 < v.heap.size := by omega
  have q2 : v.cell? ⟨A + 1, 2, none⟩ = some (.slice (some ⟨Nb + 3, 0, none⟩) 2 2) := blk_cell hB 2
  have q3 : v.cell? ⟨A + 1, 3, none⟩ = some (.slice (some ⟨Nb + 13, 0, none⟩) 4 4) := blk_cell hB 3
  have q4 : v.cell? ⟨A + 1, 4, none⟩ = some (.int .i64 20) := blk_cell hB 4
  have q5 : v.cell? ⟨A + 1, 5, none⟩ = some (.slice (some ⟨Sb, 0, none⟩) 4 4) := blk_cell hB 5
  have q6 : v.cell? ⟨A + 1, 6, none⟩ = some (.slice (some ⟨Vb, 0, none⟩) 4 4) := blk_cell hB 6
  have qf : v.frozen? ⟨A + 1, 4, none⟩ = false := blk_free hB 4
  have r5 : v.cell? ⟨A, 5, none⟩ = some (.slice (some ⟨Sa, 0, none⟩) 4 4) := blk_cell hA 5
  have lA : A < v.heap.size := by omega
  simp only [nil4, List.getElem?_toArray, List.getElem?_cons_zero, List.getElem?_cons_succ] at sa1 sc1 vc2
  clear ha hb hA hB xv
  go_upto_region 24 with (fail)
  refine wp_forget (fun y => SV Na Sa Va 20 sZ y ∧ SV Nb Sb Vb 20 b8b y ∧ y.heap[A]? = some (helpO Na Sa Va 20) ∧ y.heap[A + 1]? = some (helpO Nb Sb Vb 20) ∧ Ext w0 y) ⟨?_, ?_, block_ext (Ext.refl _) ((Below.heap_setCell _ _ _ _ (by show A ≠ Nb + 13; omega)).trans HBA.out), block_ext (Ext.refl _) ((Below.heap_setCell _ _ _ _ (by show A + 1 ≠ Nb + 13; omega)).trans HBB.out), (XV.out.setCell (by show w0.heap.size ≤ Nb + 13; omega) _)⟩ ?_
  · exact ((HA.out.aside (b := Nb + 13) _ (by omega) (by omega) (by omega)).ext (Ext.refl _)).script baseC_of rfl rfl (nilS_v _) (nilA_v _)
  · exact (HB.out.put (b := 13) (j := 25) (.i 6) rfl (RV.wf_of rfl) (by decide)).script (c := b8b.conf) (by rfl) rfl rfl (nilS_v _) (nilA_v _)
  clear HA HB XV HBA HBB hNa hSa hNb hSb hVb lB bs bv bs2 sa1 saf sc1 vc2 sf1 vf2 pc rc rf d31 f31 d25 f25 d02 f02 d33 f33 ln13 q2 q3 q4 q5 q6 qf r5 lA hmk b13 bsb bvb
  rintro y ⟨sa, sb, kA, kB, hx⟩
  (try clear v)
  have HX := hid hx
  have FA : ScFit sZ := .of (by kernel_rfl) (by kernel_rfl) (by kernel_rfl)
  have FB : ScFit b8b := .of (by kernel_rfl) (by kernel_rfl) (by kernel_rfl)
  have hne : sZ ≠ b8b := fun h => absurd (congrArg (fun s : Scr => s.conf.doms.map (·.threads)) h) (by decide)
  have hIA := hid (fun z (hz : Ext y z) => show Calls Try.prog 7 #[helpV Na Sa Va 20] z (Yields z .nilIface) from sIs FA.is (sa.ext hz))
  have hIB := hid (fun z (hz : Ext y z) => show Calls Try.prog 7 #[helpV Nb Sb Vb 20] z (Yields z .nilIface) from sIs FB.is (sb.ext hz))
  have hBA := hid (fun z (hz : Ext y z) => gBytes FA.is FA.inn FA.len (sa.ext hz))
  have hBB := hid (fun z (hz : Ext y z) => gBytes FB.is FB.inn FB.len (sb.ext hz))
  have hSM := hid (fun z (hz : Ext y z) => uSame hne (sa.ext hz) (sb.ext hz))
  have hst := fit_ne FA FB hne
  obtain ⟨la, hla⟩ : ∃ l, l = allBytes sZ := ⟨_, rfl⟩
  obtain ⟨lb, hlb⟩ : ∃ l, l = allBytes b8b := ⟨_, rfl⟩
  rw [← hla] at hBA hst
  rw [← hlb] at hBB hst
  rw [str_toList, str_toList] at hst
  have g1 : (la == lb) = false := by simpa using hst
  have g2 : (la != lb) = true := by simpa using hst
  clear hla hlb hst FA FB hne
  have hen := fun w => run_eql_nil_nil' (P := Try.prog) w Try.underlying33
  have lA := lt_of_block kA
  have lB := lt_of_block kB
  have a0 := blk_cell kA 0
  have a1 := blk_cell kA 1
  have a2 := blk_cell kA 2
  have a3 := blk_cell kA 3
  have a4 := blk_cell kA 4
  have a5 := blk_cell kA 5
  have a6 := blk_cell kA 6
  have b0 := blk_cell kB 0
  have b1 := blk_cell kB 1
  have b2 := blk_cell kB 2
  have b3 := blk_cell kB 3
  have b4 := blk_cell kB 4
  have b5 := blk_cell kB 5
  have b6 := blk_cell kB 6
  simp only [List.getElem?_toArray, List.getElem?_cons_zero, List.getElem?_cons_succ] at a0 a1 a2 a3 a4 a5 a6 b0 b1 b2 b3 b4 b5 b6
  clear kA kB sa sb hx
  ((first | refine wp_region_more (by kernel_rfl) (by kernel_rfl) ?_ | refine wp_region_ext (by kernel_rfl) (by kernel_rfl) ?_); (try dsimp only [append_cons', append_nil']); (repeat (go_big_quiet_step ((first | (go_at_call 7; with_reducible refine Calls.more_of (hIA.out _ (ext_more _ _))) | (go_at_call 7; with_reducible refine Calls.more_of (hIB.out _ (ext_more _ _))) | (go_at_call 9; with_reducible refine Calls.more_of (hBA.out _ (ext_more _ _))) | (go_at_call 9; with_reducible refine Calls.more_of (hBB.out _ (ext_more _ _))) | (go_at_call 11; with_reducible refine Calls.more_of (hSM.out _ (ext_more _ _))))))); refine wpQuiet_nil ?_; rintro _ ⟨pq, rfl⟩)
  go_wp2
  go_returns
  exact ⟨rfl, hE0.out.trans (HX.out.more _)⟩

def b8c : Scr := ⟨⟨8, 2, [[2, 2, 2, 2], [5, 1, 1, 1]], [⟨0, 0, [[1, 3], [2, 3]], [], -1, 4, 2, 4, 3, 2⟩, ⟨1, 1, [[3]], [0, 1], 0, 4, 2, 4, 3, 2⟩, ⟨1, 2, [[3]], [], -1, 7, 2, 4, 3, 2⟩, ⟨2, 3, [], [0, 1, 2], 1, 4, 2, 4, 3, 2⟩]⟩, 20, nilS, nilA⟩
set_option maxRecDepth 100000 in
set_option maxHeartbeats 8000000 in
theorem walk8c (which n : Int) (hw0 : 0 ≤ which) (hw1 : which ≤ 255) (hn0 : 0 ≤ n) (hn1 : n ≤ 255) (hk : which % 9 = 8) (hn : n % 4 = 2) (w : World) :
    Calls Try.prog 4 #[.int .u8 which, .int .u8 n] w (Yields w (.bool true)) := by
  have hmk := mkAxns 3 3 rfl (by decide)
  go_enter Try.func4, Try.ntmps4
  go_wp2_with fail
  refine (known4_any _).yields ?_
  intro p0
  have hE0 := hid (ext_more w p0)
  generalize more w p0 = w0 at *
  go_wp2_with fail
  refine (help_any _ 20).mono ?_
  rintro e w1 ⟨Na, Sa, Va, rfl, ha, xa⟩
  go_wp2_with fail
  refine (help_any _ 20).mono ?_
  rintro e w2 ⟨Nb, Sb, Vb, rfl, hb, xb⟩
  have lna := lt_of_block (ha.lies.block (b := 13) rfl)
  have bsa := lt_of_block ha.sb
  have bva := lt_of_block ha.vb
  have hw12 := xb.size
  go_upto_region 5 with (fail)
  refine wp_forget (fun v => HelpS w0.heap.size Na Sa Va baseRO nil4 nil4 v ∧ HelpS w1.heap.size Nb Sb Vb baseRO nil4 nil4 v ∧ v.heap[w2.heap.size]? = some (helpO Na Sa Va 20) ∧ v.heap[w2.heap.size + 1]? = some (helpO Nb Sb Vb 20) ∧ Ext w0 v ∧ Nb + 13 < w2.heap.size ∧ Sb < w2.heap.size ∧ Vb < w2.heap.size)
    ⟨ha.ext (xb.trans (Ext.alloc (Ext.alloc (Ext.refl _) _) _)), hb.ext (Ext.alloc (Ext.alloc (Ext.refl _) _) _), block_ext (Ext.alloc (Ext.refl _) _) (heap_alloc_new w2 (helpO Na Sa Va 20)), heap_new2 w2 (helpO Na Sa Va 20) (helpO Nb Sb Vb 20), (xa.trans xb).trans (Ext.alloc (Ext.alloc (Ext.refl _) _) _), lt_of_block (hb.lies.block (b := 13) rfl), lt_of_block hb.sb, lt_of_block hb.vb⟩ ?_
  clear ha hb xa xb
  generalize w2.heap.size = A at *
  clear w2
  rintro v ⟨ha, hb, hA, hB, xv, b13, bsb, bvb⟩
  have HA := hid ha
  have HB := hid hb
  have XV := hid xv
  have HBA := hid hA
  have HBB := hid hB
  have hNa := ha.hN
  have hSa := ha.hS
  have hNb := hb.hN
  have hSb := hb.hS
  have hVb := hb.hV
  have lB := lt_of_block hB
  have bs := lt_of_block hb.sb
  have bv := lt_of_block hb.vb
  have bs2 := lt_of_block ha.sb
  have sa1 := blk_cell ha.sb 1
  have saf := blk_free ha.sb 1
  have sc1 := blk_cell hb.sb 1
  have vc2 := blk_cell hb.vb 2
  have sf1 := blk_free hb.sb 1
  have vf2 := blk_free hb.vb 2
  have pc : v.cell? ⟨Nb + 3, 0, none⟩ = some (.slice (some ⟨Nb + 1, 0, none⟩) 4 4) := hb.lies.at (b := 3) (j := 0) (v := .s 1 4) rfl
  have rc : v.cell? ⟨Nb + 1, 1, none⟩ = some (.int .i64 2) := hb.lies.at (b := 1) (j := 1) (v := .i 2) rfl
  have rf : v.frozen? ⟨Nb + 1, 1, none⟩ = false := hb.lies.free (b := 1) (j := 1) (v := .i 2) rfl
  have d31 : v.cell? ⟨Nb + 13, 31, none⟩ = some (.int .u64 3) := hb.lies.at (b := 13) (j := 31) (v := .u 3) rfl
  have f31 : v.frozen? ⟨Nb + 13, 31, none⟩ = false := hb.lies.free (b := 13) (j := 31) (v := .u 3) rfl
  have d25 : v.cell? ⟨Nb + 13, 25, none⟩ = some (.int .i64 4) := hb.lies.at (b := 13) (j := 25) (v := .i 4) rfl
  have f25 : v.frozen? ⟨Nb + 13, 25, none⟩ = false := hb.lies.free (b := 13) (j := 25) (v := .i 4) rfl
  have d02 : v.cell? ⟨Nb + 13, 2, none⟩ = some (.slice (some ⟨Nb + 6, 0, none⟩) 2 2) := hb.lies.at (b := 13) (j := 2) (v := .s 6 2) rfl
  have f02 : v.frozen? ⟨Nb + 13, 2, none⟩ = false := hb.lies.free (b := 13) (j := 2) (v := .s 6 2) rfl
  have d33 : v.cell? ⟨Nb + 13, 33, none⟩ = some (.slice (some ⟨Nb + 12, 0, none⟩) 3 3) := hb.lies.at (b := 13) (j := 33) (v := .s 12 3) rfl
  have f33 : v.frozen? ⟨Nb + 13, 33, none⟩ = false := hb.lies.free (b := 13) (j := 33) (v := .s 12 3) rfl
  have ln13 : Nb + 13 < v.heap.size := by omega
  have q2 : v.cell? ⟨A + 1, 2, none⟩ = some (.slice (some ⟨Nb + 3, 0, none⟩) 2 2) := blk_cell hB 2
  have q3 : v.cell? ⟨A + 1, 3, none⟩ = some (.slice (some ⟨Nb + 13, 0, none⟩) 4 4) := blk_cell hB 3
  have q4 : v.cell? ⟨A + 1, 4, none⟩ = some (.int .i64 20) := blk_cell hB 4
  have q5 : v.cell? ⟨A + 1, 5, none⟩ = some (.slice (some ⟨Sb, 0, none⟩) 4 4) := blk_cell hB 5
  have q6 : v.cell? ⟨A + 1, 6, none⟩ = some (.slice (some ⟨Vb, 0, none⟩) 4 4) := blk_cell hB 6
  have qf : v.frozen? ⟨A + 1, 4, none⟩ = false := blk_free hB 4
  have r5 : v.cell? ⟨A, 5, none⟩ = some (.slice (some ⟨Sa, 0, none⟩) 4 4) := blk_cell hA 5
  have lA : A < v.heap.size := by omega
  simp only [nil4, List.getElem?_toArray, List.getElem?_cons_zero, List.getElem?_cons_succ] at sa1 sc1 vc2
  clear ha hb hA hB xv
  go_upto_region 24 with (fail)
  refine wp_forget (fun y => SV Na Sa Va 20 sZ y ∧ SV Nb Sb Vb 20 b8c y ∧ y.heap[A]? = some (helpO Na Sa Va 20) ∧ y.heap[A + 1]? = some (helpO Nb Sb Vb 20) ∧ Ext w0 y) ⟨?_, ?_, block_ext (Ext.refl _) ((Below.heap_setCell _ _ _ _ (by show A ≠ Nb + 13; omega)).trans HBA.out), block_ext (Ext.refl _) ((Below.heap_setCell _ _ _ _ (by show A + 1 ≠ Nb + 13; omega)).trans HBB.out), (XV.out.setCell (by show w0.heap.size ≤ Nb + 13; omega) _)⟩ ?_
  · exact ((HA.out.aside (b := Nb + 13) _ (by omega) (by omega) (by omega)).ext (Ext.refl _)).script baseC_of rfl rfl (nilS_v _) (nilA_v _)
  · exact (HB.out.put (b := 13) (j := 25) (.i 7) rfl (RV.wf_of rfl) (by decide)).script (c := b8c.conf) (by rfl) rfl rfl (nilS_v _) (nilA_v _)
  clear HA HB XV HBA HBB hNa hSa hNb hSb hVb lB bs bv bs2 sa1 saf sc1 vc2 sf1 vf2 pc rc rf d31 f31 d25 f25 d02 f02 d33 f33 ln13 q2 q3 q4 q5 q6 qf r5 lA hmk b13 bsb bvb
  rintro y ⟨sa, sb, kA, kB, hx⟩
  (try clear v)
  have HX := hid hx
  have FA : ScFit sZ := .of (by kernel_rfl) (by kernel_rfl) (by kernel_rfl)
  have FB : ScFit b8c := .of (by kernel_rfl) (by kernel_rfl) (by kernel_rfl)
  have hne : sZ ≠ b8c := fun h => absurd (congrArg (fun s : Scr => s.conf.doms.map (·.threads)) h) (by decide)
  have hIA := hid (fun z (hz : Ext y z) => show Calls Try.prog 7 #[helpV Na Sa Va 20] z (Yields z .nilIface) from sIs FA.is (sa.ext hz))
  have hIB := hid (fun z (hz : Ext y z) => show Calls Try.prog 7 #[helpV Nb Sb Vb 20] z (Yields z .nilIface) from sIs FB.is (sb.ext hz))
  have hBA := hid (fun z (hz : Ext y z) => gBytes FA.is FA.inn FA.len (sa.ext hz))
  have hBB := hid (fun z (hz : Ext y z) => gBytes FB.is FB.inn FB.len (sb.ext hz))
  have hSM := hid (fun z (hz : Ext y z) => uSame hne (sa.ext hz) (sb.ext hz))
  have hst := fit_ne FA FB hne
  obtain ⟨la, hla⟩ : ∃ l, l = allBytes sZ := ⟨_, rfl⟩
  obtain ⟨lb, hlb⟩ : ∃ l, l = allBytes b8c := ⟨_, rfl⟩
  rw [← hla] at hBA hst
  rw [← hlb] at hBB hst
  rw [str_toList, str_toList] at hst
  have g1 : (la == lb) = false := by simpa using hst
  have g2 : (la != lb) = true := by simpa using hst
  clear hla hlb hst FA FB hne
  have hen := fun w => run_eql_nil_nil' (P := Try.prog) w Try.underlying33
  have lA := lt_of_block kA
  have lB := lt_of_block kB
  have a0 := blk_cell kA 0
  have a1 := blk_cell kA 1
  have a2 := blk_cell kA 2
  have a3 := blk_cell kA 3
  have a4 := blk_cell kA 4
  have a5 := blk_cell kA 5
  have a6 := blk_cell kA 6
  have b0 := blk_cell kB 0
  have b1 := blk_cell kB 1
  have b2 := blk_cell kB 2
  have b3 := blk_cell kB 3
  have b4 := blk_cell kB 4
  have b5 := blk_cell kB 5
  have b6 := blk_cell kB 6
  simp only [List.getElem?_toArray, List.getElem?_cons_zero, List.getElem?_cons_succ] at a0 a1 a2 a3 a4 a5 a6 b0 b1 b2 b3 b4 b5 b6
  clear kA kB sa sb hx
  ((first | refine wp_region_more (by kernel_rfl) (by kernel_rfl) ?_ | refine wp_region_ext (by kernel_rfl) (by kernel_rfl) ?_); (try dsimp only [append_cons', append_nil']); (repeat (go_big_quiet_step ((first | (go_at_call 7; with_reducible refine Calls.more_of (hIA.out _ (ext_more _ _))) | (go_at_call 7; with_reducible refine Calls.more_of (hIB.out _ (ext_more _ _))) | (go_at_call 9; with_reducible refine Calls.more_of (hBA.out _ (ext_more _ _))) | (go_at_call 9; with_reducible refine Calls.more_of (hBB.out _ (ext_more _ _))) | (go_at_call 11; with_reducible refine Calls.more_of (hSM.out _ (ext_more _ _))))))); refine wpQuiet_nil ?_; rintro _ ⟨pq, rfl⟩)
  go_wp2
  go_returns
  exact ⟨rfl, hE0.out.trans (HX.out.more _)⟩

def b8d : Scr := ⟨⟨8, 2, [[2, 2, 2, 2], [5, 1, 1, 1]], [⟨0, 0, [[1, 3], [2, 3]], [], -1, 4, 2, 4, 3, 2⟩, ⟨1, 1, [[3]], [0, 1], 0, 4, 2, 4, 3, 2⟩, ⟨1, 2, [[3]], [], -1, 8, 2, 4, 3, 2⟩, ⟨2, 3, [], [0, 1, 2], 1, 4, 2, 4, 3, 2⟩]⟩, 20, nilS, nilA⟩
set_option maxRecDepth 100000 in
set_option maxHeartbeats 8000000 in
theorem walk8d (which n : Int) (hw0 : 0 ≤ which) (hw1 : which ≤ 255) (hn0 : 0 ≤ n) (hn1 : n ≤ 255) (hk : which % 9 = 8) (hn : n % 4 = 3) (w : World) :
    Calls Try.prog 4 #[.int .u8 which, .int .u8 n] w (Yields w (.bool true)) := by
  have hmk := mkAxns 4 4 rfl (by decide)
  go_enter Try.func4, Try.ntmps4
  go_wp2_with fail
  refine (known4_any _).yields ?_
  intro p0
  have hE0 := hid (ext_more w p0)
  generalize more w p0 = w0 at *
  go_wp2_with fail
  refine (help_any _ 20).mono ?_
  rintro e w1 ⟨Na, Sa, Va, rfl, ha, xa⟩
  go_wp2_with fail
  refine (help_any _ 20).mono ?_
  rintro e w2 ⟨Nb, Sb, Vb, rfl, hb, xb⟩
  have lna := lt_of_block (ha.lies.block (b := 13) rfl)
  have bsa := lt_of_block ha.sb
  have bva := lt_of_block ha.vb
  have hw12 := xb.size
  go_upto_region 5 with (fail)
  refine wp_forget (fun v => HelpS w0.heap.size Na Sa Va baseRO nil4 nil4 v ∧ HelpS w1.heap.size Nb Sb Vb baseRO nil4 nil4 v ∧ v.heap[w2.heap.size]? = some (helpO Na Sa Va 20) ∧ v.heap[w2.heap.size + 1]? = some (helpO Nb Sb Vb 20) ∧ Ext w0 v ∧ Nb + 13 < w2.heap.size ∧ Sb < w2.heap.size ∧ Vb < w2.heap.size)
    ⟨ha.ext (xb.trans (Ext.alloc (Ext.alloc (Ext.refl _) _) _)), hb.ext (Ext.alloc (Ext.alloc (Ext.refl _) _) _), block_ext (Ext.alloc (Ext.refl _) _) (heap_alloc_new w2 (helpO Na Sa Va 20)), heap_new2 w2 (helpO Na Sa Va 20) (helpO Nb Sb Vb 20), (xa.trans xb).trans (Ext.alloc (Ext.alloc (Ext.refl _) _) _), lt_of_block (hb.lies.block (b := 13) rfl), lt_of_block hb.sb, lt_of_block hb.vb⟩ ?_
  clear ha hb xa xb
  generalize w2.heap.size = A at *
  clear w2
  rintro v ⟨ha, hb, hA, hB, xv, b13, bsb, bvb⟩
  have HA := hid ha
  have HB := hid hb
  have XV := hid xv
  have HBA := hid hA
  have HBB := hid hB
  have hNa := ha.hN
  have hSa := ha.hS
  have hNb := hb.hN
  have hSb := hb.hS
  have hVb := hb.hV
  have lB := lt_of_block hB
  have bs := lt_of_block hb.sb
  have bv := lt_of_block hb.vb
  have bs2 := lt_of_block ha.sb
  have sa1 := blk_cell ha.sb 1
  have saf := blk_free ha.sb 1
  have sc1 := blk_cell hb.sb 1
  have vc2 := blk_cell hb.vb 2
  have sf1 := blk_free hb.sb 1
  have vf2 := blk_free hb.vb 2
  have pc : v.cell? ⟨Nb + 3, 0, none⟩ = some (.slice (some ⟨Nb + 1, 0, none⟩) 4 4) := hb.lies.at (b := 3) (j := 0) (v := .s 1 4) rfl
  have rc : v.cell? ⟨Nb + 1, 1, none⟩ = some (.int .i64 2) := hb.lies.at (b := 1) (j := 1) (v := .i 2) rfl
  have rf : v.frozen? ⟨Nb + 1, 1, none⟩ = false := hb.lies.free (b := 1) (j := 1) (v := .i 2) rfl
  have d31 : v.cell? ⟨Nb + 13, 31, none⟩ = some (.int .u64 3) := hb.lies.at (b := 13) (j := 31) (v := .u 3) rfl
  have f31 : v.frozen? ⟨Nb + 13, 31, none⟩ = false := hb.lies.free (b := 13) (j := 31) (v := .u 3) rfl
  have d25 : v.cell? ⟨Nb + 13, 25, none⟩ = some (.int .i64 4) := hb.lies.at (b := 13) (j := 25) (v := .i 4) rfl
  have f25 : v.frozen? ⟨Nb + 13, 25, none⟩ = false := hb.lies.free (b := 13) (j := 25) (v := .i 4) rfl
  have d02 : v.cell? ⟨Nb + 13, 2, none⟩ = some (.slice (some ⟨Nb + 6, 0, none⟩) 2 2) := hb.lies.at (b := 13) (j := 2) (v := .s 6 2) rfl
  have f02 : v.frozen? ⟨Nb + 13, 2, none⟩ = false := hb.lies.free (b := 13) (j := 2) (v := .s 6 2) rfl
  have d33 : v.cell? ⟨Nb + 13, 33, none⟩ = some (.slice (some ⟨Nb + 12, 0, none⟩) 3 3) := hb.lies.at (b := 13) (j := 33) (v := .s 12 3) rfl
  have f33 : v.frozen? ⟨Nb + 13, 33, none⟩ = false := hb.lies.free (b := 13) (j := 33) (v := .s 12 3) rfl
  have ln13 : Nb + 13 < v.heap.size := by omega
  have q2 : v.cell? ⟨A + 1, 2, none⟩ = some (.slice (some ⟨Nb + 3, 0, none⟩) 2 2) := blk_cell hB 2
  have q3 : v.cell? ⟨A + 1, 3, none⟩ = some (.slice (some ⟨Nb + 13, 0, none⟩) 4 4) := blk_cell hB 3
  have q4 : v.cell? ⟨A + 1, 4, none⟩ = some (.int .i64 20) := blk_cell hB 4
  have q5 : v.cell? ⟨A + 1, 5, none⟩ = some (.slice (some ⟨Sb, 0, none⟩) 4 4) := blk_cell hB 5
  have q6 : v.cell? ⟨A + 1, 6, none⟩ = some (.slice (some ⟨Vb, 0, none⟩) 4 4) := blk_cell hB 6
  have qf : v.frozen? ⟨A + 1, 4, none⟩ = false := blk_free hB 4
  have r5 : v.cell? ⟨A, 5, none⟩ = some (.slice (some ⟨Sa, 0, none⟩) 4 4) := blk_cell hA 5
  have lA : A < v.heap.size := by omega
  simp only [nil4, List.getElem?_toArray, List.getElem?_cons_zero, List.getElem?_cons_succ] at sa1 sc1 vc2
  clear ha hb hA hB xv
  go_upto_region 24 with (fail)
  refine wp_forget (fun y => SV Na Sa Va 20 sZ y ∧ SV Nb Sb Vb 20 b8d y ∧ y.heap[A]? = some (helpO Na Sa Va 20) ∧ y.heap[A + 1]? = some (helpO Nb Sb Vb 20) ∧ Ext w0 y) ⟨?_, ?_, block_ext (Ext.refl _) ((Below.heap_setCell _ _ _ _ (by show A ≠ Nb + 13; omega)).trans HBA.out), block_ext (Ext.refl _) ((Below.heap_setCell _ _ _ _ (by show A + 1 ≠ Nb + 13; omega)).trans HBB.out), (XV.out.setCell (by show w0.heap.size ≤ Nb + 13; omega) _)⟩ ?_
  · exact ((HA.out.aside (b := Nb + 13) _ (by omega) (by omega) (by omega)).ext (Ext.refl _)).script baseC_of rfl rfl (nilS_v _) (nilA_v _)
  · exact (HB.out.put (b := 13) (j := 25) (.i 8) rfl (RV.wf_of rfl) (by decide)).script (c := b8d.conf) (by rfl) rfl rfl (nilS_v _) (nilA_v _)
  clear HA HB XV HBA HBB hNa hSa hNb hSb hVb lB bs bv bs2 sa1 saf sc1 vc2 sf1 vf2 pc rc rf d31 f31 d25 f25 d02 f02 d33 f33 ln13 q2 q3 q4 q5 q6 qf r5 lA hmk b13 bsb bvb
  rintro y ⟨sa, sb, kA, kB, hx⟩
  (try clear v)
  have HX := hid hx
  have FA : ScFit sZ := .of (by kernel_rfl) (by kernel_rfl) (by kernel_rfl)
  have FB : ScFit b8d := .of (by kernel_rfl) (by kernel_rfl) (by kernel_rfl)
  have hne : sZ ≠ b8d := fun h => absurd (congrArg (fun s : Scr => s.conf.doms.map (·.threads)) h) (by decide)
  have hIA := hid (fun z (hz : Ext y z) => show Calls Try.prog 7 #[helpV Na Sa Va 20] z (Yields z .nilIface) from sIs FA.is (sa.ext hz))
  have hIB := hid (fun z (hz : Ext y z) => show Calls Try.prog 7 #[helpV Nb Sb Vb 20] z (Yields z .nilIface) from sIs FB.is (sb.ext hz))
  have hBA := hid (fun z (hz : Ext y z) => gBytes FA.is FA.inn FA.len (sa.ext hz))
  have hBB := hid (fun z (hz : Ext y z) => gBytes FB.is FB.inn FB.len (sb.ext hz))
  have hSM := hid (fun z (hz : Ext y z) => uSame hne (sa.ext hz) (sb.ext hz))
  have hst := fit_ne FA FB hne
  obtain ⟨la, hla⟩ : ∃ l, l = allBytes sZ := ⟨_, rfl⟩
  obtain ⟨lb, hlb⟩ : ∃ l, l = allBytes b8d := ⟨_, rfl⟩
  rw [← hla] at hBA hst
  rw [← hlb] at hBB hst
  rw [str_toList, str_toList] at hst
  have g1 : (la == lb) = false := by simpa using hst
  have g2 : (la != lb) = true := by simpa using hst
  clear hla hlb hst FA FB hne
  have hen := fun w => run_eql_nil_nil' (P := Try.prog) w Try.underlying33
  have lA := lt_of_block kA
  have lB := lt_of_block kB
  have a0 := blk_cell kA 0
  have a1 := blk_cell kA 1
  have a2 := blk_cell kA 2
  have a3 := blk_cell kA 3
  have a4 := blk_cell kA 4
  have a5 := blk_cell kA 5
  have a6 := blk_cell kA 6
  have b0 := blk_cell kB 0
  have b1 := blk_cell kB 1
  have b2 := blk_cell kB 2
  have b3 := blk_cell kB 3
  have b4 := blk_cell kB 4
  have b5 := blk_cell kB 5
  have b6 := blk_cell kB 6
  simp only [List.getElem?_toArray, List.getElem?_cons_zero, List.getElem?_cons_succ] at a0 a1 a2 a3 a4 a5 a6 b0 b1 b2 b3 b4 b5 b6
  clear kA kB sa sb hx
  ((first | refine wp_region_more (by kernel_rfl) (by kernel_rfl) ?_ | refine wp_region_ext (by kernel_rfl) (by kernel_rfl) ?_); (try dsimp only [append_cons', append_nil']); (repeat (go_big_quiet_step ((first | (go_at_call 7; with_reducible refine Calls.more_of (hIA.out _ (ext_more _ _))) | (go_at_call 7; with_reducible refine Calls.more_of (hIB.out _ (ext_more _ _))) | (go_at_call 9; with_reducible refine Calls.more_of (hBA.out _ (ext_more _ _))) | (go_at_call 9; with_reducible refine Calls.more_of (hBB.out _ (ext_more _ _))) | (go_at_call 11; with_reducible refine Calls.more_of (hSM.out _ (ext_more _ _))))))); refine wpQuiet_nil ?_; rintro _ ⟨pq, rfl⟩)
  go_wp2
  go_returns
  exact ⟨rfl, hE0.out.trans (HX.out.more _)⟩
theorem walk (which n : Int) (h0 : 0 ≤ which) (h1 : which ≤ 255) (n0 : 0 ≤ n) (n1 : n ≤ 255) (w : World) : Calls Try.prog 4 #[.int .u8 which, .int .u8 n] w (Yields w (.bool true)) := by
  have hn : n % 4 = 0 ∨ n % 4 = 1 ∨ n % 4 = 2 ∨ n % 4 = 3 := by omega
  rcases (show which % 9 = 0 ∨ which % 9 = 1 ∨ which % 9 = 2 ∨ which % 9 = 3 ∨ which % 9 = 4 ∨ which % 9 = 5 ∨ which % 9 = 6 ∨ which % 9 = 7 ∨ which % 9 = 8 by omega) with h | h | h | h | h | h | h | h | h
  · rcases hn with g | g | g | g
    · exact walk0a which n h0 h1 n0 n1 h g w
    · exact walk0b which n h0 h1 n0 n1 h g w
    · exact walk0c which n h0 h1 n0 n1 h g w
    · exact walk0d which n h0 h1 n0 n1 h g w
  · rcases hn with g | g | g | g
    · exact walk1a which n h0 h1 n0 n1 h g w
    · exact walk1b which n h0 h1 n0 n1 h g w
    · exact walk1c which n h0 h1 n0 n1 h g w
    · exact walk1d which n h0 h1 n0 n1 h g w
  · rcases hn with g | g | g | g
    · exact walk2a which n h0 h1 n0 n1 h g w
    · exact walk2b which n h0 h1 n0 n1 h g w
    · exact walk2c which n h0 h1 n0 n1 h g w
    · exact walk2d which n h0 h1 n0 n1 h g w
  · rcases hn with g | g | g | g
    · exact walk3a which n h0 h1 n0 n1 h g w
    · exact walk3b which n h0 h1 n0 n1 h g w
    · exact walk3c which n h0 h1 n0 n1 h g w
    · exact walk3d which n h0 h1 n0 n1 h g w
  · rcases hn with g | g | g | g
    · exact walk4a which n h0 h1 n0 n1 h g w
    · exact walk4b which n h0 h1 n0 n1 h g w
    · exact walk4c which n h0 h1 n0 n1 h g w
    · exact walk4d which n h0 h1 n0 n1 h g w
  · rcases hn with g | g | g | g
    · exact walk5a which n h0 h1 n0 n1 h g w
    · exact walk5b which n h0 h1 n0 n1 h g w
    · exact walk5c which n h0 h1 n0 n1 h g w
    · exact walk5d which n h0 h1 n0 n1 h g w
  · rcases hn with g | g | g | g
    · exact walk6a which n h0 h1 n0 n1 h g w
    · exact walk6b which n h0 h1 n0 n1 h g w
    · exact walk6c which n h0 h1 n0 n1 h g w
    · exact walk6d which n h0 h1 n0 n1 h g w
  · rcases hn with g | g | g | g
    · exact walk7a which n h0 h1 n0 n1 h g w
    · exact walk7b which n h0 h1 n0 n1 h g w
    · exact walk7c which n h0 h1 n0 n1 h g w
    · exact walk7d which n h0 h1 n0 n1 h g w
  · rcases hn with g | g | g | g
    · exact walk8a which n h0 h1 n0 n1 h g w
    · exact walk8b which n h0 h1 n0 n1 h g w
    · exact walk8c which n h0 h1 n0 n1 h g w
    · exact walk8d which n h0 h1 n0 n1 h g w

set_option linter.unusedVariables false in
set_option maxRecDepth 100000 in
theorem lifted (os : Os) (started : os.Started) (H : Type) (enc : TypeId × Value → H) :
    ReturnsInHanded {} Try.checked os 4 .any (Rows.scriptUnlikeSpec.pre6 enc Try.prog Try.f4 Rows.scriptUnlikeRow.domain false) (Rows.scriptUnlikeSpec.post enc Try.prog Try.f4 false true false false) := by
  refine returnsInHanded_of_change (C := Try.checked) Own.own started (by kernel_rfl) Try.func4
    (ChangeSpec.witness6 (enc := enc) (C := Try.checked) false ⟨#[], #[.int .u8 0, .int .u8 0], []⟩ 8 (by kernel_rfl) (by kernel_rfl) (by kernel_rfl) (by kernel_rfl)) ?_
  intro W base args ds gs before hval0 hW hcnd _
  have hval : ∀ (j : Nat) t v, Try.f4.params[j]? = some t → args[j]? = some v → Value.okWide Try.prog W .any base t v := hval0
  have hW' := hW
  obtain ⟨p, q, hA0, hV, rfl, hfz, hnd⟩ := hW
  have hA : DataW.TrodAll enc Try.prog W 0 (fun _ => true) true Try.f4.params.toList args.toList ds p := hA0
  rw [Try.params4] at hA hval
  obtain ⟨v0, vs0, d0, ds0, p0, q0, hargs, rfl, rfl, h0, r0⟩ := trodAll_cons hA
  obtain ⟨v1, vs1, d1, ds1, p1, q1, rfl, rfl, rfl, h1, r1⟩ := trodAll_cons r0
  obtain ⟨rfl, rfl, rfl⟩ := trodAll_nil r1
  obtain rfl : args = #[v0, v1] := by cases args; simp_all
  obtain ⟨rfl, rfl⟩ := trodVars_none hV
  have k0 := h0
  have lt0 : ∀ x ∈ p0, x.block < W.heap.size := by obtain ⟨m, hm⟩ := k0; exact DataW.trod_lt m _ _ _ hm
  have k1 := h1
  have lt1 : ∀ x ∈ p1, x.block < W.heap.size := by obtain ⟨m, hm⟩ := k1; exact DataW.trod_lt m _ _ _ hm
  obtain ⟨a, rfl, rfl, rfl, wa⟩ := open_int Try.underlying5 (hval 0 5 v0 rfl rfl) h0
  obtain ⟨n, rfl, rfl, rfl, wn⟩ := open_int Try.underlying5 (hval 1 5 v1 rfl rfl) h1
  have ba := bounds_u8 wa
  have bn := bounds_u8 wn
  clear hA0 hval0
  refine (walk a n (by omega) (by omega) (by omega) (by omega) W).mono fun e W' ⟨he, hx⟩ => ?_
  subst he
  exact ⟨_, rfl, _, _, _, [], _, [], hW', trodAll_mk1 (shut_bool Try.underlying4 _), (trodAll_cons_mk (Below.trod Own.laidOut (by kernel_rfl) (of_decide_eq_true (by kernel_rfl)) k0 hx.below lt0) (trodAll_cons_mk (Below.trod Own.laidOut (by kernel_rfl) (of_decide_eq_true (by kernel_rfl)) k1 hx.below lt1) trodAll_mk0)), rfl, hx.below.frame _, fun h => by cases h⟩

theorem proved : Rows.ScriptUnlikeSaid :=
  OpenClaim.holds_of_wide 4 Try.f4 rfl rfl rfl rfl rfl rfl rfl ⟨rfl, rfl, rfl, rfl, rfl⟩ rfl rfl rfl rfl rfl (by kernel_rfl) Try.func4 (by kernel_rfl)
    (of_decide_eq_true (by kernel_rfl)) (by unfold Func.isWrapper; first | (rw [if_pos (by decide +kernel)]; kernel_rfl) | (rw [if_neg (by decide +kernel)]; exact ⟨rfl, rfl⟩))
    (fun os started H enc _ => lifted os started H enc)

end scriptUnlike
end Go.Proofs.Ytbllibgddiiboaa
