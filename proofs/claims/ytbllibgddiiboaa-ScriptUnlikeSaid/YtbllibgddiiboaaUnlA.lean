/- ScriptUnlike, by cases. -/
import Derived.Test.YtbllibgddiiboaaScU
import Derived.Test.YtbllibgddiiboaaOwn2
import Derived.Deep.CutRange
import Derived.Deep.QuietTactic
import Derived.BigQuiet
import Derived.BigRegion
namespace Go.Proofs.Ytbllibgddiiboaa
open Go.RowKit
set_option linter.unusedVariables false

namespace scriptUnlike

def b0a : Scr := ⟨baseC, 21, nilS, nilA⟩
set_option maxRecDepth 100000 in
set_option maxHeartbeats 8000000 in
theorem walk0a (which n : Int) (hw0 : 0 ≤ which) (hw1 : which ≤ 255) (hn0 : 0 ≤ n) (hn1 : n ≤ 255) (hk : which % 9 = 0) (hn : n % 4 = 0) (w : World) :
    Calls Try.prog 4 #[.int .u8 which, .int .u8 n] w (Yields w (.bool true)) := by
  have hmk := mkAxns 1 1 rfl (by decide)
  go_enter Try.func4, Try.ntmps4
  go_wp2_with fail
  refine (known4_any _).yields ?_
  intro p0
  have hE0 := hid (ext_more w p0)
  generalize more w p0 = w0 at *
  go_wp2_with fail
  refine (help_any _ 20).mono ?_
  rintro e w1 ⟨Na, Sa, Va, rfl, ha, xa⟩
  go_wp2_with fail
  refine (help_any _ 20).mono ?_
  rintro e w2 ⟨Nb, Sb, Vb, rfl, hb, xb⟩
  have lna := lt_of_block (ha.lies.block (b := 13) rfl)
  have bsa := lt_of_block ha.sb
  have bva := lt_of_block ha.vb
  have hw12 := xb.size
  go_upto_region 5 with (fail)
  refine wp_forget (fun v => HelpS w0.heap.size Na Sa Va baseRO nil4 nil4 v ∧ HelpS w1.heap.size Nb Sb Vb baseRO nil4 nil4 v ∧ v.heap[w2.heap.size]? = some (helpO Na Sa Va 20) ∧ v.heap[w2.heap.size + 1]? = some (helpO Nb Sb Vb 20) ∧ Ext w0 v ∧ Nb + 13 < w2.heap.size ∧ Sb < w2.heap.size ∧ Vb < w2.heap.size)
    ⟨ha.ext (xb.trans (Ext.alloc (Ext.alloc (Ext.refl _) _) _)), hb.ext (Ext.alloc (Ext.alloc (Ext.refl _) _) _), block_ext (Ext.alloc (Ext.refl _) _) (heap_alloc_new w2 (helpO Na Sa Va 20)), heap_new2 w2 (helpO Na Sa Va 20) (helpO Nb Sb Vb 20), (xa.trans xb).trans (Ext.alloc (Ext.alloc (Ext.refl _) _) _), lt_of_block (hb.lies.block (b := 13) rfl), lt_of_block hb.sb, lt_of_block hb.vb⟩ ?_
  clear ha hb xa xb
  generalize w2.heap.size = A at *
  clear w2
  rintro v ⟨ha, hb, hA, hB, xv, b13, bsb, bvb⟩
  have HA := hid ha
  have HB := hid hb
  have XV := hid xv
  have HBA := hid hA
  have HBB := hid hB
  have hNa := ha.hN
  have hSa := ha.hS
  have hNb := hb.hN
  have hSb := hb.hS
  have hVb := hb.hV
  have lB := lt_of_block hB
  have bs := lt_of_block hb.sb
  have bv := lt_of_block hb.vb
  have bs2 := lt_of_block ha.sb
  have sa1 := blk_cell ha.sb 1
  have saf := blk_free ha.sb 1
  have sc1 := blk_cell hb.sb 1
  have vc2 := blk_cell hb.vb 2
  have sf1 := blk_free hb.sb 1
  have vf2 := blk_free hb.vb 2
  have pc : v.cell? ⟨Nb + 3, 0, none⟩ = some (.slice (some ⟨Nb + 1, 0, none⟩) 4 4) := hb.lies.at (b := 3) (j := 0) (v := .s 1 4) rfl
  have rc : v.cell? ⟨Nb + 1, 1, none⟩ = some (.int .i64 2) := hb.lies.at (b := 1) (j := 1) (v := .i 2) rfl
  have rf : v.frozen? ⟨Nb + 1, 1, none⟩ = false := hb.lies.free (b := 1) (j := 1) (v := .i 2) rfl
  have d31 : v.cell? ⟨Nb + 13, 31, none⟩ = some (.int .u64 3) := hb.lies.at (b := 13) (j := 31) (v := .u 3) rfl
  have f31 : v.frozen? ⟨Nb + 13, 31, none⟩ = false := hb.lies.free (b := 13) (j := 31) (v := .u 3) rfl
  have d25 : v.cell? ⟨Nb + 13, 25, none⟩ = some (.int .i64 4) := hb.lies.at (b := 13) (j := 25) (v := .i 4) rfl
  have f25 : v.frozen? ⟨Nb + 13, 25, none⟩ = false := hb.lies.free (b := 13) (j := 25) (v := .i 4) rfl
  have d02 : v.cell? ⟨Nb + 13, 2, none⟩ = some (.slice (some ⟨Nb + 6, 0, none⟩) 2 2) := hb.lies.at (b := 13) (j := 2) (v := .s 6 2) rfl
  have f02 : v.frozen? ⟨Nb + 13, 2, none⟩ = false := hb.lies.free (b := 13) (j := 2) (v := .s 6 2) rfl
  have d33 : v.cell? ⟨Nb + 13, 33, none⟩ = some (.slice (some ⟨Nb + 12, 0, none⟩) 3 3) := hb.lies.at (b := 13) (j := 33) (v := .s 12 3) rfl
  have f33 : v.frozen? ⟨Nb + 13, 33, none⟩ = false := hb.lies.free (b := 13) (j := 33) (v := .s 12 3) rfl
  have ln13 : Nb + 13 < v.heap.size := by omega
  have q2 : v.cell? ⟨A + 1, 2, none⟩ = some (.slice (some ⟨Nb + 3, 0, none⟩) 2 2) := blk_cell hB 2
  have q3 : v.cell? ⟨A + 1, 3, none⟩ = some (.slice (some ⟨Nb + 13, 0, none⟩) 4 4) := blk_cell hB 3
  have q4 : v.cell? ⟨A + 1, 4, none⟩ = some (.int .i64 20) := blk_cell hB 4
  have q5 : v.cell? ⟨A + 1, 5, none⟩ = some (.slice (some ⟨Sb, 0, none⟩) 4 4) := blk_cell hB 5
  have q6 : v.cell? ⟨A + 1, 6, none⟩ = some (.slice (some ⟨Vb, 0, none⟩) 4 4) := blk_cell hB 6
  have qf : v.frozen? ⟨A + 1, 4, none⟩ = false := blk_free hB 4
  have r5 : v.cell? ⟨A, 5, none⟩ = some (.slice (some ⟨Sa, 0, none⟩) 4 4) := blk_cell hA 5
  have lA : A < v.heap.size := by omega
  simp only [nil4, List.getElem?_toArray, List.getElem?_cons_zero, List.getElem?_cons_succ] at sa1 sc1 vc2
  clear ha hb hA hB xv
  go_upto_region 24 with (fail)
  refine wp_forget (fun y => SV Na Sa Va 20 sZ y ∧ SV Nb Sb Vb 21 b0a y ∧ y.heap[A]? = some (helpO Na Sa Va 20) ∧ y.heap[A + 1]? = some (helpO Nb Sb Vb 21) ∧ Ext w0 y) ⟨?_, ?_, block_ext (Ext.refl _) ((Below.heap_setCell _ _ _ _ (by show A ≠ A + 1; omega)).trans HBA.out), blk_set HBB.out 4 _, (XV.out.setCell (by show w0.heap.size ≤ A + 1; omega) _)⟩ ?_
  · exact ((HA.out.aside (b := A + 1) _ (by omega) (by omega) (by omega)).ext (Ext.refl _)).script baseC_of rfl rfl (nilS_v _) (nilA_v _)
  · exact (HB.out.aside (b := A + 1) _ (by omega) (by omega) (by omega)).script baseC_of rfl rfl (nilS_v _) (nilA_v _)
  clear HA HB XV HBA HBB hNa hSa hNb hSb hVb lB bs bv bs2 sa1 saf sc1 vc2 sf1 vf2 pc rc rf d31 f31 d25 f25 d02 f02 d33 f33 ln13 q2 q3 q4 q5 q6 qf r5 lA hmk b13 bsb bvb
  rintro y ⟨sa, sb, kA, kB, hx⟩
  (try clear v)
  have HX := hid hx
  have FA : ScFit sZ := .of (by kernel_rfl) (by kernel_rfl) (by kernel_rfl)
  have FB : ScFit b0a := .of (by kernel_rfl) (by kernel_rfl) (by kernel_rfl)
  have hne : sZ ≠ b0a := fun h => absurd (congrArg (fun s : Scr => s.horizon) h) (by decide)
  have hIA := hid (fun z (hz : Ext y z) => show Calls Try.prog 7 #[helpV Na Sa Va 20] z (Yields z .nilIface) from sIs FA.is (sa.ext hz))
  have hIB := hid (fun z (hz : Ext y z) => show Calls Try.prog 7 #[helpV Nb Sb Vb 21] z (Yields z .nilIface) from sIs FB.is (sb.ext hz))
  have hBA := hid (fun z (hz : Ext y z) => gBytes FA.is FA.inn FA.len (sa.ext hz))
  have hBB := hid (fun z (hz : Ext y z) => gBytes FB.is FB.inn FB.len (sb.ext hz))
  have hSM := hid (fun z (hz : Ext y z) => uSame hne (sa.ext hz) (sb.ext hz))
  have hst := fit_ne FA FB hne
  obtain ⟨la, hla⟩ : ∃ l, l = allBytes sZ := ⟨_, rfl⟩
  obtain ⟨lb, hlb⟩ : ∃ l, l = allBytes b0a := ⟨_, rfl⟩
  rw [← hla] at hBA hst
  rw [← hlb] at hBB hst
  rw [str_toList, str_toList] at hst
  have g1 : (la == lb) = false := by simpa using hst
  have g2 : (la != lb) = true := by simpa using hst
  clear hla hlb hst FA FB hne
  have hen := fun w => run_eql_nil_nil' (P := Try.prog) w Try.underlying33
  have lA := lt_of_block kA
  have lB := lt_of_block kB
  have a0 := blk_cell kA 0
  have a1 := blk_cell kA 1
  have a2 := blk_cell kA 2
  have a3 := blk_cell kA 3
  have a4 := blk_cell kA 4
  have a5 := blk_cell kA 5
  have a6 := blk_cell kA 6
  have b0 := blk_cell kB 0
  have b1 := blk_cell kB 1
  have b2 := blk_cell kB 2
  have b3 := blk_cell kB 3
  have b4 := blk_cell kB 4
  have b5 := blk_cell kB 5
  have b6 := blk_cell kB 6
  simp only [List.getElem?_toArray, List.getElem?_cons_zero, List.getElem?_cons_succ] at a0 a1 a2 a3 a4 a5 a6 b0 b1 b2 b3 b4 b5 b6
  clear kA kB sa sb hx
  ((first | refine wp_region_more (by kernel_rfl) (by kernel_rfl) ?_ | refine wp_region_ext (by kernel_rfl) (by kernel_rfl) ?_); (try dsimp only [append_cons', append_nil']); (repeat (go_big_quiet_step ((first | (go_at_call 7; with_reducible refine Calls.more_of (hIA.out _ (ext_more _ _))) | (go_at_call 7; with_reducible refine Calls.more_of (hIB.out _ (ext_more _ _))) | (go_at_call 9; with_reducible refine Calls.more_of (hBA.out _ (ext_more _ _))) | (go_at_call 9; with_reducible refine Calls.more_of (hBB.out _ (ext_more _ _))) | (go_at_call 11; with_reducible refine Calls.more_of (hSM.out _ (ext_more _ _))))))); refine wpQuiet_nil ?_; rintro _ ⟨pq, rfl⟩)
  go_wp2
  go_returns
  exact ⟨rfl, hE0.out.trans (HX.out.more _)⟩

def b0b : Scr := ⟨baseC, 22, nilS, nilA⟩
set_option maxRecDepth 100000 in
set_option maxHeartbeats 8000000 in
theorem walk0b (which n : Int) (hw0 : 0 ≤ which) (hw1 : which ≤ 255) (hn0 : 0 ≤ n) (hn1 : n ≤ 255) (hk : which % 9 = 0) (hn : n % 4 = 1) (w : World) :
    Calls Try.prog 4 #[.int .u8 which, .int .u8 n] w (Yields w (.bool true)) := by
  have hmk := mkAxns 2 2 rfl (by decide)
  go_enter Try.func4, Try.ntmps4
  go_wp2_with fail
  refine (known4_any _).yields ?_
  intro p0
  have hE0 := hid (ext_more w p0)
  generalize more w p0 = w0 at *
  go_wp2_with fail
  refine (help_any _ 20).mono ?_
  rintro e w1 ⟨Na, Sa, Va, rfl, ha, xa⟩
  go_wp2_with fail
  refine (help_any _ 20).mono ?_
  rintro e w2 ⟨Nb, Sb, Vb, rfl, hb, xb⟩
  have lna := lt_of_block (ha.lies.block (b := 13) rfl)
  have bsa := lt_of_block ha.sb
  have bva := lt_of_block ha.vb
  have hw12 := xb.size
  go_upto_region 5 with (fail)
  refine wp_forget (fun v => HelpS w0.heap.size Na Sa Va baseRO nil4 nil4 v ∧ HelpS w1.heap.size Nb Sb Vb baseRO nil4 nil4 v ∧ v.heap[w2.heap.size]? = some (helpO Na Sa Va 20) ∧ v.heap[w2.heap.size + 1]? = some (helpO Nb Sb Vb 20) ∧ Ext w0 v ∧ Nb + 13 < w2.heap.size ∧ Sb < w2.heap.size ∧ Vb < w2.heap.size)
    ⟨ha.ext (xb.trans (Ext.alloc (Ext.alloc (Ext.refl _) _) _)), hb.ext (Ext.alloc (Ext.alloc (Ext.refl _) _) _), block_ext (Ext.alloc (Ext.refl _) _) (heap_alloc_new w2 (helpO Na Sa Va 20)), heap_new2 w2 (helpO Na Sa Va 20) (helpO Nb Sb Vb 20), (xa.trans xb).trans (Ext.alloc (Ext.alloc (Ext.refl _) _) _), lt_of_block (hb.lies.block (b := 13) rfl), lt_of_block hb.sb, lt_of_block hb.vb⟩ ?_
  clear ha hb xa xb
  generalize w2.heap.size = A at *
  clear w2
  rintro v ⟨ha, hb, hA, hB, xv, b13, bsb, bvb⟩
  have HA := hid ha
  have HB := hid hb
  have XV := hid xv
  have HBA := hid hA
  have HBB := hid hB
  have hNa := ha.hN
  have hSa := ha.hS
  have hNb := hb.hN
  have hSb := hb.hS
  have hVb := hb.hV
  have lB := lt_of_block hB
  have bs := lt_of_block hb.sb
  have bv := lt_of_block hb.vb
  have bs2 := lt_of_block ha.sb
  have sa1 := blk_cell ha.sb 1
  have saf := blk_free ha.sb 1
  have sc1 := blk_cell hb.sb 1
  have vc2 := blk_cell hb.vb 2
  have sf1 := blk_free hb.sb 1
  have vf2 := blk_free hb.vb 2
  have pc : v.cell? ⟨Nb + 3, 0, none⟩ = some (.slice (some ⟨Nb + 1, 0, none⟩) 4 4) := hb.lies.at (b := 3) (j := 0) (v := .s 1 4) rfl
  have rc : v.cell? ⟨Nb + 1, 1, none⟩ = some (.int .i64 2) := hb.lies.at (b := 1) (j := 1) (v := .i 2) rfl
  have rf : v.frozen? ⟨Nb + 1, 1, none⟩ = false := hb.lies.free (b := 1) (j := 1) (v := .i 2) rfl
  have d31 : v.cell? ⟨Nb + 13, 31, none⟩ = some (.int .u64 3) := hb.lies.at (b := 13) (j := 31) (v := .u 3) rfl
  have f31 : v.frozen? ⟨Nb + 13, 31, none⟩ = false := hb.lies.free (b := 13) (j := 31) (v := .u 3) rfl
  have d25 : v.cell? ⟨Nb + 13, 25, none⟩ = some (.int .i64 4) := hb.lies.at (b := 13) (j := 25) (v := .i 4) rfl
  have f25 : v.frozen? ⟨Nb + 13, 25, none⟩ = false := hb.lies.free (b := 13) (j := 25) (v := .i 4) rfl
  have d02 : v.cell? ⟨Nb + 13, 2, none⟩ = some (.slice (some ⟨Nb + 6, 0, none⟩) 2 2) := hb.lies.at (b := 13) (j := 2) (v := .s 6 2) rfl
  have f02 : v.frozen? ⟨Nb + 13, 2, none⟩ = false := hb.lies.free (b := 13) (j := 2) (v := .s 6 2) rfl
  have d33 : v.cell? ⟨Nb + 13, 33, none⟩ = some (.slice (some ⟨Nb + 12, 0, none⟩) 3 3) := hb.lies.at (b := 13) (j := 33) (v := .s 12 3) rfl
  have f33 : v.frozen? ⟨Nb + 13, 33, none⟩ = false := hb.lies.free (b := 13) (j := 33) (v := .s 12 3) rfl
  have ln13 : Nb + 13 < v.heap.size := by omega
  have q2 : v.cell? ⟨A + 1, 2, none⟩ = some (.slice (some ⟨Nb + 3, 0, none⟩) 2 2) := blk_cell hB 2
  have q3 : v.cell? ⟨A + 1, 3, none⟩ = some (.slice (some ⟨Nb + 13, 0, none⟩) 4 4) := blk_cell hB 3
  have q4 : v.cell? ⟨A + 1, 4, none⟩ = some (.int .i64 20) := blk_cell hB 4
  have q5 : v.cell? ⟨A + 1, 5, none⟩ = some (.slice (some ⟨Sb, 0, none⟩) 4 4) := blk_cell hB 5
  have q6 : v.cell? ⟨A + 1, 6, none⟩ = some (.slice (some ⟨Vb, 0, none⟩) 4 4) := blk_cell hB 6
  have qf : v.frozen? ⟨A + 1, 4, none⟩ = false := blk_free hB 4
  have r5 : v.cell? ⟨A, 5, none⟩ = some (.slice (some ⟨Sa, 0, none⟩) 4 4) := blk_cell hA 5
  have lA : A < v.heap.size := by omega
  simp only [nil4, List.getElem?_toArray, List.getElem?_cons_zero, List.getElem?_cons_succ] at sa1 sc1 vc2
  clear ha hb hA hB xv
  go_upto_region 24 with (fail)
  refine wp_forget (fun y => SV Na Sa Va 20 sZ y ∧ SV Nb Sb Vb 22 b0b y ∧ y.heap[A]? = some (helpO Na Sa Va 20) ∧ y.heap[A + 1]? = some (helpO Nb Sb Vb 22) ∧ Ext w0 y) ⟨?_, ?_, block_ext (Ext.refl _) ((Below.heap_setCell _ _ _ _ (by show A ≠ A + 1; omega)).trans HBA.out), blk_set HBB.out 4 _, (XV.out.setCell (by show w0.heap.size ≤ A + 1; omega) _)⟩ ?_
  · exact ((HA.out.aside (b := A + 1) _ (by omega) (by omega) (by omega)).ext (Ext.refl _)).script baseC_of rfl rfl (nilS_v _) (nilA_v _)
  · exact (HB.out.aside (b := A + 1) _ (by omega) (by omega) (by omega)).script baseC_of rfl rfl (nilS_v _) (nilA_v _)
  clear HA HB XV HBA HBB hNa hSa hNb hSb hVb lB bs bv bs2 sa1 saf sc1 vc2 sf1 vf2 pc rc rf d31 f31 d25 f25 d02 f02 d33 f33 ln13 q2 q3 q4 q5 q6 qf r5 lA hmk b13 bsb bvb
  rintro y ⟨sa, sb, kA, kB, hx⟩
  (try clear v)
  have HX := hid hx
  have FA : ScFit sZ := .of (by kernel_rfl) (by kernel_rfl) (by kernel_rfl)
  have FB : ScFit b0b := .of (by kernel_rfl) (by kernel_rfl) (by kernel_rfl)
  have hne : sZ ≠ b0b := fun h => absurd (congrArg (fun s : Scr => s.horizon) h) (by decide)
  have hIA := hid (fun z (hz : Ext y z) => show Calls Try.prog 7 #[helpV Na Sa Va 20] z (Yields z .nilIface) from sIs FA.is (sa.ext hz))
  have hIB := hid (fun z (hz : Ext y z) => show Calls Try.prog 7 #[helpV Nb Sb Vb 22] z (Yields z .nilIface) from sIs FB.is (sb.ext hz))
  have hBA := hid (fun z (hz : Ext y z) => gBytes FA.is FA.inn FA.len (sa.ext hz))
  have hBB := hid (fun z (hz : Ext y z) => gBytes FB.is FB.inn FB.len (sb.ext hz))
  have hSM := hid (fun z (hz : Ext y z) => uSame hne (sa.ext hz) (sb.ext hz))
  have hst := fit_ne FA FB hne
  obtain ⟨la, hla⟩ : ∃ l, l = allBytes sZ := ⟨_, rfl⟩
  obtain ⟨lb, hlb⟩ : ∃ l, l = allBytes b0b := ⟨_, rfl⟩
  rw [← hla] at hBA hst
  rw [← hlb] at hBB hst
  rw [str_toList, str_toList] at hst
  have g1 : (la == lb) = false := by simpa using hst
  have g2 : (la != lb) = true := by simpa using hst
  clear hla hlb hst FA FB hne
  have hen := fun w => run_eql_nil_nil' (P := Try.prog) w Try.underlying33
  have lA := lt_of_block kA
  have lB := lt_of_block kB
  have a0 := blk_cell kA 0
  have a1 := blk_cell kA 1
  have a2 := blk_cell kA 2
  have a3 := blk_cell kA 3
  have a4 := blk_cell kA 4
  have a5 := blk_cell kA 5
  have a6 := blk_cell kA 6
  have b0 := blk_cell kB 0
  have b1 := blk_cell kB 1
  have b2 := blk_cell kB 2
  have b3 := blk_cell kB 3
  have b4 := blk_cell kB 4
  have b5 := blk_cell kB 5
  have b6 := blk_cell kB 6
  simp only [List.getElem?_toArray, List.getElem?_cons_zero, List.getElem?_cons_succ] at a0 a1 a2 a3 a4 a5 a6 b0 b1 b2 b3 b4 b5 b6
  clear kA kB sa sb hx
  ((first | refine wp_region_more (by kernel_rfl) (by kernel_rfl) ?_ | refine wp_region_ext (by kernel_rfl) (by kernel_rfl) ?_); (try dsimp only [append_cons', append_nil']); (repeat (go_big_quiet_step ((first | (go_at_call 7; with_reducible refine Calls.more_of (hIA.out _ (ext_more _ _))) | (go_at_call 7; with_reducible refine Calls.more_of (hIB.out _ (ext_more _ _))) | (go_at_call 9; with_reducible refine Calls.more_of (hBA.out _ (ext_more _ _))) | (go_at_call 9; with_reducible refine Calls.more_of (hBB.out _ (ext_more _ _))) | (go_at_call 11; with_reducible refine Calls.more_of (hSM.out _ (ext_more _ _))))))); refine wpQuiet_nil ?_; rintro _ ⟨pq, rfl⟩)
  go_wp2
  go_returns
  exact ⟨rfl, hE0.out.trans (HX.out.more _)⟩

def b0c : Scr := ⟨baseC, 23, nilS, nilA⟩
set_option maxRecDepth 100000 in
set_option maxHeartbeats 8000000 in
theorem walk0c (which n : Int) (hw0 : 0 ≤ which) (hw1 : which ≤ 255) (hn0 : 0 ≤ n) (hn1 : n ≤ 255) (hk : which % 9 = 0) (hn : n % 4 = 2) (w : World) :
    Calls Try.prog 4 #[.int .u8 which, .int .u8 n] w (Yields w (.bool true)) := by
  have hmk := mkAxns 3 3 rfl (by decide)
  go_enter Try.func4, Try.ntmps4
  go_wp2_with fail
  refine (known4_any _).yields ?_
  intro p0
  have hE0 := hid (ext_more w p0)
  generalize more w p0 = w0 at *
  go_wp2_with fail
  refine (help_any _ 20).mono ?_
  rintro e w1 ⟨Na, Sa, Va, rfl, ha, xa⟩
  go_wp2_with fail
  refine (help_any _ 20).mono ?_
  rintro e w2 ⟨Nb, Sb, Vb, rfl, hb, xb⟩
  have lna := lt_of_block (ha.lies.block (b := 13) rfl)
  have bsa := lt_of_block ha.sb
  have bva := lt_of_block ha.vb
  have hw12 := xb.size
  go_upto_region 5 with (fail)
  refine wp_forget (fun v => HelpS w0.heap.size Na Sa Va baseRO nil4 nil4 v ∧ HelpS w1.heap.size Nb Sb Vb baseRO nil4 nil4 v ∧ v.heap[w2.heap.size]? = some (helpO Na Sa Va 20) ∧ v.heap[w2.heap.size + 1]? = some (helpO Nb Sb Vb 20) ∧ Ext w0 v ∧ Nb + 13 < w2.heap.size ∧ Sb < w2.heap.size ∧ Vb < w2.heap.size)
    ⟨ha.ext (xb.trans (Ext.alloc (Ext.alloc (Ext.refl _) _) _)), hb.ext (Ext.alloc (Ext.alloc (Ext.refl _) _) _), block_ext (Ext.alloc (Ext.refl _) _) (heap_alloc_new w2 (helpO Na Sa Va 20)), heap_new2 w2 (helpO Na Sa Va 20) (helpO Nb Sb Vb 20), (xa.trans xb).trans (Ext.alloc (Ext.alloc (Ext.refl _) _) _), lt_of_block (hb.lies.block (b := 13) rfl), lt_of_block hb.sb, lt_of_block hb.vb⟩ ?_
  clear ha hb xa xb
  generalize w2.heap.size = A at *
  clear w2
  rintro v ⟨ha, hb, hA, hB, xv, b13, bsb, bvb⟩
  have HA := hid ha
  have HB := hid hb
  have XV := hid xv
  have HBA := hid hA
  have HBB := hid hB
  have hNa := ha.hN
  have hSa := ha.hS
  have hNb := hb.hN
  have hSb := hb.hS
  have hVb := hb.hV
  have lB := lt_of_block hB
  have bs := lt_of_block hb.sb
  have bv := lt_of_block hb.vb
  have bs2 := lt_of_block ha.sb
  have sa1 := blk_cell ha.sb 1
  have saf := blk_free ha.sb 1
  have sc1 := blk_cell hb.sb 1
  have vc2 := blk_cell hb.vb 2
  have sf1 := blk_free hb.sb 1
  have vf2 := blk_free hb.vb 2
  have pc : v.cell? ⟨Nb + 3, 0, none⟩ = some (.slice (some ⟨Nb + 1, 0, none⟩) 4 4) := hb.lies.at (b := 3) (j := 0) (v := .s 1 4) rfl
  have rc : v.cell? ⟨Nb + 1, 1, none⟩ = some (.int .i64 2) := hb.lies.at (b := 1) (j := 1) (v := .i 2) rfl
  have rf : v.frozen? ⟨Nb + 1, 1, none⟩ = false := hb.lies.free (b := 1) (j := 1) (v := .i 2) rfl
  have d31 : v.cell? ⟨Nb + 13, 31, none⟩ = some (.int .u64 3) := hb.lies.at (b := 13) (j := 31) (v := .u 3) rfl
  have f31 : v.frozen? ⟨Nb + 13, 31, none⟩ = false := hb.lies.free (b := 13) (j := 31) (v := .u 3) rfl
  have d25 : v.cell? ⟨Nb + 13, 25, none⟩ = some (.int .i64 4) := hb.lies.at (b := 13) (j := 25) (v := .i 4) rfl
  have f25 : v.frozen? ⟨Nb + 13, 25, none⟩ = false := hb.lies.free (b := 13) (j := 25) (v := .i 4) rfl
  have d02 : v.cell? ⟨Nb + 13, 2, none⟩ = some (.slice (some ⟨Nb + 6, 0, none⟩) 2 2) := hb.lies.at (b := 13) (j := 2) (v := .s 6 2) rfl
  have f02 : v.frozen? ⟨Nb + 13, 2, none⟩ = false := hb.lies.free (b := 13) (j := 2) (v := .s 6 2) rfl
  have d33 : v.cell? ⟨Nb + 13, 33, none⟩ = some (.slice (some ⟨Nb + 12, 0, none⟩) 3 3) := hb.lies.at (b := 13) (j := 33) (v := .s 12 3) rfl
  have f33 : v.frozen? ⟨Nb + 13, 33, none⟩ = false := hb.lies.free (b := 13) (j := 33) (v := .s 12 3) rfl
  have ln13 : Nb + 13 < v.heap.size := by omega
  have q2 : v.cell? ⟨A + 1, 2, none⟩ = some (.slice (some ⟨Nb + 3, 0, none⟩) 2 2) := blk_cell hB 2
  have q3 : v.cell? ⟨A + 1, 3, none⟩ = some (.slice (some ⟨Nb + 13, 0, none⟩) 4 4) := blk_cell hB 3
  have q4 : v.cell? ⟨A + 1, 4, none⟩ = some (.int .i64 20) := blk_cell hB 4
  have q5 : v.cell? ⟨A + 1, 5, none⟩ = some (.slice (some ⟨Sb, 0, none⟩) 4 4) := blk_cell hB 5
  have q6 : v.cell? ⟨A + 1, 6, none⟩ = some (.slice (some ⟨Vb, 0, none⟩) 4 4) := blk_cell hB 6
  have qf : v.frozen? ⟨A + 1, 4, none⟩ = false := blk_free hB 4
  have r5 : v.cell? ⟨A, 5, none⟩ = some (.slice (some ⟨Sa, 0, none⟩) 4 4) := blk_cell hA 5
  have lA : A < v.heap.size := by omega
  simp only [nil4, List.getElem?_toArray, List.getElem?_cons_zero, List.getElem?_cons_succ] at sa1 sc1 vc2
  clear ha hb hA hB xv
  go_upto_region 24 with (fail)
  refine wp_forget (fun y => SV Na Sa Va 20 sZ y ∧ SV Nb Sb Vb 23 b0c y ∧ y.heap[A]? = some (helpO Na Sa Va 20) ∧ y.heap[A + 1]? = some (helpO Nb Sb Vb 23) ∧ Ext w0 y) ⟨?_, ?_, block_ext (Ext.refl _) ((Below.heap_setCell _ _ _ _ (by show A ≠ A + 1; omega)).trans HBA.out), blk_set HBB.out 4 _, (XV.out.setCell (by show w0.heap.size ≤ A + 1; omega) _)⟩ ?_
  · exact ((HA.out.aside (b := A + 1) _ (by omega) (by omega) (by omega)).ext (Ext.refl _)).script baseC_of rfl rfl (nilS_v _) (nilA_v _)
  · exact (HB.out.aside (b := A + 1) _ (by omega) (by omega) (by omega)).script baseC_of rfl rfl (nilS_v _) (nilA_v _)
  clear HA HB XV HBA HBB hNa hSa hNb hSb hVb lB bs bv bs2 sa1 saf sc1 vc2 sf1 vf2 pc rc rf d31 f31 d25 f25 d02 f02 d33 f33 ln13 q2 q3 q4 q5 q6 qf r5 lA hmk b13 bsb bvb
  rintro y ⟨sa, sb, kA, kB, hx⟩
  (try clear v)
  have HX := hid hx
  have FA : ScFit sZ := .of (by kernel_rfl) (by kernel_rfl) (by kernel_rfl)
  have FB : ScFit b0c := .of (by kernel_rfl) (by kernel_rfl) (by kernel_rfl)
  have hne : sZ ≠ b0c := fun h => absurd (congrArg (fun s : Scr => s.horizon) h) (by decide)
  have hIA := hid (fun z (hz : Ext y z) => show Calls Try.prog 7 #[helpV Na Sa Va 20] z (Yields z .nilIface) from sIs FA.is (sa.ext hz))
  have hIB := hid (fun z (hz : Ext y z) => show Calls Try.prog 7 #[helpV Nb Sb Vb 23] z (Yields z .nilIface) from sIs FB.is (sb.ext hz))
  have hBA := hid (fun z (hz : Ext y z) => gBytes FA.is FA.inn FA.len (sa.ext hz))
  have hBB := hid (fun z (hz : Ext y z) => gBytes FB.is FB.inn FB.len (sb.ext hz))
  have hSM := hid (fun z (hz : Ext y z) => uSame hne (sa.ext hz) (sb.ext hz))
  have hst := fit_ne FA FB hne
  obtain ⟨la, hla⟩ : ∃ l, l = allBytes sZ := ⟨_, rfl⟩
  obtain ⟨lb, hlb⟩ : ∃ l, l = allBytes b0c := ⟨_, rfl⟩
  rw [← hla] at hBA hst
  rw [← hlb] at hBB hst
  rw [str_toList, str_toList] at hst
  have g1 : (la == lb) = false := by simpa using hst
  have g2 : (la != lb) = true := by simpa using hst
  clear hla hlb hst FA FB hne
  have hen := fun w => run_eql_nil_nil' (P := Try.prog) w Try.underlying33
  have lA := lt_of_block kA
  have lB := lt_of_block kB
  have a0 := blk_cell kA 0
  have a1 := blk_cell kA 1
  have a2 := blk_cell kA 2
  have a3 := blk_cell kA 3
  have a4 := blk_cell kA 4
  have a5 := blk_cell kA 5
  have a6 := blk_cell kA 6
  have b0 := blk_cell kB 0
  have b1 := blk_cell kB 1
  have b2 := blk_cell kB 2
  have b3 := blk_cell kB 3
  have b4 := blk_cell kB 4
  have b5 := blk_cell kB 5
  have b6 := blk_cell kB 6
  simp only [List.getElem?_toArray, List.getElem?_cons_zero, List.getElem?_cons_succ] at a0 a1 a2 a3 a4 a5 a6 b0 b1 b2 b3 b4 b5 b6
  clear kA kB sa sb hx
  ((first | refine wp_region_more (by kernel_rfl) (by kernel_rfl) ?_ | refine wp_region_ext (by kernel_rfl) (by kernel_rfl) ?_); (try dsimp only [append_cons', append_nil']); (repeat (go_big_quiet_step ((first | (go_at_call 7; with_reducible refine Calls.more_of (hIA.out _ (ext_more _ _))) | (go_at_call 7; with_reducible refine Calls.more_of (hIB.out _ (ext_more _ _))) | (go_at_call 9; with_reducible refine Calls.more_of (hBA.out _ (ext_more _ _))) | (go_at_call 9; with_reducible refine Calls.more_of (hBB.out _ (ext_more _ _))) | (go_at_call 11; with_reducible refine Calls.more_of (hSM.out _ (ext_more _ _))))))); refine wpQuiet_nil ?_; rintro _ ⟨pq, rfl⟩)
  go_wp2
  go_returns
  exact ⟨rfl, hE0.out.trans (HX.out.more _)⟩

def b0d : Scr := ⟨baseC, 24, nilS, nilA⟩
set_option maxRecDepth 100000 in
set_option maxHeartbeats 8000000 in
theorem walk0d (which n : Int) (hw0 : 0 ≤ which) (hw1 : which ≤ 255) (hn0 : 0 ≤ n) (hn1 : n ≤ 255) (hk : which % 9 = 0) (hn : n % 4 = 3) (w : World) :
    Calls Try.prog 4 #[.int .u8 which, .int .u8 n] w (Yields w (.bool true)) := by
  have hmk := mkAxns 4 4 rfl (by decide)
  go_enter Try.func4, Try.ntmps4
  go_wp2_with fail
  refine (known4_any _).yields ?_
  intro p0
  have hE0 := hid (ext_more w p0)
  generalize more w p0 = w0 at *
  go_wp2_with fail
  refine (help_any _ 20).mono ?_
  rintro e w1 ⟨Na, Sa, Va, rfl, ha, xa⟩
  go_wp2_with fail
  refine (help_any _ 20).mono ?_
  rintro e w2 ⟨Nb, Sb, Vb, rfl, hb, xb⟩
  have lna := lt_of_block (ha.lies.block (b := 13) rfl)
  have bsa := lt_of_block ha.sb
  have bva := lt_of_block ha.vb
  have hw12 := xb.size
  go_upto_region 5 with (fail)
  refine wp_forget (fun v => HelpS w0.heap.size Na Sa Va baseRO nil4 nil4 v ∧ HelpS w1.heap.size Nb Sb Vb baseRO nil4 nil4 v ∧ v.heap[w2.heap.size]? = some (helpO Na Sa Va 20) ∧ v.heap[w2.heap.size + 1]? = some (helpO Nb Sb Vb 20) ∧ Ext w0 v ∧ Nb + 13 < w2.heap.size ∧ Sb < w2.heap.size ∧ Vb < w2.heap.size)
    ⟨ha.ext (xb.trans (Ext.alloc (Ext.alloc (Ext.refl _) _) _)), hb.ext (Ext.alloc (Ext.alloc (Ext.refl _) _) _), block_ext (Ext.alloc (Ext.refl _) _) (heap_alloc_new w2 (helpO Na Sa Va 20)), heap_new2 w2 (helpO Na Sa Va 20) (helpO Nb Sb Vb 20), (xa.trans xb).trans (Ext.alloc (Ext.alloc (Ext.refl _) _) _), lt_of_block (hb.lies.block (b := 13) rfl), lt_of_block hb.sb, lt_of_block hb.vb⟩ ?_
  clear ha hb xa xb
  generalize w2.heap.size = A at *
  clear w2
  rintro v ⟨ha, hb, hA, hB, xv, b13, bsb, bvb⟩
  have HA := hid ha
  have HB := hid hb
  have XV := hid xv
  have HBA := hid hA
  have HBB := hid hB
  have hNa := ha.hN
  have hSa := ha.hS
  have hNb := hb.hN
  have hSb := hb.hS
  have hVb := hb.hV
  have lB := lt_of_block hB
  have bs := lt_of_block hb.sb
  have bv := lt_of_block hb.vb
  have bs2 := lt_of_block ha.sb
  have sa1 := blk_cell ha.sb 1
  have saf := blk_free ha.sb 1
  have sc1 := blk_cell hb.sb 1
  have vc2 := blk_cell hb.vb 2
  have sf1 := blk_free hb.sb 1
  have vf2 := blk_free hb.vb 2
  have pc : v.cell? ⟨Nb + 3, 0, none⟩ = some (.slice (some ⟨Nb + 1, 0, none⟩) 4 4) := hb.lies.at (b := 3) (j := 0) (v := .s 1 4) rfl
  have rc : v.cell? ⟨Nb + 1, 1, none⟩ = some (.int .i64 2) := hb.lies.at (b := 1) (j := 1) (v := .i 2) rfl
  have rf : v.frozen? ⟨Nb + 1, 1, none⟩ = false := hb.lies.free (b := 1) (j := 1) (v := .i 2) rfl
  have d31 : v.cell? ⟨Nb + 13, 31, none⟩ = some (.int .u64 3) := hb.lies.at (b := 13) (j := 31) (v := .u 3) rfl
  have f31 : v.frozen? ⟨Nb + 13, 31, none⟩ = false := hb.lies.free (b := 13) (j := 31) (v := .u 3) rfl
  have d25 : v.cell? ⟨Nb + 13, 25, none⟩ = some (.int .i64 4) := hb.lies.at (b := 13) (j := 25) (v := .i 4) rfl
  have f25 : v.frozen? ⟨Nb + 13, 25, none⟩ = false := hb.lies.free (b := 13) (j := 25) (v := .i 4) rfl
  have d02 : v.cell? ⟨Nb + 13, 2, none⟩ = some (.slice (some ⟨Nb + 6, 0, none⟩) 2 2) := hb.lies.at (b := 13) (j := 2) (v := .s 6 2) rfl
  have f02 : v.frozen? ⟨Nb + 13, 2, none⟩ = false := hb.lies.free (b := 13) (j := 2) (v := .s 6 2) rfl
  have d33 : v.cell? ⟨Nb + 13, 33, none⟩ = some (.slice (some ⟨Nb + 12, 0, none⟩) 3 3) := hb.lies.at (b := 13) (j := 33) (v := .s 12 3) rfl
  have f33 : v.frozen? ⟨Nb + 13, 33, none⟩ = false := hb.lies.free (b := 13) (j := 33) (v := .s 12 3) rfl
  have ln13 : Nb + 13 < v.heap.size := by omega
  have q2 : v.cell? ⟨A + 1, 2, none⟩ = some (.slice (some ⟨Nb + 3, 0, none⟩) 2 2) := blk_cell hB 2
  have q3 : v.cell? ⟨A + 1, 3, none⟩ = some (.slice (some ⟨Nb + 13, 0, none⟩) 4 4) := blk_cell hB 3
  have q4 : v.cell? ⟨A + 1, 4, none⟩ = some (.int .i64 20) := blk_cell hB 4
  have q5 : v.cell? ⟨A + 1, 5, none⟩ = some (.slice (some ⟨Sb, 0, none⟩) 4 4) := blk_cell hB 5
  have q6 : v.cell? ⟨A + 1, 6, none⟩ = some (.slice (some ⟨Vb, 0, none⟩) 4 4) := blk_cell hB 6
  have qf : v.frozen? ⟨A + 1, 4, none⟩ = false := blk_free hB 4
  have r5 : v.cell? ⟨A, 5, none⟩ = some (.slice (some ⟨Sa, 0, none⟩) 4 4) := blk_cell hA 5
  have lA : A < v.heap.size := by omega
  simp only [nil4, List.getElem?_toArray, List.getElem?_cons_zero, List.getElem?_cons_succ] at sa1 sc1 vc2
  clear ha hb hA hB xv
  go_upto_region 24 with (fail)
  refine wp_forget (fun y => SV Na Sa Va 20 sZ y ∧ SV Nb Sb Vb 24 b0d y ∧ y.heap[A]? = some (helpO Na Sa Va 20) ∧ y.heap[A + 1]? = some (helpO Nb Sb Vb 24) ∧ Ext w0 y) ⟨?_, ?_, block_ext (Ext.refl _) ((Below.heap_setCell _ _ _ _ (by show A ≠ A + 1; omega)).trans HBA.out), blk_set HBB.out 4 _, (XV.out.setCell (by show w0.heap.size ≤ A + 1; omega) _)⟩ ?_
  · exact ((HA.out.aside (b := A + 1) _ (by omega) (by omega) (by omega)).ext (Ext.refl _)).script baseC_of rfl rfl (nilS_v _) (nilA_v _)
  · exact (HB.out.aside (b := A + 1) _ (by omega) (by omega) (by omega)).script baseC_of rfl rfl (nilS_v _) (nilA_v _)
  clear HA HB XV HBA HBB hNa hSa hNb hSb hVb lB bs bv bs2 sa1 saf sc1 vc2 sf1 vf2 pc rc rf d31 f31 d25 f25 d02 f02 d33 f33 ln13 q2 q3 q4 q5 q6 qf r5 lA hmk b13 bsb bvb
  rintro y ⟨sa, sb, kA, kB, hx⟩
  (try clear v)
  have HX := hid hx
  have FA : ScFit sZ := .of (by kernel_rfl) (by kernel_rfl) (by kernel_rfl)
  have FB : ScFit b0d := .of (by kernel_rfl) (by kernel_rfl) (by kernel_rfl)
  have hne : sZ ≠ b0d := fun h => absurd (congrArg (fun s : Scr => s.horizon) h) (by decide)
  have hIA := hid (fun z (hz : Ext y z) => show Calls Try.prog 7 #[helpV Na Sa Va 20] z (Yields z .nilIface) from sIs FA.is (sa.ext hz))
  have hIB := hid (fun z (hz : Ext y z) => show Calls Try.prog 7 #[helpV Nb Sb Vb 24] z (Yields z .nilIface) from sIs FB.is (sb.ext hz))
  have hBA := hid (fun z (hz : Ext y z) => gBytes FA.is FA.inn FA.len (sa.ext hz))
  have hBB := hid (fun z (hz : Ext y z) => gBytes FB.is FB.inn FB.len (sb.ext hz))
  have hSM := hid (fun z (hz : Ext y z) => uSame hne (sa.ext hz) (sb.ext hz))
  have hst := fit_ne FA FB hne
  obtain ⟨la, hla⟩ : ∃ l, l = allBytes sZ := ⟨_, rfl⟩
  obtain ⟨lb, hlb⟩ : ∃ l, l = allBytes b0d := ⟨_, rfl⟩
  rw [← hla] at hBA hst
  rw [← hlb] at hBB hst
  rw [str_toList, str_toList] at hst
  have g1 : (la == lb) = false := by simpa using hst
  have g2 : (la != lb) = true := by simpa using hst
  clear hla hlb hst FA FB hne
  have hen := fun w => run_eql_nil_nil' (P := Try.prog) w Try.underlying33
  have lA := lt_of_block kA
  have lB := lt_of_block kB
  have a0 := blk_cell kA 0
  have a1 := blk_cell kA 1
  have a2 := blk_cell kA 2
  have a3 := blk_cell kA 3
  have a4 := blk_cell kA 4
  have a5 := blk_cell kA 5
  have a6 := blk_cell kA 6
  have b0 := blk_cell kB 0
  have b1 := blk_cell kB 1
  have b2 := blk_cell kB 2
  have b3 := blk_cell kB 3
  have b4 := blk_cell kB 4
  have b5 := blk_cell kB 5
  have b6 := blk_cell kB 6
  simp only [List.getElem?_toArray, List.getElem?_cons_zero, List.getElem?_cons_succ] at a0 a1 a2 a3 a4 a5 a6 b0 b1 b2 b3 b4 b5 b6
  clear kA kB sa sb hx
  ((first | refine wp_region_more (by kernel_rfl) (by kernel_rfl) ?_ | refine wp_region_ext (by kernel_rfl) (by kernel_rfl) ?_); (try dsimp only [append_cons', append_nil']); (repeat (go_big_quiet_step ((first | (go_at_call 7; with_reducible refine Calls.more_of (hIA.out _ (ext_more _ _))) | (go_at_call 7; with_reducible refine Calls.more_of (hIB.out _ (ext_more _ _))) | (go_at_call 9; with_reducible refine Calls.more_of (hBA.out _ (ext_more _ _))) | (go_at_call 9; with_reducible refine Calls.more_of (hBB.out _ (ext_more _ _))) | (go_at_call 11; with_reducible refine Calls.more_of (hSM.out _ (ext_more _ _))))))); refine wpQuiet_nil ?_; rintro _ ⟨pq, rfl⟩)
  go_wp2
  go_returns
  exact ⟨rfl, hE0.out.trans (HX.out.more _)⟩

def b1a : Scr := ⟨⟨8, 2, [[2, 3, 2, 2], [5, 1, 1, 1]], [⟨0, 0, [[1, 3], [2, 3]], [], -1, 4, 2, 4, 3, 2⟩, ⟨1, 1, [[3]], [0, 1], 0, 4, 2, 4, 3, 2⟩, ⟨1, 2, [[3]], [], -1, 4, 2, 4, 3, 2⟩, ⟨2, 3, [], [0, 1, 2], 1, 4, 2, 4, 3, 2⟩]⟩, 20, nilS, nilA⟩
set_option maxRecDepth 100000 in
set_option maxHeartbeats 8000000 in
theorem walk1a (which n : Int) (hw0 : 0 ≤ which) (hw1 : which ≤ 255) (hn0 : 0 ≤ n) (hn1 : n ≤ 255) (hk : which % 9 = 1) (hn : n % 4 = 0) (w : World) :
    Calls Try.prog 4 #[.int .u8 which, .int .u8 n] w (Yields w (.bool true)) := by
  have hmk := mkAxns 1 1 rfl (by decide)
  go_enter Try.func4, Try.ntmps4
  go_wp2_with fail
  refine (known4_any _).yields ?_
  intro p0
  have hE0 := hid (ext_more w p0)
  generalize more w p0 = w0 at *
  go_wp2_with fail
  refine (help_any _ 20).mono ?_
  rintro e w1 ⟨Na, Sa, Va, rfl, ha, xa⟩
  go_wp2_with fail
  refine (help_any _ 20).mono ?_
  rintro e w2 ⟨Nb, Sb, Vb, rfl, hb, xb⟩
  have lna := lt_of_block (ha.lies.block (b := 13) rfl)
  have bsa := lt_of_block ha.sb
  have bva := lt_of_block ha.vb
  have hw12 := xb.size
  go_upto_region 5 with (fail)
  refine wp_forget (fun v => HelpS w0.heap.size Na Sa Va baseRO nil4 nil4 v ∧ HelpS w1.heap.size Nb Sb Vb baseRO nil4 nil4 v ∧ v.heap[w2.heap.size]? = some (helpO Na Sa Va 20) ∧ v.heap[w2.heap.size + 1]? = some (helpO Nb Sb Vb 20) ∧ Ext w0 v ∧ Nb + 13 < w2.heap.size ∧ Sb < w2.heap.size ∧ Vb < w2.heap.size)
    ⟨ha.ext (xb.trans (Ext.alloc (Ext.alloc (Ext.refl _) _) _)), hb.ext (Ext.alloc (Ext.alloc (Ext.refl _) _) _), block_ext (Ext.alloc (Ext.refl _) _) (heap_alloc_new w2 (helpO Na Sa Va 20)), heap_new2 w2 (helpO Na Sa Va 20) (helpO Nb Sb Vb 20), (xa.trans xb).trans (Ext.alloc (Ext.alloc (Ext.refl _) _) _), lt_of_block (hb.lies.block (b := 13) rfl), lt_of_block hb.sb, lt_of_block hb.vb⟩ ?_
  clear ha hb xa xb
  generalize w2.heap.size = A at *
  clear w2
  rintro v ⟨ha, hb, hA, hB, xv, b13, bsb, bvb⟩
  have HA := hid ha
  have HB := hid hb
  have XV := hid xv
  have HBA := hid hA
  have HBB := hid hB
  have hNa := ha.hN
  have hSa := ha.hS
  have hNb := hb.hN
  have hSb := hb.hS
  have hVb := hb.hV
  have lB := lt_of_block hB
  have bs := lt_of_block hb.sb
  have bv := lt_of_block hb.vb
  have bs2 := lt_of_block ha.sb
  have sa1 := blk_cell ha.sb 1
  have saf := blk_free ha.sb 1
  have sc1 := blk_cell hb.sb 1
  have vc2 := blk_cell hb.vb 2
  have sf1 := blk_free hb.sb 1
  have vf2 := blk_free hb.vb 2
  have pc : v.cell? ⟨Nb + 3, 0, none⟩ = some (.slice (some ⟨Nb + 1, 0, none⟩) 4 4) := hb.lies.at (b := 3) (j := 0) (v := .s 1 4) rfl
  have rc : v.cell? ⟨Nb + 1, 1, none⟩ = some (.int .i64 2) := hb.lies.at (b := 1) (j := 1) (v := .i 2) rfl
  have rf : v.frozen? ⟨Nb + 1, 1, none⟩ = false := hb.lies.free (b := 1) (j := 1) (v := .i 2) rfl
  have d31 : v.cell? ⟨Nb + 13, 31, none⟩ = some (.int .u64 3) := hb.lies.at (b := 13) (j := 31) (v := .u 3) rfl
  have f31 : v.frozen? ⟨Nb + 13, 31, none⟩ = false := hb.lies.free (b := 13) (j := 31) (v := .u 3) rfl
  have d25 : v.cell? ⟨Nb + 13, 25, none⟩ = some (.int .i64 4) := hb.lies.at (b := 13) (j := 25) (v := .i 4) rfl
  have f25 : v.frozen? ⟨Nb + 13, 25, none⟩ = false := hb.lies.free (b := 13) (j := 25) (v := .i 4) rfl
  have d02 : v.cell? ⟨Nb + 13, 2, none⟩ = some (.slice (some ⟨Nb + 6, 0, none⟩) 2 2) := hb.lies.at (b := 13) (j := 2) (v := .s 6 2) rfl
  have f02 : v.frozen? ⟨Nb + 13, 2, none⟩ = false := hb.lies.free (b := 13) (j := 2) (v := .s 6 2) rfl
  have d33 : v.cell? ⟨Nb + 13, 33, none⟩ = some (.slice (some ⟨Nb + 12, 0, none⟩) 3 3) := hb.lies.at (b := 13) (j := 33) (v := .s 12 3) rfl
  have f33 : v.frozen? ⟨Nb + 13, 33, none⟩ = false := hb.lies.free (b := 13) (j := 33) (v := .s 12 3) rfl
  have ln13 : Nb + 13 < v.heap.size := by omega
  have q2 : v.cell? ⟨A + 1, 2, none⟩ = some (.slice (some ⟨Nb + 3, 0, none⟩) 2 2) := blk_cell hB 2
  have q3 : v.cell? ⟨A + 1, 3, none⟩ = some (.slice (some ⟨Nb + 13, 0, none⟩) 4 4) := blk_cell hB 3
  have q4 : v.cell? ⟨A + 1, 4, none⟩ = some (.int .i64 20) := blk_cell hB 4
  have q5 : v.cell? ⟨A + 1, 5, none⟩ = some (.slice (some ⟨Sb, 0, none⟩) 4 4) := blk_cell hB 5
  have q6 : v.cell? ⟨A + 1, 6, none⟩ = some (.slice (some ⟨Vb, 0, none⟩) 4 4) := blk_cell hB 6
  have qf : v.frozen? ⟨A + 1, 4, none⟩ = false := blk_free hB 4
  have r5 : v.cell? ⟨A, 5, none⟩ = some (.slice (some ⟨Sa, 0, none⟩) 4 4) := blk_cell hA 5
  have lA : A < v.heap.size := by omega
  simp only [nil4, List.getElem?_toArray, List.getElem?_cons_zero, List.getElem?_cons_succ] at sa1 sc1 vc2
  clear ha hb hA hB xv
  go_upto_region 24 with (fail)
  refine wp_forget (fun y => SV Na Sa Va 20 sZ y ∧ SV Nb Sb Vb 20 b1a y ∧ y.heap[A]? = some (helpO Na Sa Va 20) ∧ y.heap[A + 1]? = some (helpO Nb Sb Vb 20) ∧ Ext w0 y) ⟨?_, ?_, block_ext (Ext.refl _) ((Below.heap_setCell _ _ _ _ (by show A ≠ Nb + 1; omega)).trans HBA.out), block_ext (Ext.refl _) ((Below.heap_setCell _ _ _ _ (by show A + 1 ≠ Nb + 1; omega)).trans HBB.out), (XV.out.setCell (by show w0.heap.size ≤ Nb + 1; omega) _)⟩ ?_
  · exact ((HA.out.aside (b := Nb + 1) _ (by omega) (by omega) (by omega)).ext (Ext.refl _)).script baseC_of rfl rfl (nilS_v _) (nilA_v _)
  · exact (HB.out.put (b := 1) (j := 1) (.i 3) rfl (RV.wf_of rfl) (by decide)).script (c := b1a.conf) (by rfl) rfl rfl (nilS_v _) (nilA_v _)
  clear HA HB XV HBA HBB hNa hSa hNb hSb hVb lB bs bv bs2 sa1 saf sc1 vc2 sf1 vf2 pc rc rf d31 f31 d25 f25 d02 f02 d33 f33 ln13 q2 q3 q4 q5 q6 qf r5 lA hmk b13 bsb bvb
  rintro y ⟨sa, sb, kA, kB, hx⟩
  (try clear v)
  have HX := hid hx
  have FA : ScFit sZ := .of (by kernel_rfl) (by kernel_rfl) (by kernel_rfl)
  have FB : ScFit b1a := .of (by kernel_rfl) (by kernel_rfl) (by kernel_rfl)
  have hne : sZ ≠ b1a := fun h => absurd (congrArg (fun s : Scr => s.conf.plans) h) (by decide)
  have hIA := hid (fun z (hz : Ext y z) => show Calls Try.prog 7 #[helpV Na Sa Va 20] z (Yields z .nilIface) from sIs FA.is (sa.ext hz))
  have hIB := hid (fun z (hz : Ext y z) => show Calls Try.prog 7 #[helpV Nb Sb Vb 20] z (Yields z .nilIface) from sIs FB.is (sb.ext hz))
  have hBA := hid (fun z (hz : Ext y z) => gBytes FA.is FA.inn FA.len (sa.ext hz))
  have hBB := hid (fun z (hz : Ext y z) => gBytes FB.is FB.inn FB.len (sb.ext hz))
  have hSM := hid (fun z (hz : Ext y z) => uSame hne (sa.ext hz) (sb.ext hz))
  have hst := fit_ne FA FB hne
  obtain ⟨la, hla⟩ : ∃ l, l = allBytes sZ := ⟨_, rfl⟩
  obtain ⟨lb, hlb⟩ : ∃ l, l = allBytes b1a := ⟨_, rfl⟩
  rw [← hla] at hBA hst
  rw [← hlb] at hBB hst
  rw [str_toList, str_toList] at hst
  have g1 : (la == lb) = false := by simpa using hst
  have g2 : (la != lb) = true := by simpa using hst
  clear hla hlb hst FA FB hne
  have hen := fun w => run_eql_nil_nil' (P := Try.prog) w Try.underlying33
  have lA := lt_of_block kA
  have lB := lt_of_block kB
  have a0 := blk_cell kA 0
  have a1 := blk_cell kA 1
  have a2 := blk_cell kA 2
  have a3 := blk_cell kA 3
  have a4 := blk_cell kA 4
  have a5 := blk_cell kA 5
  have a6 := blk_cell kA 6
  have b0 := blk_cell kB 0
  have b1 := blk_cell kB 1
  have b2 := blk_cell kB 2
  have b3 := blk_cell kB 3
  have b4 := blk_cell kB 4
  have b5 := blk_cell kB 5
  have b6 := blk_cell kB 6
  simp only [List.getElem?_toArray, List.getElem?_cons_zero, List.getElem?_cons_succ] at a0 a1 a2 a3 a4 a5 a6 b0 b1 b2 b3 b4 b5 b6
  clear kA kB sa sb hx
  ((first | refine wp_region_more (by kernel_rfl) (by kernel_rfl) ?_ | refine wp_region_ext (by kernel_rfl) (by kernel_rfl) ?_); (try dsimp only [append_cons', append_nil']); (repeat (go_big_quiet_step ((first | (go_at_call 7; with_reducible refine Calls.more_of (hIA.out _ (ext_more _ _))) | (go_at_call 7; with_reducible refine Calls.more_of (hIB.out _ (ext_more _ _))) | (go_at_call 9; with_reducible refine Calls.more_of (hBA.out _ (ext_more _ _))) | (go_at_call 9; with_reducible refine Calls.more_of (hBB.out _ (ext_more _ _))) | (go_at_call 11; with_reducible refine Calls.more_of (hSM.out _ (ext_more _ _))))))); refine wpQuiet_nil ?_; rintro _ ⟨pq, rfl⟩)
  go_wp2
  go_returns
  exact ⟨rfl, hE0.out.trans (HX.out.more _)⟩

def b1b : Scr := ⟨⟨8, 2, [[2, 4, 2, 2], [5, 1, 1, 1]], [⟨0, 0, [[1, 3], [2, 3]], [], -1, 4, 2, 4, 3, 2⟩, ⟨1, 1, [[3]], [0, 1], 0, 4, 2, 4, 3, 2⟩, ⟨1, 2, [[3]], [], -1, 4, 2, 4, 3, 2⟩, ⟨2, 3, [], [0, 1, 2], 1, 4, 2, 4, 3, 2⟩]⟩, 20, nilS, nilA⟩
set_option maxRecDepth 100000 in
set_option maxHeartbeats 8000000 in
theorem walk1b (which n : Int) (hw0 : 0 ≤ which) (hw1 : which ≤ 255) (hn0 : 0 ≤ n) (hn1 : n ≤ 255) (hk : which % 9 = 1) (hn : n % 4 = 1) (w : World) :
    Calls Try.prog 4 #[.int .u8 which, .int .u8 n] w (Yields w (.bool true)) := by
  have hmk := mkAxns 2 2 rfl (by decide)
  go_enter Try.func4, Try.ntmps4
  go_wp2_with fail
  refine (known4_any _).yields ?_
  intro p0
  have hE0 := hid (ext_more w p0)
  generalize more w p0 = w0 at *
  go_wp2_with fail
  refine (help_any _ 20).mono ?_
  rintro e w1 ⟨Na, Sa, Va, rfl, ha, xa⟩
  go_wp2_with fail
  refine (help_any _ 20).mono ?_
  rintro e w2 ⟨Nb, Sb, Vb, rfl, hb, xb⟩
  have lna := lt_of_block (ha.lies.block (b := 13) rfl)
  have bsa := lt_of_block ha.sb
  have bva := lt_of_block ha.vb
  have hw12 := xb.size
  go_upto_region 5 with (fail)
  refine wp_forget (fun v => HelpS w0.heap.size Na Sa Va baseRO nil4 nil4 v ∧ HelpS w1.heap.size Nb Sb Vb baseRO nil4 nil4 v ∧ v.heap[w2.heap.size]? = some (helpO Na Sa Va 20) ∧ v.heap[w2.heap.size + 1]? = some (helpO Nb Sb Vb 20) ∧ Ext w0 v ∧ Nb + 13 < w2.heap.size ∧ Sb < w2.heap.size ∧ Vb < w2.heap.size)
    ⟨ha.ext (xb.trans (Ext.alloc (Ext.alloc (Ext.refl _) _) _)), hb.ext (Ext.alloc (Ext.alloc (Ext.refl _) _) _), block_ext (Ext.alloc (Ext.refl _) _) (heap_alloc_new w2 (helpO Na Sa Va 20)), heap_new2 w2 (helpO Na Sa Va 20) (helpO Nb Sb Vb 20), (xa.trans xb).trans (Ext.alloc (Ext.alloc (Ext.refl _) _) _), lt_of_block (hb.lies.block (b := 13) rfl), lt_of_block hb.sb, lt_of_block hb.vb⟩ ?_
  clear ha hb xa xb
  generalize w2.heap.size = A at *
  clear w2
  rintro v ⟨ha, hb, hA, hB, xv, b13, bsb, bvb⟩
  have HA := hid ha
  have HB := hid hb
  have XV := hid xv
  have HBA := hid hA
  have HBB := hid hB
  have hNa := ha.hN
  have hSa := ha.hS
  have hNb := hb.hN
  have hSb := hb.hS
  have hVb := hb.hV
  have lB := lt_of_block hB
  have bs := lt_of_block hb.sb
  have bv := lt_of_block hb.vb
  have bs2 := lt_of_block ha.sb
  have sa1 := blk_cell ha.sb 1
  have saf := blk_free ha.sb 1
  have sc1 := blk_cell hb.sb 1
  have vc2 := blk_cell hb.vb 2
  have sf1 := blk_free hb.sb 1
  have vf2 := blk_free hb.vb 2
  have pc : v.cell? ⟨Nb + 3, 0, none⟩ = some (.slice (some ⟨Nb + 1, 0, none⟩) 4 4) := hb.lies.at (b := 3) (j := 0) (v := .s 1 4) rfl
  have rc : v.cell? ⟨Nb + 1, 1, none⟩ = some (.int .i64 2) := hb.lies.at (b := 1) (j := 1) (v := .i 2) rfl
  have rf : v.frozen? ⟨Nb + 1, 1, none⟩ = false := hb.lies.free (b := 1) (j := 1) (v := .i 2) rfl
  have d31 : v.cell? ⟨Nb + 13, 31, none⟩ = some (.int .u64 3) := hb.lies.at (b := 13) (j := 31) (v := .u 3) rfl
  have f31 : v.frozen? ⟨Nb + 13, 31, none⟩ = false := hb.lies.free (b := 13) (j := 31) (v := .u 3) rfl
  have d25 : v.cell? ⟨Nb + 13, 25, none⟩ = some (.int .i64 4) := hb.lies.at (b := 13) (j := 25) (v := .i 4) rfl
  have f25 : v.frozen? ⟨Nb + 13, 25, none⟩ = false := hb.lies.free (b := 13) (j := 25) (v := .i 4) rfl
  have d02 : v.cell? ⟨Nb + 13, 2, none⟩ = some (.slice (some ⟨Nb + 6, 0, none⟩) 2 2) := hb.lies.at (b := 13) (j := 2) (v := .s 6 2) rfl
  have f02 : v.frozen? ⟨Nb + 13, 2, none⟩ = false := hb.lies.free (b := 13) (j := 2) (v := .s 6 2) rfl
  have d33 : v.cell? ⟨Nb + 13, 33, none⟩ = some (.slice (some ⟨Nb + 12, 0, none⟩) 3 3) := hb.lies.at (b := 13) (j := 33) (v := .s 12 3) rfl
  have f33 : v.frozen? ⟨Nb + 13, 33, none⟩ = false := hb.lies.free (b := 13) (j := 33) (v := .s 12 3) rfl
  have ln13 : Nb + 13 < v.heap.size := by omega
  have q2 : v.cell? ⟨A + 1, 2, none⟩ = some (.slice (some ⟨Nb + 3, 0, none⟩) 2 2) := blk_cell hB 2
  have q3 : v.cell? ⟨A + 1, 3, none⟩ = some (.slice (some ⟨Nb + 13, 0, none⟩) 4 4) := blk_cell hB 3
  have q4 : v.cell? ⟨A + 1, 4, none⟩ = some (.int .i64 20) := blk_cell hB 4
  have q5 : v.cell? ⟨A + 1, 5, none⟩ = some (.slice (some ⟨Sb, 0, none⟩) 4 4) := blk_cell hB 5
  have q6 : v.cell? ⟨A + 1, 6, none⟩ = some (.slice (some ⟨Vb, 0, none⟩) 4 4) := blk_cell hB 6
  have qf : v.frozen? ⟨A + 1, 4, none⟩ = false := blk_free hB 4
  have r5 : v.cell? ⟨A, 5, none⟩ = some (.slice (some ⟨Sa, 0, none⟩) 4 4) := blk_cell hA 5
  have lA : A < v.heap.size := by omega
  simp only [nil4, List.getElem?_toArray, List.getElem?_cons_zero, List.getElem?_cons_succ] at sa1 sc1 vc2
  clear ha hb hA hB xv
  go_upto_region 24 with (fail)
  refine wp_forget (fun y => SV Na Sa Va 20 sZ y ∧ SV Nb Sb Vb 20 b1b y ∧ y.heap[A]? = some (helpO Na Sa Va 20) ∧ y.heap[A + 1]? = some (helpO Nb Sb Vb 20) ∧ Ext w0 y) ⟨?_, ?_, block_ext (Ext.refl _) ((Below.heap_setCell _ _ _ _ (by show A ≠ Nb + 1; omega)).trans HBA.out), block_ext (Ext.refl _) ((Below.heap_setCell _ _ _ _ (by show A + 1 ≠ Nb + 1; omega)).trans HBB.out), (XV.out.setCell (by show w0.heap.size ≤ Nb + 1; omega) _)⟩ ?_
  · exact ((HA.out.aside (b := Nb + 1) _ (by omega) (by omega) (by omega)).ext (Ext.refl _)).script baseC_of rfl rfl (nilS_v _) (nilA_v _)
  · exact (HB.out.put (b := 1) (j := 1) (.i 4) rfl (RV.wf_of rfl) (by decide)).script (c := b1b.conf) (by rfl) rfl rfl (nilS_v _) (nilA_v _)
  clear HA HB XV HBA HBB hNa hSa hNb hSb hVb lB bs bv bs2 sa1 saf sc1 vc2 sf1 vf2 pc rc rf d31 f31 d25 f25 d02 f02 d33 f33 ln13 q2 q3 q4 q5 q6 qf r5 lA hmk b13 bsb bvb
  rintro y ⟨sa, sb, kA, kB, hx⟩
  (try clear v)
  have HX := hid hx
  have FA : ScFit sZ := .of (by kernel_rfl) (by kernel_rfl) (by kernel_rfl)
  have FB : ScFit b1b := .of (by kernel_rfl) (by kernel_rfl) (by kernel_rfl)
  have hne : sZ ≠ b1b := fun h => absurd (congrArg (fun s : Scr => s.conf.plans) h) (by decide)
  have hIA := hid (fun z (hz : Ext y z) => show Calls Try.prog 7 #[helpV Na Sa Va 20] z (Yields z .nilIface) from sIs FA.is (sa.ext hz))
  have hIB := hid (fun z (hz : Ext y z) => show Calls Try.prog 7 #[helpV Nb Sb Vb 20] z (Yields z .nilIface) from sIs FB.is (sb.ext hz))
  have hBA := hid (fun z (hz : Ext y z) => gBytes FA.is FA.inn FA.len (sa.ext hz))
  have hBB := hid (fun z (hz : Ext y z) => gBytes FB.is FB.inn FB.len (sb.ext hz))
  have hSM := hid (fun z (hz : Ext y z) => uSame hne (sa.ext hz) (sb.ext hz))
  have hst := fit_ne FA FB hne
  obtain ⟨la, hla⟩ : ∃ l, l = allBytes sZ := ⟨_, rfl⟩
  obtain ⟨lb, hlb⟩ : ∃ l, l = allBytes b1b := ⟨_, rfl⟩
  rw [← hla] at hBA hst
  rw [← hlb] at hBB hst
  rw [str_toList, str_toList] at hst
  have g1 : (la == lb) = false := by simpa using hst
  have g2 : (la != lb) = true := by simpa using hst
  clear hla hlb hst FA FB hne
  have hen := fun w => run_eql_nil_nil' (P := Try.prog) w Try.underlying33
  have lA := lt_of_block kA
  have lB := lt_of_block kB
  have a0 := blk_cell kA 0
  have a1 := blk_cell kA 1
  have a2 := blk_cell kA 2
  have a3 := blk_cell kA 3
  have a4 := blk_cell kA 4
  have a5 := blk_cell kA 5
  have a6 := blk_cell kA 6
  have b0 := blk_cell kB 0
  have b1 := blk_cell kB 1
  have b2 := blk_cell kB 2
  have b3 := blk_cell kB 3
  have b4 := blk_cell kB 4
  have b5 := blk_cell kB 5
  have b6 := blk_cell kB 6
  simp only [List.getElem?_toArray, List.getElem?_cons_zero, List.getElem?_cons_succ] at a0 a1 a2 a3 a4 a5 a6 b0 b1 b2 b3 b4 b5 b6
  clear kA kB sa sb hx
  ((first | refine wp_region_more (by kernel_rfl) (by kernel_rfl) ?_ | refine wp_region_ext (by kernel_rfl) (by kernel_rfl) ?_); (try dsimp only [append_cons', append_nil']); (repeat (go_big_quiet_step ((first | (go_at_call 7; with_reducible refine Calls.more_of (hIA.out _ (ext_more _ _))) | (go_at_call 7; with_reducible refine Calls.more_of (hIB.out _ (ext_more _ _))) | (go_at_call 9; with_reducible refine Calls.more_of (hBA.out _ (ext_more _ _))) | (go_at_call 9; with_reducible refine Calls.more_of (hBB.out _ (ext_more _ _))) | (go_at_call 11; with_reducible refine Calls.more_of (hSM.out _ (ext_more _ _))))))); refine wpQuiet_nil ?_; rintro _ ⟨pq, rfl⟩)
  go_wp2
  go_returns
  exact ⟨rfl, hE0.out.trans (HX.out.more _)⟩

def b1c : Scr := ⟨⟨8, 2, [[2, 5, 2, 2], [5, 1, 1, 1]], [⟨0, 0, [[1, 3], [2, 3]], [], -1, 4, 2, 4, 3, 2⟩, ⟨1, 1, [[3]], [0, 1], 0, 4, 2, 4, 3, 2⟩, ⟨1, 2, [[3]], [], -1, 4, 2, 4, 3, 2⟩, ⟨2, 3, [], [0, 1, 2], 1, 4, 2, 4, 3, 2⟩]⟩, 20, nilS, nilA⟩
set_option maxRecDepth 100000 in
set_option maxHeartbeats 8000000 in
theorem walk1c (which n : Int) (hw0 : 0 ≤ which) (hw1 : which ≤ 255) (hn0 : 0 ≤ n) (hn1 : n ≤ 255) (hk : which % 9 = 1) (hn : n % 4 = 2) (w : World) :
    Calls Try.prog 4 #[.int .u8 which, .int .u8 n] w (Yields w (.bool true)) := by
  have hmk := mkAxns 3 3 rfl (by decide)
  go_enter Try.func4, Try.ntmps4
  go_wp2_with fail
  refine (known4_any _).yields ?_
  intro p0
  have hE0 := hid (ext_more w p0)
  generalize more w p0 = w0 at *
  go_wp2_with fail
  refine (help_any _ 20).mono ?_
  rintro e w1 ⟨Na, Sa, Va, rfl, ha, xa⟩
  go_wp2_with fail
  refine (help_any _ 20).mono ?_
  rintro e w2 ⟨Nb, Sb, Vb, rfl, hb, xb⟩
  have lna := lt_of_block (ha.lies.block (b := 13) rfl)
  have bsa := lt_of_block ha.sb
  have bva := lt_of_block ha.vb
  have hw12 := xb.size
  go_upto_region 5 with (fail)
  refine wp_forget (fun v => HelpS w0.heap.size Na Sa Va baseRO nil4 nil4 v ∧ HelpS w1.heap.size Nb Sb Vb baseRO nil4 nil4 v ∧ v.heap[w2.heap.size]? = some (helpO Na Sa Va 20) ∧ v.heap[w2.heap.size + 1]? = some (helpO Nb Sb Vb 20) ∧ Ext w0 v ∧ Nb + 13 < w2.heap.size ∧ Sb < w2.heap.size ∧ Vb < w2.heap.size)
    ⟨ha.ext (xb.trans (Ext.alloc (Ext.alloc (Ext.refl _) _) _)), hb.ext (Ext.alloc (Ext.alloc (Ext.refl _) _) _), block_ext (Ext.alloc (Ext.refl _) _) (heap_alloc_new w2 (helpO Na Sa Va 20)), heap_new2 w2 (helpO Na Sa Va 20) (helpO Nb Sb Vb 20), (xa.trans xb).trans (Ext.alloc (Ext.alloc (Ext.refl _) _) _), lt_of_block (hb.lies.block (b := 13) rfl), lt_of_block hb.sb, lt_of_block hb.vb⟩ ?_
  clear ha hb xa xb
  generalize w2.heap.size = A at *
  clear w2
  rintro v ⟨ha, hb, hA, hB, xv, b13, bsb, bvb⟩
  have HA := hid ha
  have HB := hid hb
  have XV := hid xv
  have HBA := hid hA
  have HBB := hid hB
  have hNa := ha.hN
  have hSa := ha.hS
  have hNb := hb.hN
  have hSb := hb.hS
  have hVb := hb.hV
  have lB := lt_of_block hB
  have bs := lt_of_block hb.sb
  have bv := lt_of_block hb.vb
  have bs2 := lt_of_block ha.sb
  have sa1 := blk_cell ha.sb 1
  have saf := blk_free ha.sb 1
  have sc1 := blk_cell hb.sb 1
  have vc2 := blk_cell hb.vb 2
  have sf1 := blk_free hb.sb 1
  have vf2 := blk_free hb.vb 2
  have pc : v.cell? ⟨Nb + 3, 0, none⟩ = some (.slice (some ⟨Nb + 1, 0, none⟩) 4 4) := hb.lies.at (b := 3) (j := 0) (v := .s 1 4) rfl
  have rc : v.cell? ⟨Nb + 1, 1, none⟩ = some (.int .i64 2) := hb.lies.at (b := 1) (j := 1) (v := .i 2) rfl
  have rf : v.frozen? ⟨Nb + 1, 1, none⟩ = false := hb.lies.free (b := 1) (j := 1) (v := .i 2) rfl
  have d31 : v.cell? ⟨Nb + 13, 31, none⟩ = some (.int .u64 3) := hb.lies.at (b := 13) (j := 31) (v := .u 3) rfl
  have f31 : v.frozen? ⟨Nb + 13, 31, none⟩ = false := hb.lies.free (b := 13) (j := 31) (v := .u 3) rfl
  have d25 : v.cell? ⟨Nb + 13, 25, none⟩ = some (.int .i64 4) := hb.lies.at (b := 13) (j := 25) (v := .i 4) rfl
  have f25 : v.frozen? ⟨Nb + 13, 25, none⟩ = false := hb.lies.free (b := 13) (j := 25) (v := .i 4) rfl
  have d02 : v.cell? ⟨Nb + 13, 2, none⟩ = some (.slice (some ⟨Nb + 6, 0, none⟩) 2 2) := hb.lies.at (b := 13) (j := 2) (v := .s 6 2) rfl
  have f02 : v.frozen? ⟨Nb + 13, 2, none⟩ = false := hb.lies.free (b := 13) (j := 2) (v := .s 6 2) rfl
  have d33 : v.cell? ⟨Nb + 13, 33, none⟩ = some (.slice (some ⟨Nb + 12, 0, none⟩) 3 3) := hb.lies.at (b := 13) (j := 33) (v := .s 12 3) rfl
  have f33 : v.frozen? ⟨Nb + 13, 33, none⟩ = false := hb.lies.free (b := 13) (j := 33) (v := .s 12 3) rfl
  have ln13 : Nb + 13 < v.heap.size := by omega
  have q2 : v.cell? ⟨A + 1, 2, none⟩ = some (.slice (some ⟨Nb + 3, 0, none⟩) 2 2) := blk_cell hB 2
  have q3 : v.cell? ⟨A + 1, 3, none⟩ = some (.slice (some ⟨Nb + 13, 0, none⟩) 4 4) := blk_cell hB 3
  have q4 : v.cell? ⟨A + 1, 4, none⟩ = some (.int .i64 20) := blk_cell hB 4
  have q5 : v.cell? ⟨A + 1, 5, none⟩ = some (.slice (some ⟨Sb, 0, none⟩) 4 4) := blk_cell hB 5
  have q6 : v.cell? ⟨A + 1, 6, none⟩ = some (.slice (some ⟨Vb, 0, none⟩) 4 4) := blk_cell hB 6
  have qf : v.frozen? ⟨A + 1, 4, none⟩ = false := blk_free hB 4
  have r5 : v.cell? ⟨A, 5, none⟩ = some (.slice (some ⟨Sa, 0, none⟩) 4 4) := blk_cell hA 5
  have lA : A < v.heap.size := by omega
  simp only [nil4, List.getElem?_toArray, List.getElem?_cons_zero, List.getElem?_cons_succ] at sa1 sc1 vc2
  clear ha hb hA hB xv
  go_upto_region 24 with (fail)
  refine wp_forget (fun y => SV Na Sa Va 20 sZ y ∧ SV Nb Sb Vb 20 b1c y ∧ y.heap[A]? = some (helpO Na Sa Va 20) ∧ y.heap[A + 1]? = some (helpO Nb Sb Vb 20) ∧ Ext w0 y) ⟨?_, ?_, block_ext (Ext.refl _) ((Below.heap_setCell _ _ _ _ (by show A ≠ Nb + 1; omega)).trans HBA.out), block_ext (Ext.refl _) ((Below.heap_setCell _ _ _ _ (by show A + 1 ≠ Nb + 1; omega)).trans HBB.out), (XV.out.setCell (by show w0.heap.size ≤ Nb + 1; omega) _)⟩ ?_
  · exact ((HA.out.aside (b := Nb + 1) _ (by omega) (by omega) (by omega)).ext (Ext.refl _)).script baseC_of rfl rfl (nilS_v _) (nilA_v _)
  · exact (HB.out.put (b := 1) (j := 1) (.i 5) rfl (RV.wf_of rfl) (by decide)).script (c := b1c.conf) (by rfl) rfl rfl (nilS_v _) (nilA_v _)
  clear HA HB XV HBA HBB hNa hSa hNb hSb hVb lB bs bv bs2 sa1 saf sc1 vc2 sf1 vf2 pc rc rf d31 f31 d25 f25 d02 f02 d33 f33 ln13 q2 q3 q4 q5 q6 qf r5 lA hmk b13 bsb bvb
  rintro y ⟨sa, sb, kA, kB, hx⟩
  (try clear v)
  have HX := hid hx
  have FA : ScFit sZ := .of (by kernel_rfl) (by kernel_rfl) (by kernel_rfl)
  have FB : ScFit b1c := .of (by kernel_rfl) (by kernel_rfl) (by kernel_rfl)
  have hne : sZ ≠ b1c := fun h => absurd (congrArg (fun s : Scr => s.conf.plans) h) (by decide)
  have hIA := hid (fun z (hz : Ext y z) => show Calls Try.prog 7 #[helpV Na Sa Va 20] z (Yields z .nilIface) from sIs FA.is (sa.ext hz))
  have hIB := hid (fun z (hz : Ext y z) => show Calls Try.prog 7 #[helpV Nb Sb Vb 20] z (Yields z .nilIface) from sIs FB.is (sb.ext hz))
  have hBA := hid (fun z (hz : Ext y z) => gBytes FA.is FA.inn FA.len (sa.ext hz))
  have hBB := hid (fun z (hz : Ext y z) => gBytes FB.is FB.inn FB.len (sb.ext hz))
  have hSM := hid (fun z (hz : Ext y z) => uSame hne (sa.ext hz) (sb.ext hz))
  have hst := fit_ne FA FB hne
  obtain ⟨la, hla⟩ : ∃ l, l = allBytes sZ := ⟨_, rfl⟩
  obtain ⟨lb, hlb⟩ : ∃ l, l = allBytes b1c := ⟨_, rfl⟩
  rw [← hla] at hBA hst
  rw [← hlb] at hBB hst
  rw [str_toList, str_toList] at hst
  have g1 : (la == lb) = false := by simpa using hst
  have g2 : (la != lb) = true := by simpa using hst
  clear hla hlb hst FA FB hne
  have hen := fun w => run_eql_nil_nil' (P := Try.prog) w Try.underlying33
  have lA := lt_of_block kA
  have lB := lt_of_block kB
  have a0 := blk_cell kA 0
  have a1 := blk_cell kA 1
  have a2 := blk_cell kA 2
  have a3 := blk_cell kA 3
  have a4 := blk_cell kA 4
  have a5 := blk_cell kA 5
  have a6 := blk_cell kA 6
  have b0 := blk_cell kB 0
  have b1 := blk_cell kB 1
  have b2 := blk_cell kB 2
  have b3 := blk_cell kB 3
  have b4 := blk_cell kB 4
  have b5 := blk_cell kB 5
  have b6 := blk_cell kB 6
  simp only [List.getElem?_toArray, List.getElem?_cons_zero, List.getElem?_cons_succ] at a0 a1 a2 a3 a4 a5 a6 b0 b1 b2 b3 b4 b5 b6
  clear kA kB sa sb hx
  ((first | refine wp_region_more (by kernel_rfl) (by kernel_rfl) ?_ | refine wp_region_ext (by kernel_rfl) (by kernel_rfl) ?_); (try dsimp only [append_cons', append_nil']); (repeat (go_big_quiet_step ((first | (go_at_call 7; with_reducible refine Calls.more_of (hIA.out _ (ext_more _ _))) | (go_at_call 7; with_reducible refine Calls.more_of (hIB.out _ (ext_more _ _))) | (go_at_call 9; with_reducible refine Calls.more_of (hBA.out _ (ext_more _ _))) | (go_at_call 9; with_reducible refine Calls.more_of (hBB.out _ (ext_more _ _))) | (go_at_call 11; with_reducible refine Calls.more_of (hSM.out _ (ext_more _ _))))))); refine wpQuiet_nil ?_; rintro _ ⟨pq, rfl⟩)
  go_wp2
  go_returns
  exact ⟨rfl, hE0.out.trans (HX.out.more _)⟩

def b1d : Scr := ⟨⟨8, 2, [[2, 6, 2, 2], [5, 1, 1, 1]], [⟨0, 0, [[1, 3], [2, 3]], [], -1, 4, 2, 4, 3, 2⟩, ⟨1, 1, [[3]], [0, 1], 0, 4, 2, 4, 3, 2⟩, ⟨1, 2, [[3]], [], -1, 4, 2, 4, 3, 2⟩, ⟨2, 3, [], [0, 1, 2], 1, 4, 2, 4, 3, 2⟩]⟩, 20, nilS, nilA⟩
set_option maxRecDepth 100000 in
set_option maxHeartbeats 8000000 in
theorem walk1d (which n : Int) (hw0 : 0 ≤ which) (hw1 : which ≤ 255) (hn0 : 0 ≤ n) (hn1 : n ≤ 255) (hk : which % 9 = 1) (hn : n % 4 = 3) (w : World) :
    Calls Try.prog 4 #[.int .u8 which, .int .u8 n] w (Yields w (.bool true)) := by
  have hmk := mkAxns 4 4 rfl (by decide)
  go_enter Try.func4, Try.ntmps4
  go_wp2_with fail
  refine (known4_any _).yields ?_
  intro p0
  have hE0 := hid (ext_more w p0)
  generalize more w p0 = w0 at *
  go_wp2_with fail
  refine (help_any _ 20).mono ?_
  rintro e w1 ⟨Na, Sa, Va, rfl, ha, xa⟩
  go_wp2_with fail
  refine (help_any _ 20).mono ?_
  rintro e w2 ⟨Nb, Sb, Vb, rfl, hb, xb⟩
  have lna := lt_of_block (ha.lies.block (b := 13) rfl)
  have bsa := lt_of_block ha.sb
  have bva := lt_of_block ha.vb
  have hw12 := xb.size
  go_upto_region 5 with (fail)
  refine wp_forget (fun v => HelpS w0.heap.size Na Sa Va baseRO nil4 nil4 v ∧ HelpS w1.heap.size Nb Sb Vb baseRO nil4 nil4 v ∧ v.heap[w2.heap.size]? = some (helpO Na Sa Va 20) ∧ v.heap[w2.heap.size + 1]? = some (helpO Nb Sb Vb 20) ∧ Ext w0 v ∧ Nb + 13 < w2.heap.size ∧ Sb < w2.heap.size ∧ Vb < w2.heap.size)
    ⟨ha.ext (xb.trans (Ext.alloc (Ext.alloc (Ext.refl _) _) _)), hb.ext (Ext.alloc (Ext.alloc (Ext.refl _) _) _), block_ext (Ext.alloc (Ext.refl _) _) (heap_alloc_new w2 (helpO Na Sa Va 20)), heap_new2 w2 (helpO Na Sa Va 20) (helpO Nb Sb Vb 20), (xa.trans xb).trans (Ext.alloc (Ext.alloc (Ext.refl _) _) _), lt_of_block (hb.lies.block (b := 13) rfl), lt_of_block hb.sb, lt_of_block hb.vb⟩ ?_
  clear ha hb xa xb
  generalize w2.heap.size = A at *
  clear w2
  rintro v ⟨ha, hb, hA, hB, xv, b13, bsb, bvb⟩
  have HA := hid ha
  have HB := hid hb
  have XV := hid xv
  have HBA := hid hA
  have HBB := hid hB
  have hNa := ha.hN
  have hSa := ha.hS
  have hNb := hb.hN
  have hSb := hb.hS
  have hVb := hb.hV
  have lB := lt_of_block hB
  have bs := lt_of_block hb.sb
  have bv := lt_of_block hb.vb
  have bs2 := lt_of_block ha.sb
  have sa1 := blk_cell ha.sb 1
  have saf := blk_free ha.sb 1
  have sc1 := blk_cell hb.sb 1
  have vc2 := blk_cell hb.vb 2
  have sf1 := blk_free hb.sb 1
  have vf2 := blk_free hb.vb 2
  have pc : v.cell? ⟨Nb + 3, 0, none⟩ = some (.slice (some ⟨Nb + 1, 0, none⟩) 4 4) := hb.lies.at (b := 3) (j := 0) (v := .s 1 4) rfl
  have rc : v.cell? ⟨Nb + 1, 1, none⟩ = some (.int .i64 2) := hb.lies.at (b := 1) (j := 1) (v := .i 2) rfl
  have rf : v.frozen? ⟨Nb + 1, 1, none⟩ = false := hb.lies.free (b := 1) (j := 1) (v := .i 2) rfl
  have d31 : v.cell? ⟨Nb + 13, 31, none⟩ = some (.int .u64 3) := hb.lies.at (b := 13) (j := 31) (v := .u 3) rfl
  have f31 : v.frozen? ⟨Nb + 13, 31, none⟩ = false := hb.lies.free (b := 13) (j := 31) (v := .u 3) rfl
  have d25 : v.cell? ⟨Nb + 13, 25, none⟩ = some (.int .i64 4) := hb.lies.at (b := 13) (j := 25) (v := .i 4) rfl
  have f25 : v.frozen? ⟨Nb + 13, 25, none⟩ = false := hb.lies.free (b := 13) (j := 25) (v := .i 4) rfl
  have d02 : v.cell? ⟨Nb + 13, 2, none⟩ = some (.slice (some ⟨Nb + 6, 0, none⟩) 2 2) := hb.lies.at (b := 13) (j := 2) (v := .s 6 2) rfl
  have f02 : v.frozen? ⟨Nb + 13, 2, none⟩ = false := hb.lies.free (b := 13) (j := 2) (v := .s 6 2) rfl
  have d33 : v.cell? ⟨Nb + 13, 33, none⟩ = some (.slice (some ⟨Nb + 12, 0, none⟩) 3 3) := hb.lies.at (b := 13) (j := 33) (v := .s 12 3) rfl
  have f33 : v.frozen? ⟨Nb + 13, 33, none⟩ = false := hb.lies.free (b := 13) (j := 33) (v := .s 12 3) rfl
  have ln13 : Nb + 13 < v.heap.size := by omega
  have q2 : v.cell? ⟨A + 1, 2, none⟩ = some (.slice (some ⟨Nb + 3, 0, none⟩) 2 2) := blk_cell hB 2
  have q3 : v.cell? ⟨A + 1, 3, none⟩ = some (.slice (some ⟨Nb + 13, 0, none⟩) 4 4) := blk_cell hB 3
  have q4 : v.cell? ⟨A + 1, 4, none⟩ = some (.int .i64 20) := blk_cell hB 4
  have q5 : v.cell? ⟨A + 1, 5, none⟩ = some (.slice (some ⟨Sb, 0, none⟩) 4 4) := blk_cell hB 5
  have q6 : v.cell? ⟨A + 1, 6, none⟩ = some (.slice (some ⟨Vb, 0, none⟩) 4 4) := blk_cell hB 6
  have qf : v.frozen? ⟨A + 1, 4, none⟩ = false := blk_free hB 4
  have r5 : v.cell? ⟨A, 5, none⟩ = some (.slice (some ⟨Sa, 0, none⟩) 4 4) := blk_cell hA 5
  have lA : A < v.heap.size := by omega
  simp only [nil4, List.getElem?_toArray, List.getElem?_cons_zero, List.getElem?_cons_succ] at sa1 sc1 vc2
  clear ha hb hA hB xv
  go_upto_region 24 with (fail)
  refine wp_forget (fun y => SV Na Sa Va 20 sZ y ∧ SV Nb Sb Vb 20 b1d y ∧ y.heap[A]? = some (helpO Na Sa Va 20) ∧ y.heap[A + 1]? = some (helpO Nb Sb Vb 20) ∧ Ext w0 y) ⟨?_, ?_, block_ext (Ext.refl _) ((Below.heap_setCell _ _ _ _ (by show A ≠ Nb + 1; omega)).trans HBA.out), block_ext (Ext.refl _) ((Below.heap_setCell _ _ _ _ (by show A + 1 ≠ Nb + 1; omega)).trans HBB.out), (XV.out.setCell (by show w0.heap.size ≤ Nb + 1; omega) _)⟩ ?_
  · exact ((HA.out.aside (b := Nb + 1) _ (by omega) (by omega) (by omega)).ext (Ext.refl _)).script baseC_of rfl rfl (nilS_v _) (nilA_v _)
  · exact (HB.out.put (b := 1) (j := 1) (.i 6) rfl (RV.wf_of rfl) (by decide)).script (c := b1d.conf) (by rfl) rfl rfl (nilS_v _) (nilA_v _)
  clear HA HB XV HBA HBB hNa hSa hNb hSb hVb lB bs bv bs2 sa1 saf sc1 vc2 sf1 vf2 pc rc rf d31 f31 d25 f25 d02 f02 d33 f33 ln13 q2 q3 q4 q5 q6 qf r5 lA hmk b13 bsb bvb
  rintro y ⟨sa, sb, kA, kB, hx⟩
  (try clear v)
  have HX := hid hx
  have FA : ScFit sZ := .of (by kernel_rfl) (by kernel_rfl) (by kernel_rfl)
  have FB : ScFit b1d := .of (by kernel_rfl) (by kernel_rfl) (by kernel_rfl)
  have hne : sZ ≠ b1d := fun h => absurd (congrArg (fun s : Scr => s.conf.plans) h) (by decide)
  have hIA := hid (fun z (hz : Ext y z) => show Calls Try.prog 7 #[helpV Na Sa Va 20] z (Yields z .nilIface) from sIs FA.is (sa.ext hz))
  have hIB := hid (fun z (hz : Ext y z) => show Calls Try.prog 7 #[helpV Nb Sb Vb 20] z (Yields z .nilIface) from sIs FB.is (sb.ext hz))
  have hBA := hid (fun z (hz : Ext y z) => gBytes FA.is FA.inn FA.len (sa.ext hz))
  have hBB := hid (fun z (hz : Ext y z) => gBytes FB.is FB.inn FB.len (sb.ext hz))
  have hSM := hid (fun z (hz : Ext y z) => uSame hne (sa.ext hz) (sb.ext hz))
  have hst := fit_ne FA FB hne
  obtain ⟨la, hla⟩ : ∃ l, l = allBytes sZ := ⟨_, rfl⟩
  obtain ⟨lb, hlb⟩ : ∃ l, l = allBytes b1d := ⟨_, rfl⟩
  rw [← hla] at hBA hst
  rw [← hlb] at hBB hst
  rw [str_toList, str_toList] at hst
  have g1 : (la == lb) = false := by simpa using hst
  have g2 : (la != lb) = true := by simpa using hst
  clear hla hlb hst FA FB hne
  have hen := fun w => run_eql_nil_nil' (P := Try.prog) w Try.underlying33
  have lA := lt_of_block kA
  have lB := lt_of_block kB
  have a0 := blk_cell kA 0
  have a1 := blk_cell kA 1
  have a2 := blk_cell kA 2
  have a3 := blk_cell kA 3
  have a4 := blk_cell kA 4
  have a5 := blk_cell kA 5
  have a6 := blk_cell kA 6
  have b0 := blk_cell kB 0
  have b1 := blk_cell kB 1
  have b2 := blk_cell kB 2
  have b3 := blk_cell kB 3
  have b4 := blk_cell kB 4
  have b5 := blk_cell kB 5
  have b6 := blk_cell kB 6
  simp only [List.getElem?_toArray, List.getElem?_cons_zero, List.getElem?_cons_succ] at a0 a1 a2 a3 a4 a5 a6 b0 b1 b2 b3 b4 b5 b6
  clear kA kB sa sb hx
  ((first | refine wp_region_more (by kernel_rfl) (by kernel_rfl) ?_ | refine wp_region_ext (by kernel_rfl) (by kernel_rfl) ?_); (try dsimp only [append_cons', append_nil']); (repeat (go_big_quiet_step ((first | (go_at_call 7; with_reducible refine Calls.more_of (hIA.out _ (ext_more _ _))) | (go_at_call 7; with_reducible refine Calls.more_of (hIB.out _ (ext_more _ _))) | (go_at_call 9; with_reducible refine Calls.more_of (hBA.out _ (ext_more _ _))) | (go_at_call 9; with_reducible refine Calls.more_of (hBB.out _ (ext_more _ _))) | (go_at_call 11; with_reducible refine Calls.more_of (hSM.out _ (ext_more _ _))))))); refine wpQuiet_nil ?_; rintro _ ⟨pq, rfl⟩)
  go_wp2
  go_returns
  exact ⟨rfl, hE0.out.trans (HX.out.more _)⟩

def b2a : Scr := ⟨⟨8, 2, [[2, 2, 2, 2], [5, 1, 1, 1]], [⟨0, 0, [[1, 3], [2, 3]], [], -1, 4, 2, 4, 3, 2⟩, ⟨1, 1, [[3]], [0, 1], 0, 4, 2, 4, 3, 2⟩, ⟨1, 2, [[3]], [], -1, 4, 2, 4, 3, 2⟩, ⟨2, 2051, [], [0, 1, 2], 1, 4, 2, 4, 3, 2⟩]⟩, 20, nilS, nilA⟩
set_option maxRecDepth 100000 in
set_option maxHeartbeats 8000000 in
theorem walk2a (which n : Int) (hw0 : 0 ≤ which) (hw1 : which ≤ 255) (hn0 : 0 ≤ n) (hn1 : n ≤ 255) (hk : which % 9 = 2) (hn : n % 4 = 0) (w : World) :
    Calls Try.prog 4 #[.int .u8 which, .int .u8 n] w (Yields w (.bool true)) := by
  have hmk := mkAxns 1 1 rfl (by decide)
  go_enter Try.func4, Try.ntmps4
  go_wp2_with fail
  refine (known4_any _).yields ?_
  intro p0
  have hE0 := hid (ext_more w p0)
  generalize more w p0 = w0 at *
  go_wp2_with fail
  refine (help_any _ 20).mono ?_
  rintro e w1 ⟨Na, Sa, Va, rfl, ha, xa⟩
  go_wp2_with fail
  refine (help_any _ 20).mono ?_
  rintro e w2 ⟨Nb, Sb, Vb, rfl, hb, xb⟩
  have lna := lt_of_block (ha.lies.block (b := 13) rfl)
  have bsa := lt_of_block ha.sb
  have bva := lt_of_block ha.vb
  have hw12 := xb.size
  go_upto_region 5 with (fail)
  refine wp_forget (fun v => HelpS w0.heap.size Na Sa Va baseRO nil4 nil4 v ∧ HelpS w1.heap.size Nb Sb Vb baseRO nil4 nil4 v ∧ v.heap[w2.heap.size]? = some (helpO Na Sa Va 20) ∧ v.heap[w2.heap.size + 1]? = some (helpO Nb Sb Vb 20) ∧ Ext w0 v ∧ Nb + 13 < w2.heap.size ∧ Sb < w2.heap.size ∧ Vb < w2.heap.size)
    ⟨ha.ext (xb.trans (Ext.alloc (Ext.alloc (Ext.refl _) _) _)), hb.ext (Ext.alloc (Ext.alloc (Ext.refl _) _) _), block_ext (Ext.alloc (Ext.refl _) _) (heap_alloc_new w2 (helpO Na Sa Va 20)), heap_new2 w2 (helpO Na Sa Va 20) (helpO Nb Sb Vb 20), (xa.trans xb).trans (Ext.alloc (Ext.alloc (Ext.refl _) _) _), lt_of_block (hb.lies.block (b := 13) rfl), lt_of_block hb.sb, lt_of_block hb.vb⟩ ?_
  clear ha hb xa xb
  generalize w2.heap.size = A at *
  clear w2
  rintro v ⟨ha, hb, hA, hB, xv, b13, bsb, bvb⟩
  have HA := hid ha
  have HB := hid hb
  have XV := hid xv
  have HBA := hid hA
  have HBB := hid hB
  have hNa := ha.hN
  have hSa := ha.hS
  have hNb := hb.hN
  have hSb := hb.hS
  have hVb := hb.hV
  have lB := lt_of_block hB
  have bs := lt_of_block hb.sb
  have bv := lt_of_block hb.vb
  have bs2 := lt_of_block ha.sb
  have sa1 := blk_cell ha.sb 1
  have saf := blk_free ha.sb 1
  have sc1 := blk_cell hb.sb 1
  have vc2 := blk_cell hb.vb 2
  have sf1 := blk_free hb.sb 1
  have vf2 := blk_free hb.vb 2
  have pc : v.cell? ⟨Nb + 3, 0, none⟩ = some (.slice (some ⟨Nb + 1, 0, none⟩) 4 4) := hb.lies.at (b := 3) (j := 0) (v := .s 1 4) rfl
  have rc : v.cell? ⟨Nb + 1, 1, none⟩ = some (.int .i64 2) := hb.lies.at (b := 1) (j := 1) (v := .i 2) rfl
  have rf : v.frozen? ⟨Nb + 1, 1, none⟩ = false := hb.lies.free (b := 1) (j := 1) (v := .i 2) rfl
  have d31 : v.cell? ⟨Nb + 13, 31, none⟩ = some (.int .u64 3) := hb.lies.at (b := 13) (j := 31) (v := .u 3) rfl
  have f31 : v.frozen? ⟨Nb + 13, 31, none⟩ = false := hb.lies.free (b := 13) (j := 31) (v := .u 3) rfl
  have d25 : v.cell? ⟨Nb + 13, 25, none⟩ = some (.int .i64 4) := hb.lies.at (b := 13) (j := 25) (v := .i 4) rfl
  have f25 : v.frozen? ⟨Nb + 13, 25, none⟩ = false := hb.lies.free (b := 13) (j := 25) (v := .i 4) rfl
  have d02 : v.cell? ⟨Nb + 13, 2, none⟩ = some (.slice (some ⟨Nb + 6, 0, none⟩) 2 2) := hb.lies.at (b := 13) (j := 2) (v := .s 6 2) rfl
  have f02 : v.frozen? ⟨Nb + 13, 2, none⟩ = false := hb.lies.free (b := 13) (j := 2) (v := .s 6 2) rfl
  have d33 : v.cell? ⟨Nb + 13, 33, none⟩ = some (.slice (some ⟨Nb + 12, 0, none⟩) 3 3) := hb.lies.at (b := 13) (j := 33) (v := .s 12 3) rfl
  have f33 : v.frozen? ⟨Nb + 13, 33, none⟩ = false := hb.lies.free (b := 13) (j := 33) (v := .s 12 3) rfl
  have ln13 : Nb + 13 < v.heap.size := by omega
  have q2 : v.cell? ⟨A + 1, 2, none⟩ = some (.slice (some ⟨Nb + 3, 0, none⟩) 2 2) := blk_cell hB 2
  have q3 : v.cell? ⟨A + 1, 3, none⟩ = some (.slice (some ⟨Nb + 13, 0, none⟩) 4 4) := blk_cell hB 3
  have q4 : v.cell? ⟨A + 1, 4, none⟩ = some (.int .i64 20) := blk_cell hB 4
  have q5 : v.cell? ⟨A + 1, 5, none⟩ = some (.slice (some ⟨Sb, 0, none⟩) 4 4) := blk_cell hB 5
  have q6 : v.cell? ⟨A + 1, 6, none⟩ = some (.slice (some ⟨Vb, 0, none⟩) 4 4) := blk_cell hB 6
  have qf : v.frozen? ⟨A + 1, 4, none⟩ = false := blk_free hB 4
  have r5 : v.cell? ⟨A, 5, none⟩ = some (.slice (some ⟨Sa, 0, none⟩) 4 4) := blk_cell hA 5
  have lA : A < v.heap.size := by omega
  simp only [nil4, List.getElem?_toArray, List.getElem?_cons_zero, List.getElem?_cons_succ] at sa1 sc1 vc2
  clear ha hb hA hB xv
  go_upto_region 24 with (fail)
  refine wp_forget (fun y => SV Na Sa Va 20 sZ y ∧ SV Nb Sb Vb 20 b2a y ∧ y.heap[A]? = some (helpO Na Sa Va 20) ∧ y.heap[A + 1]? = some (helpO Nb Sb Vb 20) ∧ Ext w0 y) ⟨?_, ?_, block_ext (Ext.refl _) ((Below.heap_setCell _ _ _ _ (by show A ≠ Nb + 13; omega)).trans HBA.out), block_ext (Ext.refl _) ((Below.heap_setCell _ _ _ _ (by show A + 1 ≠ Nb + 13; omega)).trans HBB.out), (XV.out.setCell (by show w0.heap.size ≤ Nb + 13; omega) _)⟩ ?_
  · exact ((HA.out.aside (b := Nb + 13) _ (by omega) (by omega) (by omega)).ext (Ext.refl _)).script baseC_of rfl rfl (nilS_v _) (nilA_v _)
  · exact (HB.out.put (b := 13) (j := 31) (.u 2051) rfl (RV.wf_of rfl) (by decide)).script (c := b2a.conf) (by rfl) rfl rfl (nilS_v _) (nilA_v _)
  clear HA HB XV HBA HBB hNa hSa hNb hSb hVb lB bs bv bs2 sa1 saf sc1 vc2 sf1 vf2 pc rc rf d31 f31 d25 f25 d02 f02 d33 f33 ln13 q2 q3 q4 q5 q6 qf r5 lA hmk b13 bsb bvb
  rintro y ⟨sa, sb, kA, kB, hx⟩
  (try clear v)
  have HX := hid hx
  have FA : ScFit sZ := .of (by kernel_rfl) (by kernel_rfl) (by kernel_rfl)
  have FB : ScFit b2a := .of (by kernel_rfl) (by kernel_rfl) (by kernel_rfl)
  have hne : sZ ≠ b2a := fun h => absurd (congrArg (fun s : Scr => s.conf.doms.map (·.cats)) h) (by decide)
  have hIA := hid (fun z (hz : Ext y z) => show Calls Try.prog 7 #[helpV Na Sa Va 20] z (Yields z .nilIface) from sIs FA.is (sa.ext hz))
  have hIB := hid (fun z (hz : Ext y z) => show Calls Try.prog 7 #[helpV Nb Sb Vb 20] z (Yields z .nilIface) from sIs FB.is (sb.ext hz))
  have hBA := hid (fun z (hz : Ext y z) => gBytes FA.is FA.inn FA.len (sa.ext hz))
  have hBB := hid (fun z (hz : Ext y z) => gBytes FB.is FB.inn FB.len (sb.ext hz))
  have hSM := hid (fun z (hz : Ext y z) => uSame hne (sa.ext hz) (sb.ext hz))
  have hst := fit_ne FA FB hne
  obtain ⟨la, hla⟩ : ∃ l, l = allBytes sZ := ⟨_, rfl⟩
  obtain ⟨lb, hlb⟩ : ∃ l, l = allBytes b2a := ⟨_, rfl⟩
  rw [← hla] at hBA hst
  rw [← hlb] at hBB hst
  rw [str_toList, str_toList] at hst
  have g1 : (la == lb) = false := by simpa using hst
  have g2 : (la != lb) = true := by simpa using hst
  clear hla hlb hst FA FB hne
  have hen := fun w => run_eql_nil_nil' (P := Try.prog) w Try.underlying33
  have lA := lt_of_block kA
  have lB := lt_of_block kB
  have a0 := blk_cell kA 0
  have a1 := blk_cell kA 1
  have a2 := blk_cell kA 2
  have a3 := blk_cell kA 3
  have a4 := blk_cell kA 4
  have a5 := blk_cell kA 5
  have a6 := blk_cell kA 6
  have b0 := blk_cell kB 0
  have b1 := blk_cell kB 1
  have b2 := blk_cell kB 2
  have b3 := blk_cell kB 3
  have b4 := blk_cell kB 4
  have b5 := blk_cell kB 5
  have b6 := blk_cell kB 6
  simp only [List.getElem?_toArray, List.getElem?_cons_zero, List.getElem?_cons_succ] at a0 a1 a2 a3 a4 a5 a6 b0 b1 b2 b3 b4 b5 b6
  clear kA kB sa sb hx
  ((first | refine wp_region_more (by kernel_rfl) (by kernel_rfl) ?_ | refine wp_region_ext (by kernel_rfl) (by kernel_rfl) ?_); (try dsimp only [append_cons', append_nil']); (repeat (go_big_quiet_step ((first | (go_at_call 7; with_reducible refine Calls.more_of (hIA.out _ (ext_more _ _))) | (go_at_call 7; with_reducible refine Calls.more_of (hIB.out _ (ext_more _ _))) | (go_at_call 9; with_reducible refine Calls.more_of (hBA.out _ (ext_more _ _))) | (go_at_call 9; with_reducible refine Calls.more_of (hBB.out _ (ext_more _ _))) | (go_at_call 11; with_reducible refine Calls.more_of (hSM.out _ (ext_more _ _))))))); refine wpQuiet_nil ?_; rintro _ ⟨pq, rfl⟩)
  go_wp2
  go_returns
  exact ⟨rfl, hE0.out.trans (HX.out.more _)⟩

def b2b : Scr := ⟨⟨8, 2, [[2, 2, 2, 2], [5, 1, 1, 1]], [⟨0, 0, [[1, 3], [2, 3]], [], -1, 4, 2, 4, 3, 2⟩, ⟨1, 1, [[3]], [0, 1], 0, 4, 2, 4, 3, 2⟩, ⟨1, 2, [[3]], [], -1, 4, 2, 4, 3, 2⟩, ⟨2, 4099, [], [0, 1, 2], 1, 4, 2, 4, 3, 2⟩]⟩, 20, nilS, nilA⟩
set_option maxRecDepth 100000 in
set_option maxHeartbeats 8000000 in
theorem walk2b (which n : Int) (hw0 : 0 ≤ which) (hw1 : which ≤ 255) (hn0 : 0 ≤ n) (hn1 : n ≤ 255) (hk : which % 9 = 2) (hn : n % 4 = 1) (w : World) :
    Calls Try.prog 4 #[.int .u8 which, .int .u8 n] w (Yields w (.bool true)) := by
  have hmk := mkAxns 2 2 rfl (by decide)
  go_enter Try.func4, Try.ntmps4
  go_wp2_with fail
  refine (known4_any _).yields ?_
  intro p0
  have hE0 := hid (ext_more w p0)
  generalize more w p0 = w0 at *
  go_wp2_with fail
  refine (help_any _ 20).mono ?_
  rintro e w1 ⟨Na, Sa, Va, rfl, ha, xa⟩
  go_wp2_with fail
  refine (help_any _ 20).mono ?_
  rintro e w2 ⟨Nb, Sb, Vb, rfl, hb, xb⟩
  have lna := lt_of_block (ha.lies.block (b := 13) rfl)
  have bsa := lt_of_block ha.sb
  have bva := lt_of_block ha.vb
  have hw12 := xb.size
  go_upto_region 5 with (fail)
  refine wp_forget (fun v => HelpS w0.heap.size Na Sa Va baseRO nil4 nil4 v ∧ HelpS w1.heap.size Nb Sb Vb baseRO nil4 nil4 v ∧ v.heap[w2.heap.size]? = some (helpO Na Sa Va 20) ∧ v.heap[w2.heap.size + 1]? = some (helpO Nb Sb Vb 20) ∧ Ext w0 v ∧ Nb + 13 < w2.heap.size ∧ Sb < w2.heap.size ∧ Vb < w2.heap.size)
    ⟨ha.ext (xb.trans (Ext.alloc (Ext.alloc (Ext.refl _) _) _)), hb.ext (Ext.alloc (Ext.alloc (Ext.refl _) _) _), block_ext (Ext.alloc (Ext.refl _) _) (heap_alloc_new w2 (helpO Na Sa Va 20)), heap_new2 w2 (helpO Na Sa Va 20) (helpO Nb Sb Vb 20), (xa.trans xb).trans (Ext.alloc (Ext.alloc (Ext.refl _) _) _), lt_of_block (hb.lies.block (b := 13) rfl), lt_of_block hb.sb, lt_of_block hb.vb⟩ ?_
  clear ha hb xa xb
  generalize w2.heap.size = A at *
  clear w2
  rintro v ⟨ha, hb, hA, hB, xv, b13, bsb, bvb⟩
  have HA := hid ha
  have HB := hid hb
  have XV := hid xv
  have HBA := hid hA
  have HBB := hid hB
  have hNa := ha.hN
  have hSa := ha.hS
  have hNb := hb.hN
  have hSb := hb.hS
  have hVb := hb.hV
  have lB := lt_of_block hB
  have bs := lt_of_block hb.sb
  have bv := lt_of_block hb.vb
  have bs2 := lt_of_block ha.sb
  have sa1 := blk_cell ha.sb 1
  have saf := blk_free ha.sb 1
  have sc1 := blk_cell hb.sb 1
  have vc2 := blk_cell hb.vb 2
  have sf1 := blk_free hb.sb 1
  have vf2 := blk_free hb.vb 2
  have pc : v.cell? ⟨Nb + 3, 0, none⟩ = some (.slice (some ⟨Nb + 1, 0, none⟩) 4 4) := hb.lies.at (b := 3) (j := 0) (v := .s 1 4) rfl
  have rc : v.cell? ⟨Nb + 1, 1, none⟩ = some (.int .i64 2) := hb.lies.at (b := 1) (j := 1) (v := .i 2) rfl
  have rf : v.frozen? ⟨Nb + 1, 1, none⟩ = false := hb.lies.free (b := 1) (j := 1) (v := .i 2) rfl
  have d31 : v.cell? ⟨Nb + 13, 31, none⟩ = some (.int .u64 3) := hb.lies.at (b := 13) (j := 31) (v := .u 3) rfl
  have f31 : v.frozen? ⟨Nb + 13, 31, none⟩ = false := hb.lies.free (b := 13) (j := 31) (v := .u 3) rfl
  have d25 : v.cell? ⟨Nb + 13, 25, none⟩ = some (.int .i64 4) := hb.lies.at (b := 13) (j := 25) (v := .i 4) rfl
  have f25 : v.frozen? ⟨Nb + 13, 25, none⟩ = false := hb.lies.free (b := 13) (j := 25) (v := .i 4) rfl
  have d02 : v.cell? ⟨Nb + 13, 2, none⟩ = some (.slice (some ⟨Nb + 6, 0, none⟩) 2 2) := hb.lies.at (b := 13) (j := 2) (v := .s 6 2) rfl
  have f02 : v.frozen? ⟨Nb + 13, 2, none⟩ = false := hb.lies.free (b := 13) (j := 2) (v := .s 6 2) rfl
  have d33 : v.cell? ⟨Nb + 13, 33, none⟩ = some (.slice (some ⟨Nb + 12, 0, none⟩) 3 3) := hb.lies.at (b := 13) (j := 33) (v := .s 12 3) rfl
  have f33 : v.frozen? ⟨Nb + 13, 33, none⟩ = false := hb.lies.free (b := 13) (j := 33) (v := .s 12 3) rfl
  have ln13 : Nb + 13 < v.heap.size := by omega
  have q2 : v.cell? ⟨A + 1, 2, none⟩ = some (.slice (some ⟨Nb + 3, 0, none⟩) 2 2) := blk_cell hB 2
  have q3 : v.cell? ⟨A + 1, 3, none⟩ = some (.slice (some ⟨Nb + 13, 0, none⟩) 4 4) := blk_cell hB 3
  have q4 : v.cell? ⟨A + 1, 4, none⟩ = some (.int .i64 20) := blk_cell hB 4
  have q5 : v.cell? ⟨A + 1, 5, none⟩ = some (.slice (some ⟨Sb, 0, none⟩) 4 4) := blk_cell hB 5
  have q6 : v.cell? ⟨A + 1, 6, none⟩ = some (.slice (some ⟨Vb, 0, none⟩) 4 4) := blk_cell hB 6
  have qf : v.frozen? ⟨A + 1, 4, none⟩ = false := blk_free hB 4
  have r5 : v.cell? ⟨A, 5, none⟩ = some (.slice (some ⟨Sa, 0, none⟩) 4 4) := blk_cell hA 5
  have lA : A < v.heap.size := by omega
  simp only [nil4, List.getElem?_toArray, List.getElem?_cons_zero, List.getElem?_cons_succ] at sa1 sc1 vc2
  clear ha hb hA hB xv
  go_upto_region 24 with (fail)
  refine wp_forget (fun y => SV Na Sa Va 20 sZ y ∧ SV Nb Sb Vb 20 b2b y ∧ y.heap[A]? = some (helpO Na Sa Va 20) ∧ y.heap[A + 1]? = some (helpO Nb Sb Vb 20) ∧ Ext w0 y) ⟨?_, ?_, block_ext (Ext.refl _) ((Below.heap_setCell _ _ _ _ (by show A ≠ Nb + 13; omega)).trans HBA.out), block_ext (Ext.refl _) ((Below.heap_setCell _ _ _ _ (by show A + 1 ≠ Nb + 13; omega)).trans HBB.out), (XV.out.setCell (by show w0.heap.size ≤ Nb + 13; omega) _)⟩ ?_
  · exact ((HA.out.aside (b := Nb + 13) _ (by omega) (by omega) (by omega)).ext (Ext.refl _)).script baseC_of rfl rfl (nilS_v _) (nilA_v _)
  · exact (HB.out.put (b := 13) (j := 31) (.u 4099) rfl (RV.wf_of rfl) (by decide)).script (c := b2b.conf) (by rfl) rfl rfl (nilS_v _) (nilA_v _)
  clear HA HB XV HBA HBB hNa hSa hNb hSb hVb lB bs bv bs2 sa1 saf sc1 vc2 sf1 vf2 pc rc rf d31 f31 d25 f25 d02 f02 d33 f33 ln13 q2 q3 q4 q5 q6 qf r5 lA hmk b13 bsb bvb
  rintro y ⟨sa, sb, kA, kB, hx⟩
  (try clear v)
  have HX := hid hx
  have FA : ScFit sZ := .of (by kernel_rfl) (by kernel_rfl) (by kernel_rfl)
  have FB : ScFit b2b := .of (by kernel_rfl) (by kernel_rfl) (by kernel_rfl)
  have hne : sZ ≠ b2b := fun h => absurd (congrArg (fun s : Scr => s.conf.doms.map (·.cats)) h) (by decide)
  have hIA := hid (fun z (hz : Ext y z) => show Calls Try.prog 7 #[helpV Na Sa Va 20] z (Yields z .nilIface) from sIs FA.is (sa.ext hz))
  have hIB := hid (fun z (hz : Ext y z) => show Calls Try.prog 7 #[helpV Nb Sb Vb 20] z (Yields z .nilIface) from sIs FB.is (sb.ext hz))
  have hBA := hid (fun z (hz : Ext y z) => gBytes FA.is FA.inn FA.len (sa.ext hz))
  have hBB := hid (fun z (hz : Ext y z) => gBytes FB.is FB.inn FB.len (sb.ext hz))
  have hSM := hid (fun z (hz : Ext y z) => uSame hne (sa.ext hz) (sb.ext hz))
  have hst := fit_ne FA FB hne
  obtain ⟨la, hla⟩ : ∃ l, l = allBytes sZ := ⟨_, rfl⟩
  obtain ⟨lb, hlb⟩ : ∃ l, l = allBytes b2b := ⟨_, rfl⟩
  rw [← hla] at hBA hst
  rw [← hlb] at hBB hst
  rw [str_toList, str_toList] at hst
  have g1 : (la == lb) = false := by simpa using hst
  have g2 : (la != lb) = true := by simpa using hst
  clear hla hlb hst FA FB hne
  have hen := fun w => run_eql_nil_nil' (P := Try.prog) w Try.underlying33
  have lA := lt_of_block kA
  have lB := lt_of_block kB
  have a0 := blk_cell kA 0
  have a1 := blk_cell kA 1
  have a2 := blk_cell kA 2
  have a3 := blk_cell kA 3
  have a4 := blk_cell kA 4
  have a5 := blk_cell kA 5
  have a6 := blk_cell kA 6
  have b0 := blk_cell kB 0
  have b1 := blk_cell kB 1
  have b2 := blk_cell kB 2
  have b3 := blk_cell kB 3
  have b4 := blk_cell kB 4
  have b5 := blk_cell kB 5
  have b6 := blk_cell kB 6
  simp only [List.getElem?_toArray, List.getElem?_cons_zero, List.getElem?_cons_succ] at a0 a1 a2 a3 a4 a5 a6 b0 b1 b2 b3 b4 b5 b6
  clear kA kB sa sb hx
  ((first | refine wp_region_more (by kernel_rfl) (by kernel_rfl) ?_ | refine wp_region_ext (by kernel_rfl) (by kernel_rfl) ?_); (try dsimp only [append_cons', append_nil']); (repeat (go_big_quiet_step ((first | (go_at_call 7; with_reducible refine Calls.more_of (hIA.out _ (ext_more _ _))) | (go_at_call 7; with_reducible refine Calls.more_of (hIB.out _ (ext_more _ _))) | (go_at_call 9; with_reducible refine Calls.more_of (hBA.out _ (ext_more _ _))) | (go_at_call 9; with_reducible refine Calls.more_of (hBB.out _ (ext_more _ _))) | (go_at_call 11; with_reducible refine Calls.more_of (hSM.out _ (ext_more _ _))))))); refine wpQuiet_nil ?_; rintro _ ⟨pq, rfl⟩)
  go_wp2
  go_returns
  exact ⟨rfl, hE0.out.trans (HX.out.more _)⟩

def b2c : Scr := ⟨⟨8, 2, [[2, 2, 2, 2], [5, 1, 1, 1]], [⟨0, 0, [[1, 3], [2, 3]], [], -1, 4, 2, 4, 3, 2⟩, ⟨1, 1, [[3]], [0, 1], 0, 4, 2, 4, 3, 2⟩, ⟨1, 2, [[3]], [], -1, 4, 2, 4, 3, 2⟩, ⟨2, 8195, [], [0, 1, 2], 1, 4, 2, 4, 3, 2⟩]⟩, 20, nilS, nilA⟩
set_option maxRecDepth 100000 in
set_option maxHeartbeats 8000000 in
theorem walk2c (which n : Int) (hw0 : 0 ≤ which) (hw1 : which ≤ 255) (hn0 : 0 ≤ n) (hn1 : n ≤ 255) (hk : which % 9 = 2) (hn : n % 4 = 2) (w : World) :
    Calls Try.prog 4 #[.int .u8 which, .int .u8 n] w (Yields w (.bool true)) := by
  have hmk := mkAxns 3 3 rfl (by decide)
  go_enter Try.func4, Try.ntmps4
  go_wp2_with fail
  refine (known4_any _).yields ?_
  intro p0
  have hE0 := hid (ext_more w p0)
  generalize more w p0 = w0 at *
  go_wp2_with fail
  refine (help_any _ 20).mono ?_
  rintro e w1 ⟨Na, Sa, Va, rfl, ha, xa⟩
  go_wp2_with fail
  refine (help_any _ 20).mono ?_
  rintro e w2 ⟨Nb, Sb, Vb, rfl, hb, xb⟩
  have lna := lt_of_block (ha.lies.block (b := 13) rfl)
  have bsa := lt_of_block ha.sb
  have bva := lt_of_block ha.vb
  have hw12 := xb.size
  go_upto_region 5 with (fail)
  refine wp_forget (fun v => HelpS w0.heap.size Na Sa Va baseRO nil4 nil4 v ∧ HelpS w1.heap.size Nb Sb Vb baseRO nil4 nil4 v ∧ v.heap[w2.heap.size]? = some (helpO Na Sa Va 20) ∧ v.heap[w2.heap.size + 1]? = some (helpO Nb Sb Vb 20) ∧ Ext w0 v ∧ Nb + 13 < w2.heap.size ∧ Sb < w2.heap.size ∧ Vb < w2.heap.size)
    ⟨ha.ext (xb.trans (Ext.alloc (Ext.alloc (Ext.refl _) _) _)), hb.ext (Ext.alloc (Ext.alloc (Ext.refl _) _) _), block_ext (Ext.alloc (Ext.refl _) _) (heap_alloc_new w2 (helpO Na Sa Va 20)), heap_new2 w2 (helpO Na Sa Va 20) (helpO Nb Sb Vb 20), (xa.trans xb).trans (Ext.alloc (Ext.alloc (Ext.refl _) _) _), lt_of_block (hb.lies.block (b := 13) rfl), lt_of_block hb.sb, lt_of_block hb.vb⟩ ?_
  clear ha hb xa xb
  generalize w2.heap.size = A at *
  clear w2
  rintro v ⟨ha, hb, hA, hB, xv, b13, bsb, bvb⟩
  have HA := hid ha
  have HB := hid hb
  have XV := hid xv
  have HBA := hid hA
  have HBB := hid hB
  have hNa := ha.hN
  have hSa := ha.hS
  have hNb := hb.hN
  have hSb := hb.hS
  have hVb := hb.hV
  have lB := lt_of_block hB
  have bs := lt_of_block hb.sb
  have bv := lt_of_block hb.vb
  have bs2 := lt_of_block ha.sb
  have sa1 := blk_cell ha.sb 1
  have saf := blk_free ha.sb 1
  have sc1 := blk_cell hb.sb 1
  have vc2 := blk_cell hb.vb 2
  have sf1 := blk_free hb.sb 1
  have vf2 := blk_free hb.vb 2
  have pc : v.cell? ⟨Nb + 3, 0, none⟩ = some (.slice (some ⟨Nb + 1, 0, none⟩) 4 4) := hb.lies.at (b := 3) (j := 0) (v := .s 1 4) rfl
  have rc : v.cell? ⟨Nb + 1, 1, none⟩ = some (.int .i64 2) := hb.lies.at (b := 1) (j := 1) (v := .i 2) rfl
  have rf : v.frozen? ⟨Nb + 1, 1, none⟩ = false := hb.lies.free (b := 1) (j := 1) (v := .i 2) rfl
  have d31 : v.cell? ⟨Nb + 13, 31, none⟩ = some (.int .u64 3) := hb.lies.at (b := 13) (j := 31) (v := .u 3) rfl
  have f31 : v.frozen? ⟨Nb + 13, 31, none⟩ = false := hb.lies.free (b := 13) (j := 31) (v := .u 3) rfl
  have d25 : v.cell? ⟨Nb + 13, 25, none⟩ = some (.int .i64 4) := hb.lies.at (b := 13) (j := 25) (v := .i 4) rfl
  have f25 : v.frozen? ⟨Nb + 13, 25, none⟩ = false := hb.lies.free (b := 13) (j := 25) (v := .i 4) rfl
  have d02 : v.cell? ⟨Nb + 13, 2, none⟩ = some (.slice (some ⟨Nb + 6, 0, none⟩) 2 2) := hb.lies.at (b := 13) (j := 2) (v := .s 6 2) rfl
  have f02 : v.frozen? ⟨Nb + 13, 2, none⟩ = false := hb.lies.free (b := 13) (j := 2) (v := .s 6 2) rfl
  have d33 : v.cell? ⟨Nb + 13, 33, none⟩ = some (.slice (some ⟨Nb + 12, 0, none⟩) 3 3) := hb.lies.at (b := 13) (j := 33) (v := .s 12 3) rfl
  have f33 : v.frozen? ⟨Nb + 13, 33, none⟩ = false := hb.lies.free (b := 13) (j := 33) (v := .s 12 3) rfl
  have ln13 : Nb + 13 < v.heap.size := by omega
  have q2 : v.cell? ⟨A + 1, 2, none⟩ = some (.slice (some ⟨Nb + 3, 0, none⟩) 2 2) := blk_cell hB 2
  have q3 : v.cell? ⟨A + 1, 3, none⟩ = some (.slice (some ⟨Nb + 13, 0, none⟩) 4 4) := blk_cell hB 3
  have q4 : v.cell? ⟨A + 1, 4, none⟩ = some (.int .i64 20) := blk_cell hB 4
  have q5 : v.cell? ⟨A + 1, 5, none⟩ = some (.slice (some ⟨Sb, 0, none⟩) 4 4) := blk_cell hB 5
  have q6 : v.cell? ⟨A + 1, 6, none⟩ = some (.slice (some ⟨Vb, 0, none⟩) 4 4) := blk_cell hB 6
  have qf : v.frozen? ⟨A + 1, 4, none⟩ = false := blk_free hB 4
  have r5 : v.cell? ⟨A, 5, none⟩ = some (.slice (some ⟨Sa, 0, none⟩) 4 4) := blk_cell hA 5
  have lA : A < v.heap.size := by omega
  simp only [nil4, List.getElem?_toArray, List.getElem?_cons_zero, List.getElem?_cons_succ] at sa1 sc1 vc2
  clear ha hb hA hB xv
  go_upto_region 24 with (fail)
  refine wp_forget (fun y => SV Na Sa Va 20 sZ y ∧ SV Nb Sb Vb 20 b2c y ∧ y.heap[A]? = some (helpO Na Sa Va 20) ∧ y.heap[A + 1]? = some (helpO Nb Sb Vb 20) ∧ Ext w0 y) ⟨?_, ?_, block_ext (Ext.refl _) ((Below.heap_setCell _ _ _ _ (by show A ≠ Nb + 13; omega)).trans HBA.out), block_ext (Ext.refl _) ((Below.heap_setCell _ _ _ _ (by show A + 1 ≠ Nb + 13; omega)).trans HBB.out), (XV.out.setCell (by show w0.heap.size ≤ Nb + 13; omega) _)⟩ ?_
  · exact ((HA.out.aside (b := Nb + 13) _ (by omega) (by omega) (by omega)).ext (Ext.refl _)).script baseC_of rfl rfl (nilS_v _) (nilA_v _)
  · exact (HB.out.put (b := 13) (j := 31) (.u 8195) rfl (RV.wf_of rfl) (by decide)).script (c := b2c.conf) (by rfl) rfl rfl (nilS_v _) (nilA_v _)
  clear HA HB XV HBA HBB hNa hSa hNb hSb hVb lB bs bv bs2 sa1 saf sc1 vc2 sf1 vf2 pc rc rf d31 f31 d25 f25 d02 f02 d33 f33 ln13 q2 q3 q4 q5 q6 qf r5 lA hmk b13 bsb bvb
  rintro y ⟨sa, sb, kA, kB, hx⟩
  (try clear v)
  have HX := hid hx
  have FA : ScFit sZ := .of (by kernel_rfl) (by kernel_rfl) (by kernel_rfl)
  have FB : ScFit b2c := .of (by kernel_rfl) (by kernel_rfl) (by kernel_rfl)
  have hne : sZ ≠ b2c := fun h => absurd (congrArg (fun s : Scr => s.conf.doms.map (·.cats)) h) (by decide)
  have hIA := hid (fun z (hz : Ext y z) => show Calls Try.prog 7 #[helpV Na Sa Va 20] z (Yields z .nilIface) from sIs FA.is (sa.ext hz))
  have hIB := hid (fun z (hz : Ext y z) => show Calls Try.prog 7 #[helpV Nb Sb Vb 20] z (Yields z .nilIface) from sIs FB.is (sb.ext hz))
  have hBA := hid (fun z (hz : Ext y z) => gBytes FA.is FA.inn FA.len (sa.ext hz))
  have hBB := hid (fun z (hz : Ext y z) => gBytes FB.is FB.inn FB.len (sb.ext hz))
  have hSM := hid (fun z (hz : Ext y z) => uSame hne (sa.ext hz) (sb.ext hz))
  have hst := fit_ne FA FB hne
  obtain ⟨la, hla⟩ : ∃ l, l = allBytes sZ := ⟨_, rfl⟩
  obtain ⟨lb, hlb⟩ : ∃ l, l = allBytes b2c := ⟨_, rfl⟩
  rw [← hla] at hBA hst
  rw [← hlb] at hBB hst
  rw [str_toList, str_toList] at hst
  have g1 : (la == lb) = false := by simpa using hst
  have g2 : (la != lb) = true := by simpa using hst
  clear hla hlb hst FA FB hne
  have hen := fun w => run_eql_nil_nil' (P := Try.prog) w Try.underlying33
  have lA := lt_of_block kA
  have lB := lt_of_block kB
  have a0 := blk_cell kA 0
  have a1 := blk_cell kA 1
  have a2 := blk_cell kA 2
  have a3 := blk_cell kA 3
  have a4 := blk_cell kA 4
  have a5 := blk_cell kA 5
  have a6 := blk_cell kA 6
  have b0 := blk_cell kB 0
  have b1 := blk_cell kB 1
  have b2 := blk_cell kB 2
  have b3 := blk_cell kB 3
  have b4 := blk_cell kB 4
  have b5 := blk_cell kB 5
  have b6 := blk_cell kB 6
  simp only [List.getElem?_toArray, List.getElem?_cons_zero, List.getElem?_cons_succ] at a0 a1 a2 a3 a4 a5 a6 b0 b1 b2 b3 b4 b5 b6
  clear kA kB sa sb hx
  ((first | refine wp_region_more (by kernel_rfl) (by kernel_rfl) ?_ | refine wp_region_ext (by kernel_rfl) (by kernel_rfl) ?_); (try dsimp only [append_cons', append_nil']); (repeat (go_big_quiet_step ((first | (go_at_call 7; with_reducible refine Calls.more_of (hIA.out _ (ext_more _ _))) | (go_at_call 7; with_reducible refine Calls.more_of (hIB.out _ (ext_more _ _))) | (go_at_call 9; with_reducible refine Calls.more_of (hBA.out _ (ext_more _ _))) | (go_at_call 9; with_reducible refine Calls.more_of (hBB.out _ (ext_more _ _))) | (go_at_call 11; with_reducible refine Calls.more_of (hSM.out _ (ext_more _ _))))))); refine wpQuiet_nil ?_; rintro _ ⟨pq, rfl⟩)
  go_wp2
  go_returns
  exact ⟨rfl, hE0.out.trans (HX.out.more _)⟩

def b2d : Scr := ⟨⟨8, 2, [[2, 2, 2, 2], [5, 1, 1, 1]], [⟨0, 0, [[1, 3], [2, 3]], [], -1, 4, 2, 4, 3, 2⟩, ⟨1, 1, [[3]], [0, 1], 0, 4, 2, 4, 3, 2⟩, ⟨1, 2, [[3]], [], -1, 4, 2, 4, 3, 2⟩, ⟨2, 16387, [], [0, 1, 2], 1, 4, 2, 4, 3, 2⟩]⟩, 20, nilS, nilA⟩
set_option maxRecDepth 100000 in
set_option maxHeartbeats 8000000 in
theorem walk2d (which n : Int) (hw0 : 0 ≤ which) (hw1 : which ≤ 255) (hn0 : 0 ≤ n) (hn1 : n ≤ 255) (hk : which % 9 = 2) (hn : n % 4 = 3) (w : World) :
    Calls Try.prog 4 #[.int .u8 which, .int .u8 n] w (Yields w (.bool true)) := by
  have hmk := mkAxns 4 4 rfl (by decide)
  go_enter Try.func4, Try.ntmps4
  go_wp2_with fail
  refine (known4_any _).yields ?_
  intro p0
  have hE0 := hid (ext_more w p0)
  generalize more w p0 = w0 at *
  go_wp2_with fail
  refine (help_any _ 20).mono ?_
  rintro e w1 ⟨Na, Sa, Va, rfl, ha, xa⟩
  go_wp2_with fail
  refine (help_any _ 20).mono ?_
  rintro e w2 ⟨Nb, Sb, Vb, rfl, hb, xb⟩
  have lna := lt_of_block (ha.lies.block (b := 13) rfl)
  have bsa := lt_of_block ha.sb
  have bva := lt_of_block ha.vb
  have hw12 := xb.size
  go_upto_region 5 with (fail)
  refine wp_forget (fun v => HelpS w0.heap.size Na Sa Va baseRO nil4 nil4 v ∧ HelpS w1.heap.size Nb Sb Vb baseRO nil4 nil4 v ∧ v.heap[w2.heap.size]? = some (helpO Na Sa Va 20) ∧ v.heap[w2.heap.size + 1]? = some (helpO Nb Sb Vb 20) ∧ Ext w0 v ∧ Nb + 13 < w2.heap.size ∧ Sb < w2.heap.size ∧ Vb < w2.heap.size)
    ⟨ha.ext (xb.trans (Ext.alloc (Ext.alloc (Ext.refl _) _) _)), hb.ext (Ext.alloc (Ext.alloc (Ext.refl _) _) _), block_ext (Ext.alloc (Ext.refl _) _) (heap_alloc_new w2 (helpO Na Sa Va 20)), heap_new2 w2 (helpO Na Sa Va 20) (helpO Nb Sb Vb 20), (xa.trans xb).trans (Ext.alloc (Ext.alloc (Ext.refl _) _) _), lt_of_block (hb.lies.block (b := 13) rfl), lt_of_block hb.sb, lt_of_block hb.vb⟩ ?_
  clear ha hb xa xb
  generalize w2.heap.size = A at *
  clear w2
  rintro v ⟨ha, hb, hA, hB, xv, b13, bsb, bvb⟩
  have HA := hid ha
  have HB := hid hb
  have XV := hid xv
  have HBA := hid hA
  have HBB := hid hB
  have hNa := ha.hN
  have hSa := ha.hS
  have hNb := hb.hN
  have hSb := hb.hS
  have hVb := hb.hV
  have lB := lt_of_block hB
  have bs := lt_of_block hb.sb
  have bv := lt_of_block hb.vb
  have bs2 := lt_of_block ha.sb
  have sa1 := blk_cell ha.sb 1
  have saf := blk_free ha.sb 1
  have sc1 := blk_cell hb.sb 1
  have vc2 := blk_cell hb.vb 2
  have sf1 := blk_free hb.sb 1
  have vf2 := blk_free hb.vb 2
  have pc : v.cell? ⟨Nb + 3, 0, none⟩ = some (.slice (some ⟨Nb + 1, 0, none⟩) 4 4) := hb.lies.at (b := 3) (j := 0) (v := .s 1 4) rfl
  have rc : v.cell? ⟨Nb + 1, 1, none⟩ = some (.int .i64 2) := hb.lies.at (b := 1) (j := 1) (v := .i 2) rfl
  have rf : v.frozen? ⟨Nb + 1, 1, none⟩ = false := hb.lies.free (b := 1) (j := 1) (v := .i 2) rfl
  have d31 : v.cell? ⟨Nb + 13, 31, none⟩ = some (.int .u64 3) := hb.lies.at (b := 13) (j := 31) (v := .u 3) rfl
  have f31 : v.frozen? ⟨Nb + 13, 31, none⟩ = false := hb.lies.free (b := 13) (j := 31) (v := .u 3) rfl
  have d25 : v.cell? ⟨Nb + 13, 25, none⟩ = some (.int .i64 4) := hb.lies.at (b := 13) (j := 25) (v := .i 4) rfl
  have f25 : v.frozen? ⟨Nb + 13, 25, none⟩ = false := hb.lies.free (b := 13) (j := 25) (v := .i 4) rfl
  have d02 : v.cell? ⟨Nb + 13, 2, none⟩ = some (.slice (some ⟨Nb + 6, 0, none⟩) 2 2) := hb.lies.at (b := 13) (j := 2) (v := .s 6 2) rfl
  have f02 : v.frozen? ⟨Nb + 13, 2, none⟩ = false := hb.lies.free (b := 13) (j := 2) (v := .s 6 2) rfl
  have d33 : v.cell? ⟨Nb + 13, 33, none⟩ = some (.slice (some ⟨Nb + 12, 0, none⟩) 3 3) := hb.lies.at (b := 13) (j := 33) (v := .s 12 3) rfl
  have f33 : v.frozen? ⟨Nb + 13, 33, none⟩ = false := hb.lies.free (b := 13) (j := 33) (v := .s 12 3) rfl
  have ln13 : Nb + 13 < v.heap.size := by omega
  have q2 : v.cell? ⟨A + 1, 2, none⟩ = some (.slice (some ⟨Nb + 3, 0, none⟩) 2 2) := blk_cell hB 2
  have q3 : v.cell? ⟨A + 1, 3, none⟩ = some (.slice (some ⟨Nb + 13, 0, none⟩) 4 4) := blk_cell hB 3
  have q4 : v.cell? ⟨A + 1, 4, none⟩ = some (.int .i64 20) := blk_cell hB 4
  have q5 : v.cell? ⟨A + 1, 5, none⟩ = some (.slice (some ⟨Sb, 0, none⟩) 4 4) := blk_cell hB 5
  have q6 : v.cell? ⟨A + 1, 6, none⟩ = some (.slice (some ⟨Vb, 0, none⟩) 4 4) := blk_cell hB 6
  have qf : v.frozen? ⟨A + 1, 4, none⟩ = false := blk_free hB 4
  have r5 : v.cell? ⟨A, 5, none⟩ = some (.slice (some ⟨Sa, 0, none⟩) 4 4) := blk_cell hA 5
  have lA : A < v.heap.size := by omega
  simp only [nil4, List.getElem?_toArray, List.getElem?_cons_zero, List.getElem?_cons_succ] at sa1 sc1 vc2
  clear ha hb hA hB xv
  go_upto_region 24 with (fail)
  refine wp_forget (fun y => SV Na Sa Va 20 sZ y ∧ SV Nb Sb Vb 20 b2d y ∧ y.heap[A]? = some (helpO Na Sa Va 20) ∧ y.heap[A + 1]? = some (helpO Nb Sb Vb 20) ∧ Ext w0 y) ⟨?_, ?_, block_ext (Ext.refl _) ((Below.heap_setCell _ _ _ _ (by show A ≠ Nb + 13; omega)).trans HBA.out), block_ext (Ext.refl _) ((Below.heap_setCell _ _ _ _ (by show A + 1 ≠ Nb + 13; omega)).trans HBB.out), (XV.out.setCell (by show w0.heap.size ≤ Nb + 13; omega) _)⟩ ?_
  · exact ((HA.out.aside (b := Nb + 13) _ (by omega) (by omega) (by omega)).ext (Ext.refl _)).script baseC_of rfl rfl (nilS_v _) (nilA_v _)
  · exact (HB.out.put (b := 13) (j := 31) (.u 16387) rfl (RV.wf_of rfl) (by decide)).script (c := b2d.conf) (by rfl) rfl rfl (nilS_v _) (nilA_v _)
  clear HA HB XV HBA HBB hNa hSa hNb hSb hVb lB bs bv bs2 sa1 saf sc1 vc2 sf1 vf2 pc rc rf d31 f31 d25 f25 d02 f02 d33 f33 ln13 q2 q3 q4 q5 q6 qf r5 lA hmk b13 bsb bvb
  rintro y ⟨sa, sb, kA, kB, hx⟩
  (try clear v)
  have HX := hid hx
  have FA : ScFit sZ := .of (by kernel_rfl) (by kernel_rfl) (by kernel_rfl)
  have FB : ScFit b2d := .of (by kernel_rfl) (by kernel_rfl) (by kernel_rfl)
  have hne : sZ ≠ b2d := fun h => absurd (congrArg (fun s : Scr => s.conf.doms.map (·.cats)) h) (by decide)
  have hIA := hid (fun z (hz : Ext y z) => show Calls Try.prog 7 #[helpV Na Sa Va 20] z (Yields z .nilIface) from sIs FA.is (sa.ext hz))
  have hIB := hid (fun z (hz : Ext y z) => show Calls Try.prog 7 #[helpV Nb Sb Vb 20] z (Yields z .nilIface) from sIs FB.is (sb.ext hz))
  have hBA := hid (fun z (hz : Ext y z) => gBytes FA.is FA.inn FA.len (sa.ext hz))
  have hBB := hid (fun z (hz : Ext y z) => gBytes FB.is FB.inn FB.len (sb.ext hz))
  have hSM := hid (fun z (hz : Ext y z) => uSame hne (sa.ext hz) (sb.ext hz))
  have hst := fit_ne FA FB hne
  obtain ⟨la, hla⟩ : ∃ l, l = allBytes sZ := ⟨_, rfl⟩
  obtain ⟨lb, hlb⟩ : ∃ l, l = allBytes b2d := ⟨_, rfl⟩
  rw [← hla] at hBA hst
  rw [← hlb] at hBB hst
  rw [str_toList, str_toList] at hst
  have g1 : (la == lb) = false := by simpa using hst
  have g2 : (la != lb) = true := by simpa using hst
  clear hla hlb hst FA FB hne
  have hen := fun w => run_eql_nil_nil' (P := Try.prog) w Try.underlying33
  have lA := lt_of_block kA
  have lB := lt_of_block kB
  have a0 := blk_cell kA 0
  have a1 := blk_cell kA 1
  have a2 := blk_cell kA 2
  have a3 := blk_cell kA 3
  have a4 := blk_cell kA 4
  have a5 := blk_cell kA 5
  have a6 := blk_cell kA 6
  have b0 := blk_cell kB 0
  have b1 := blk_cell kB 1
  have b2 := blk_cell kB 2
  have b3 := blk_cell kB 3
  have b4 := blk_cell kB 4
  have b5 := blk_cell kB 5
  have b6 := blk_cell kB 6
  simp only [List.getElem?_toArray, List.getElem?_cons_zero, List.getElem?_cons_succ] at a0 a1 a2 a3 a4 a5 a6 b0 b1 b2 b3 b4 b5 b6
  clear kA kB sa sb hx
  ((first | refine wp_region_more (by kernel_rfl) (by kernel_rfl) ?_ | refine wp_region_ext (by kernel_rfl) (by kernel_rfl) ?_); (try dsimp only [append_cons', append_nil']); (repeat (go_big_quiet_step ((first | (go_at_call 7; with_reducible refine Calls.more_of (hIA.out _ (ext_more _ _))) | (go_at_call 7; with_reducible refine Calls.more_of (hIB.out _ (ext_more _ _))) | (go_at_call 9; with_reducible refine Calls.more_of (hBA.out _ (ext_more _ _))) | (go_at_call 9; with_reducible refine Calls.more_of (hBB.out _ (ext_more _ _))) | (go_at_call 11; with_reducible refine Calls.more_of (hSM.out _ (ext_more _ _))))))); refine wpQuiet_nil ?_; rintro _ ⟨pq, rfl⟩)
  go_wp2
  go_returns
  exact ⟨rfl, hE0.out.trans (HX.out.more _)⟩

def b3a : Scr := ⟨⟨8, 2, [[2, 2, 2, 2], [5, 1, 1, 1]], [⟨0, 0, [[1, 3]], [], -1, 4, 2, 4, 3, 2⟩, ⟨1, 1, [[3]], [0, 1], 0, 4, 2, 4, 3, 2⟩, ⟨1, 2, [[3]], [], -1, 4, 2, 4, 3, 2⟩, ⟨2, 3, [], [0, 1, 2], 1, 4, 2, 4, 3, 2⟩]⟩, 20, nilS, nilA⟩
set_option maxRecDepth 100000 in
set_option maxHeartbeats 8000000 in
theorem walk3a (which n : Int) (hw0 : 0 ≤ which) (hw1 : which ≤ 255) (hn0 : 0 ≤ n) (hn1 : n ≤ 255) (hk : which % 9 = 3) (hn : n % 4 = 0) (w : World) :
    Calls Try.prog 4 #[.int .u8 which, .int .u8 n] w (Yields w (.bool true)) := by
  have hmk := mkAxns 1 1 rfl (by decide)
  go_enter Try.func4, Try.ntmps4
  go_wp2_with fail
  refine (known4_any _).yields ?_
  intro p0
  have hE0 := hid (ext_more w p0)
  generalize more w p0 = w0 at *
  go_wp2_with fail
  refine (help_any _ 20).mono ?_
  rintro e w1 ⟨Na, Sa, Va, rfl, ha, xa⟩
  go_wp2_with fail
  refine (help_any _ 20).mono ?_
  rintro e w2 ⟨Nb, Sb, Vb, rfl, hb, xb⟩
  have lna := lt_of_block (ha.lies.block (b := 13) rfl)
  have bsa := lt_of_block ha.sb
  have bva := lt_of_block ha.vb
  have hw12 := xb.size
  go_upto_region 5 with (fail)
  refine wp_forget (fun v => HelpS w0.heap.size Na Sa Va baseRO nil4 nil4 v ∧ HelpS w1.heap.size Nb Sb Vb baseRO nil4 nil4 v ∧ v.heap[w2.heap.size]? = some (helpO Na Sa Va 20) ∧ v.heap[w2.heap.size + 1]? = some (helpO Nb Sb Vb 20) ∧ Ext w0 v ∧ Nb + 13 < w2.heap.size ∧ Sb < w2.heap.size ∧ Vb < w2.heap.size)
    ⟨ha.ext (xb.trans (Ext.alloc (Ext.alloc (Ext.refl _) _) _)), hb.ext (Ext.alloc (Ext.alloc (Ext.refl _) _) _), block_ext (Ext.alloc (Ext.refl _) _) (heap_alloc_new w2 (helpO Na Sa Va 20)), heap_new2 w2 (helpO Na Sa Va 20) (helpO Nb Sb Vb 20), (xa.trans xb).trans (Ext.alloc (Ext.alloc (Ext.refl _) _) _), lt_of_block (hb.lies.block (b := 13) rfl), lt_of_block hb.sb, lt_of_block hb.vb⟩ ?_
  clear ha hb xa xb
  generalize w2.heap.size = A at *
  clear w2
  rintro v ⟨ha, hb, hA, hB, xv, b13, bsb, bvb⟩
  have HA := hid ha
  have HB := hid hb
  have XV := hid xv
  have HBA := hid hA
  have HBB := hid hB
  have hNa := ha.hN
  have hSa := ha.hS
  have hNb := hb.hN
  have hSb := hb.hS
  have hVb := hb.hV
  have lB := lt_of_block hB
  have bs := lt_of_block hb.sb
  have bv := lt_of_block hb.vb
  have bs2 := lt_of_block ha.sb
  have sa1 := blk_cell ha.sb 1
  have saf := blk_free ha.sb 1
  have sc1 := blk_cell hb.sb 1
  have vc2 := blk_cell hb.vb 2
  have sf1 := blk_free hb.sb 1
  have vf2 := blk_free hb.vb 2
  have pc : v.cell? ⟨Nb + 3, 0, none⟩ = some (.slice (some ⟨Nb + 1, 0, none⟩) 4 4) := hb.lies.at (b := 3) (j := 0) (v := .s 1 4) rfl
  have rc : v.cell? ⟨Nb + 1, 1, none⟩ = some (.int .i64 2) := hb.lies.at (b := 1) (j := 1) (v := .i 2) rfl
  have rf : v.frozen? ⟨Nb + 1, 1, none⟩ = false := hb.lies.free (b := 1) (j := 1) (v := .i 2) rfl
  have d31 : v.cell? ⟨Nb + 13, 31, none⟩ = some (.int .u64 3) := hb.lies.at (b := 13) (j := 31) (v := .u 3) rfl
  have f31 : v.frozen? ⟨Nb + 13, 31, none⟩ = false := hb.lies.free (b := 13) (j := 31) (v := .u 3) rfl
  have d25 : v.cell? ⟨Nb + 13, 25, none⟩ = some (.int .i64 4) := hb.lies.at (b := 13) (j := 25) (v := .i 4) rfl
  have f25 : v.frozen? ⟨Nb + 13, 25, none⟩ = false := hb.lies.free (b := 13) (j := 25) (v := .i 4) rfl
  have d02 : v.cell? ⟨Nb + 13, 2, none⟩ = some (.slice (some ⟨Nb + 6, 0, none⟩) 2 2) := hb.lies.at (b := 13) (j := 2) (v := .s 6 2) rfl
  have f02 : v.frozen? ⟨Nb + 13, 2, none⟩ = false := hb.lies.free (b := 13) (j := 2) (v := .s 6 2) rfl
  have d33 : v.cell? ⟨Nb + 13, 33, none⟩ = some (.slice (some ⟨Nb + 12, 0, none⟩) 3 3) := hb.lies.at (b := 13) (j := 33) (v := .s 12 3) rfl
  have f33 : v.frozen? ⟨Nb + 13, 33, none⟩ = false := hb.lies.free (b := 13) (j := 33) (v := .s 12 3) rfl
  have ln13 : Nb + 13 < v.heap.size := by omega
  have q2 : v.cell? ⟨A + 1, 2, none⟩ = some (.slice (some ⟨Nb + 3, 0, none⟩) 2 2) := blk_cell hB 2
  have q3 : v.cell? ⟨A + 1, 3, none⟩ = some (.slice (some ⟨Nb + 13, 0, none⟩) 4 4) := blk_cell hB 3
  have q4 : v.cell? ⟨A + 1, 4, none⟩ = some (.int .i64 20) := blk_cell hB 4
  have q5 : v.cell? ⟨A + 1, 5, none⟩ = some (.slice (some ⟨Sb, 0, none⟩) 4 4) := blk_cell hB 5
  have q6 : v.cell? ⟨A + 1, 6, none⟩ = some (.slice (some ⟨Vb, 0, none⟩) 4 4) := blk_cell hB 6
  have qf : v.frozen? ⟨A + 1, 4, none⟩ = false := blk_free hB 4
  have r5 : v.cell? ⟨A, 5, none⟩ = some (.slice (some ⟨Sa, 0, none⟩) 4 4) := blk_cell hA 5
  have lA : A < v.heap.size := by omega
  simp only [nil4, List.getElem?_toArray, List.getElem?_cons_zero, List.getElem?_cons_succ] at sa1 sc1 vc2
  clear ha hb hA hB xv
  go_upto_region 24 with (fail)
  refine wp_forget (fun y => SV Na Sa Va 20 sZ y ∧ SV Nb Sb Vb 20 b3a y ∧ y.heap[A]? = some (helpO Na Sa Va 20) ∧ y.heap[A + 1]? = some (helpO Nb Sb Vb 20) ∧ Ext w0 y) ⟨?_, ?_, block_ext (Ext.alloc (Ext.alloc (Ext.refl _) _) _) ((Below.heap_setCell _ _ _ _ (by show A ≠ Nb + 13; omega)).trans HBA.out), block_ext (Ext.alloc (Ext.alloc (Ext.refl _) _) _) ((Below.heap_setCell _ _ _ _ (by show A + 1 ≠ Nb + 13; omega)).trans HBB.out), (Ext.alloc (Ext.alloc (XV.out.setCell (by show w0.heap.size ≤ Nb + 13; omega) _) _) _)⟩ ?_
  · exact ((HA.out.aside (b := Nb + 13) _ (by omega) (by omega) (by omega)).ext (Ext.alloc (Ext.alloc (Ext.refl _) _) _)).script baseC_of rfl rfl (nilS_v _) (nilA_v _)
  · have e1 : Ext (v.setCell ⟨Nb + 13, 2, none⟩ (.slice (some ⟨v.heap.size + 1, 0, none⟩) 1 1)) (((v.setCell ⟨Nb + 13, 2, none⟩ (.slice (some ⟨v.heap.size + 1, 0, none⟩) 1 1)).alloc (.cells #[.int .i64 1, .int .i64 3] 3 (0, 0))).alloc (.cells #[.slice (some ⟨v.heap.size, 0, none⟩) 2 2] 48 (0, 0))) := Ext.alloc (Ext.alloc (Ext.refl _) _) _
    have hT := (HB.out.takeAside 2 (.slice (some ⟨v.heap.size + 1, 0, none⟩) 1 1)).ext e1
    have hD := block_ext e1 (HB.out.domBlk 2 (.slice (some ⟨v.heap.size + 1, 0, none⟩) 1 1))
    have n1 := (heap_new2' v ⟨Nb + 13, 2, none⟩ (.slice (some ⟨v.heap.size + 1, 0, none⟩) 1 1) (.cells #[.int .i64 1, .int .i64 3] 3 (0, 0)) (.cells #[.slice (some ⟨v.heap.size, 0, none⟩) 2 2] 48 (0, 0))).1
    have n2 := (heap_new2' v ⟨Nb + 13, 2, none⟩ (.slice (some ⟨v.heap.size + 1, 0, none⟩) 1 1) (.cells #[.int .i64 1, .int .i64 3] 3 (0, 0)) (.cells #[.slice (some ⟨v.heap.size, 0, none⟩) 2 2] 48 (0, 0))).2
    refine SV.of_doms hT (doms4 hD rfl fun i d hi => ?_)
    match i, hi with
    | 0, hi => simp at hi; subst hi; exact ⟨_, _, rfl, rows_one n2 (nums_blk (r := [1, 3]) n1 (by decide) (by decide)), ints_lie hT.lies (v := .nil) (RV.wf_of rfl) (by rfl), by decide, by decide⟩
    | 1, hi => simp at hi; subst hi; exact ⟨_, _, rfl, rows_lie hT.lies (v := .s 8 1) (RV.wf_of rfl) (by rfl), ints_lie hT.lies (v := .s 9 2) (RV.wf_of rfl) (by rfl), by decide, by decide⟩
    | 2, hi => simp at hi; subst hi; exact ⟨_, _, rfl, rows_lie hT.lies (v := .s 11 1) (RV.wf_of rfl) (by rfl), ints_lie hT.lies (v := .nil) (RV.wf_of rfl) (by rfl), by decide, by decide⟩
    | 3, hi => simp at hi; subst hi; exact ⟨_, _, rfl, rows_lie hT.lies (v := .nil) (RV.wf_of rfl) (by rfl), ints_lie hT.lies (v := .s 12 3) (RV.wf_of rfl) (by rfl), by decide, by decide⟩
  clear HA HB XV HBA HBB hNa hSa hNb hSb hVb lB bs bv bs2 sa1 saf sc1 vc2 sf1 vf2 pc rc rf d31 f31 d25 f25 d02 f02 d33 f33 ln13 q2 q3 q4 q5 q6 qf r5 lA hmk b13 bsb bvb
  rintro y ⟨sa, sb, kA, kB, hx⟩
  (try clear v)
  have HX := hid hx
  have FA : ScFit sZ := .of (by kernel_rfl) (by kernel_rfl) (by kernel_rfl)
  have FB : ScFit b3a := .of (by kernel_rfl) (by kernel_rfl) (by kernel_rfl)
  have hne : sZ ≠ b3a := fun h => absurd (congrArg (fun s : Scr => s.conf.doms.map (·.routes)) h) (by decide)
  have hIA := hid (fun z (hz : Ext y z) => show Calls Try.prog 7 #[helpV Na Sa Va 20] z (Yields z .nilIface) from sIs FA.is (sa.ext hz))
  have hIB := hid (fun z (hz : Ext y z) => show Calls Try.prog 7 #[helpV Nb Sb Vb 20] z (Yields z .nilIface) from sIs FB.is (sb.ext hz))
  have hBA := hid (fun z (hz : Ext y z) => gBytes FA.is FA.inn FA.len (sa.ext hz))
  have hBB := hid (fun z (hz : Ext y z) => gBytes FB.is FB.inn FB.len (sb.ext hz))
  have hSM := hid (fun z (hz : Ext y z) => uSame hne (sa.ext hz) (sb.ext hz))
  have hst := fit_ne FA FB hne
  obtain ⟨la, hla⟩ : ∃ l, l = allBytes sZ := ⟨_, rfl⟩
  obtain ⟨lb, hlb⟩ : ∃ l, l = allBytes b3a := ⟨_, rfl⟩
  rw [← hla] at hBA hst
  rw [← hlb] at hBB hst
  rw [str_toList, str_toList] at hst
  have g1 : (la == lb) = false := by simpa using hst
  have g2 : (la != lb) = true := by simpa using hst
  clear hla hlb hst FA FB hne
  have hen := fun w => run_eql_nil_nil' (P := Try.prog) w Try.underlying33
  have lA := lt_of_block kA
  have lB := lt_of_block kB
  have a0 := blk_cell kA 0
  have a1 := blk_cell kA 1
  have a2 := blk_cell kA 2
  have a3 := blk_cell kA 3
  have a4 := blk_cell kA 4
  have a5 := blk_cell kA 5
  have a6 := blk_cell kA 6
  have b0 := blk_cell kB 0
  have b1 := blk_cell kB 1
  have b2 := blk_cell kB 2
  have b3 := blk_cell kB 3
  have b4 := blk_cell kB 4
  have b5 := blk_cell kB 5
  have b6 := blk_cell kB 6
  simp only [List.getElem?_toArray, List.getElem?_cons_zero, List.getElem?_cons_succ] at a0 a1 a2 a3 a4 a5 a6 b0 b1 b2 b3 b4 b5 b6
  clear kA kB sa sb hx
  ((first | refine wp_region_more (by kernel_rfl) (by kernel_rfl) ?_ | refine wp_region_ext (by kernel_rfl) (by kernel_rfl) ?_); (try dsimp only [append_cons', append_nil']); (repeat (go_big_quiet_step ((first | (go_at_call 7; with_reducible refine Calls.more_of (hIA.out _ (ext_more _ _))) | (go_at_call 7; with_reducible refine Calls.more_of (hIB.out _ (ext_more _ _))) | (go_at_call 9; with_reducible refine Calls.more_of (hBA.out _ (ext_more _ _))) | (go_at_call 9; with_reducible refine Calls.more_of (hBB.out _ (ext_more _ _))) | (go_at_call 11; with_reducible refine Calls.more_of (hSM.out _ (ext_more _ _))))))); refine wpQuiet_nil ?_; rintro _ ⟨pq, rfl⟩)
  go_wp2
  go_returns
  exact ⟨rfl, hE0.out.trans (HX.out.more _)⟩

def b3b : Scr := ⟨⟨8, 2, [[2, 2, 2, 2], [5, 1, 1, 1]], [⟨0, 0, [[1, 3]], [], -1, 4, 2, 4, 3, 2⟩, ⟨1, 1, [[3]], [0, 1], 0, 4, 2, 4, 3, 2⟩, ⟨1, 2, [[3]], [], -1, 4, 2, 4, 3, 2⟩, ⟨2, 3, [], [0, 1, 2], 1, 4, 2, 4, 3, 2⟩]⟩, 20, nilS, nilA⟩
set_option maxRecDepth 100000 in
set_option maxHeartbeats 8000000 in
theorem walk3b (which n : Int) (hw0 : 0 ≤ which) (hw1 : which ≤ 255) (hn0 : 0 ≤ n) (hn1 : n ≤ 255) (hk : which % 9 = 3) (hn : n % 4 = 1) (w : World) :
    Calls Try.prog 4 #[.int .u8 which, .int .u8 n] w (Yields w (.bool true)) := by
  have hmk := mkAxns 2 2 rfl (by decide)
  go_enter Try.func4, Try.ntmps4
  go_wp2_with fail
  refine (known4_any _).yields ?_
  intro p0
  have hE0 := hid (ext_more w p0)
  generalize more w p0 = w0 at *
  go_wp2_with fail
  refine (help_any _ 20).mono ?_
  rintro e w1 ⟨Na, Sa, Va, rfl, ha, xa⟩
  go_wp2_with fail
  refine (help_any _ 20).mono ?_
  rintro e w2 ⟨Nb, Sb, Vb, rfl, hb, xb⟩
  have lna := lt_of_block (ha.lies.block (b := 13) rfl)
  have bsa := lt_of_block ha.sb
  have bva := lt_of_block ha.vb
  have hw12 := xb.size
  go_upto_region 5 with (fail)
  refine wp_forget (fun v => HelpS w0.heap.size Na Sa Va baseRO nil4 nil4 v ∧ HelpS w1.heap.size Nb Sb Vb baseRO nil4 nil4 v ∧ v.heap[w2.heap.size]? = some (helpO Na Sa Va 20) ∧ v.heap[w2.heap.size + 1]? = some (helpO Nb Sb Vb 20) ∧ Ext w0 v ∧ Nb + 13 < w2.heap.size ∧ Sb < w2.heap.size ∧ Vb < w2.heap.size)
    ⟨ha.ext (xb.trans (Ext.alloc (Ext.alloc (Ext.refl _) _) _)), hb.ext (Ext.alloc (Ext.alloc (Ext.refl _) _) _), block_ext (Ext.alloc (Ext.refl _) _) (heap_alloc_new w2 (helpO Na Sa Va 20)), heap_new2 w2 (helpO Na Sa Va 20) (helpO Nb Sb Vb 20), (xa.trans xb).trans (Ext.alloc (Ext.alloc (Ext.refl _) _) _), lt_of_block (hb.lies.block (b := 13) rfl), lt_of_block hb.sb, lt_of_block hb.vb⟩ ?_
  clear ha hb xa xb
  generalize w2.heap.size = A at *
  clear w2
  rintro v ⟨ha, hb, hA, hB, xv, b13, bsb, bvb⟩
  have HA := hid ha
  have HB := hid hb
  have XV := hid xv
  have HBA := hid hA
  have HBB := hid hB
  have hNa := ha.hN
  have hSa := ha.hS
  have hNb := hb.hN
  have hSb := hb.hS
  have hVb := hb.hV
  have lB := lt_of_block hB
  have bs := lt_of_block hb.sb
  have bv := lt_of_block hb.vb
  have bs2 := lt_of_block ha.sb
  have sa1 := blk_cell ha.sb 1
  have saf := blk_free ha.sb 1
  have sc1 := blk_cell hb.sb 1
  have vc2 := blk_cell hb.vb 2
  have sf1 := blk_free hb.sb 1
  have vf2 := blk_free hb.vb 2
  have pc : v.cell? ⟨Nb + 3, 0, none⟩ = some (.slice (some ⟨Nb + 1, 0, none⟩) 4 4) := hb.lies.at (b := 3) (j := 0) (v := .s 1 4) rfl
  have rc : v.cell? ⟨Nb + 1, 1, none⟩ = some (.int .i64 2) := hb.lies.at (b := 1) (j := 1) (v := .i 2) rfl
  have rf : v.frozen? ⟨Nb + 1, 1, none⟩ = false := hb.lies.free (b := 1) (j := 1) (v := .i 2) rfl
  have d31 : v.cell? ⟨Nb + 13, 31, none⟩ = some (.int .u64 3) := hb.lies.at (b := 13) (j := 31) (v := .u 3) rfl
  have f31 : v.frozen? ⟨Nb + 13, 31, none⟩ = false := hb.lies.free (b := 13) (j := 31) (v := .u 3) rfl
  have d25 : v.cell? ⟨Nb + 13, 25, none⟩ = some (.int .i64 4) := hb.lies.at (b := 13) (j := 25) (v := .i 4) rfl
  have f25 : v.frozen? ⟨Nb + 13, 25, none⟩ = false := hb.lies.free (b := 13) (j := 25) (v := .i 4) rfl
  have d02 : v.cell? ⟨Nb + 13, 2, none⟩ = some (.slice (some ⟨Nb + 6, 0, none⟩) 2 2) := hb.lies.at (b := 13) (j := 2) (v := .s 6 2) rfl
  have f02 : v.frozen? ⟨Nb + 13, 2, none⟩ = false := hb.lies.free (b := 13) (j := 2) (v := .s 6 2) rfl
  have d33 : v.cell? ⟨Nb + 13, 33, none⟩ = some (.slice (some ⟨Nb + 12, 0, none⟩) 3 3) := hb.lies.at (b := 13) (j := 33) (v := .s 12 3) rfl
  have f33 : v.frozen? ⟨Nb + 13, 33, none⟩ = false := hb.lies.free (b := 13) (j := 33) (v := .s 12 3) rfl
  have ln13 : Nb + 13 < v.heap.size := by omega
  have q2 : v.cell? ⟨A + 1, 2, none⟩ = some (.slice (some ⟨Nb + 3, 0, none⟩) 2 2) := blk_cell hB 2
  have q3 : v.cell? ⟨A + 1, 3, none⟩ = some (.slice (some ⟨Nb + 13, 0, none⟩) 4 4) := blk_cell hB 3
  have q4 : v.cell? ⟨A + 1, 4, none⟩ = some (.int .i64 20) := blk_cell hB 4
  have q5 : v.cell? ⟨A + 1, 5, none⟩ = some (.slice (some ⟨Sb, 0, none⟩) 4 4) := blk_cell hB 5
  have q6 : v.cell? ⟨A + 1, 6, none⟩ = some (.slice (some ⟨Vb, 0, none⟩) 4 4) := blk_cell hB 6
  have qf : v.frozen? ⟨A + 1, 4, none⟩ = false := blk_free hB 4
  have r5 : v.cell? ⟨A, 5, none⟩ = some (.slice (some ⟨Sa, 0, none⟩) 4 4) := blk_cell hA 5
  have lA : A < v.heap.size := by omega
  simp only [nil4, List.getElem?_toArray, List.getElem?_cons_zero, List.getElem?_cons_succ] at sa1 sc1 vc2
  clear ha hb hA hB xv
  go_upto_region 24 with (fail)
  refine wp_forget (fun y => SV Na Sa Va 20 sZ y ∧ SV Nb Sb Vb 20 b3b y ∧ y.heap[A]? = some (helpO Na Sa Va 20) ∧ y.heap[A + 1]? = some (helpO Nb Sb Vb 20) ∧ Ext w0 y) ⟨?_, ?_, block_ext (Ext.alloc (Ext.alloc (Ext.refl _) _) _) ((Below.heap_setCell _ _ _ _ (by show A ≠ Nb + 13; omega)).trans HBA.out), block_ext (Ext.alloc (Ext.alloc (Ext.refl _) _) _) ((Below.heap_setCell _ _ _ _ (by show A + 1 ≠ Nb + 13; omega)).trans HBB.out), (Ext.alloc (Ext.alloc (XV.out.setCell (by show w0.heap.size ≤ Nb + 13; omega) _) _) _)⟩ ?_
  · exact ((HA.out.aside (b := Nb + 13) _ (by omega) (by omega) (by omega)).ext (Ext.alloc (Ext.alloc (Ext.refl _) _) _)).script baseC_of rfl rfl (nilS_v _) (nilA_v _)
  · have e1 : Ext (v.setCell ⟨Nb + 13, 2, none⟩ (.slice (some ⟨v.heap.size + 1, 0, none⟩) 1 1)) (((v.setCell ⟨Nb + 13, 2, none⟩ (.slice (some ⟨v.heap.size + 1, 0, none⟩) 1 1)).alloc (.cells #[.int .i64 1, .int .i64 3] 3 (0, 0))).alloc (.cells #[.slice (some ⟨v.heap.size, 0, none⟩) 2 2] 48 (0, 0))) := Ext.alloc (Ext.alloc (Ext.refl _) _) _
    have hT := (HB.out.takeAside 2 (.slice (some ⟨v.heap.size + 1, 0, none⟩) 1 1)).ext e1
    have hD := block_ext e1 (HB.out.domBlk 2 (.slice (some ⟨v.heap.size + 1, 0, none⟩) 1 1))
    have n1 := (heap_new2' v ⟨Nb + 13, 2, none⟩ (.slice (some ⟨v.heap.size + 1, 0, none⟩) 1 1) (.cells #[.int .i64 1, .int .i64 3] 3 (0, 0)) (.cells #[.slice (some ⟨v.heap.size, 0, none⟩) 2 2] 48 (0, 0))).1
    have n2 := (heap_new2' v ⟨Nb + 13, 2, none⟩ (.slice (some ⟨v.heap.size + 1, 0, none⟩) 1 1) (.cells #[.int .i64 1, .int .i64 3] 3 (0, 0)) (.cells #[.slice (some ⟨v.heap.size, 0, none⟩) 2 2] 48 (0, 0))).2
    refine SV.of_doms hT (doms4 hD rfl fun i d hi => ?_)
    match i, hi with
    | 0, hi => simp at hi; subst hi; exact ⟨_, _, rfl, rows_one n2 (nums_blk (r := [1, 3]) n1 (by decide) (by decide)), ints_lie hT.lies (v := .nil) (RV.wf_of rfl) (by rfl), by decide, by decide⟩
    | 1, hi => simp at hi; subst hi; exact ⟨_, _, rfl, rows_lie hT.lies (v := .s 8 1) (RV.wf_of rfl) (by rfl), ints_lie hT.lies (v := .s 9 2) (RV.wf_of rfl) (by rfl), by decide, by decide⟩
    | 2, hi => simp at hi; subst hi; exact ⟨_, _, rfl, rows_lie hT.lies (v := .s 11 1) (RV.wf_of rfl) (by rfl), ints_lie hT.lies (v := .nil) (RV.wf_of rfl) (by rfl), by decide, by decide⟩
    | 3, hi => simp at hi; subst hi; exact ⟨_, _, rfl, rows_lie hT.lies (v := .nil) (RV.wf_of rfl) (by rfl), ints_lie hT.lies (v := .s 12 3) (RV.wf_of rfl) (by rfl), by decide, by decide⟩
  clear HA HB XV HBA HBB hNa hSa hNb hSb hVb lB bs bv bs2 sa1 saf sc1 vc2 sf1 vf2 pc rc rf d31 f31 d25 f25 d02 f02 d33 f33 ln13 q2 q3 q4 q5 q6 qf r5 lA hmk b13 bsb bvb
  rintro y ⟨sa, sb, kA, kB, hx⟩
  (try clear v)
  have HX := hid hx
  have FA : ScFit sZ := .of (by kernel_rfl) (by kernel_rfl) (by kernel_rfl)
  have FB : ScFit b3b := .of (by kernel_rfl) (by kernel_rfl) (by kernel_rfl)
  have hne : sZ ≠ b3b := fun h => absurd (congrArg (fun s : Scr => s.conf.doms.map (·.routes)) h) (by decide)
  have hIA := hid (fun z (hz : Ext y z) => show Calls Try.prog 7 #[helpV Na Sa Va 20] z (Yields z .nilIface) from sIs FA.is (sa.ext hz))
  have hIB := hid (fun z (hz : Ext y z) => show Calls Try.prog 7 #[helpV Nb Sb Vb 20] z (Yields z .nilIface) from sIs FB.is (sb.ext hz))
  have hBA := hid (fun z (hz : Ext y z) => gBytes FA.is FA.inn FA.len (sa.ext hz))
  have hBB := hid (fun z (hz : Ext y z) => gBytes FB.is FB.inn FB.len (sb.ext hz))
  have hSM := hid (fun z (hz : Ext y z) => uSame hne (sa.ext hz) (sb.ext hz))
  have hst := fit_ne FA FB hne
  obtain ⟨la, hla⟩ : ∃ l, l = allBytes sZ := ⟨_, rfl⟩
  obtain ⟨lb, hlb⟩ : ∃ l, l = allBytes b3b := ⟨_, rfl⟩
  rw [← hla] at hBA hst
  rw [← hlb] at hBB hst
  rw [str_toList, str_toList] at hst
  have g1 : (la == lb) = false := by simpa using hst
  have g2 : (la != lb) = true := by simpa using hst
  clear hla hlb hst FA FB hne
  have hen := fun w => run_eql_nil_nil' (P := Try.prog) w Try.underlying33
  have lA := lt_of_block kA
  have lB := lt_of_block kB
  have a0 := blk_cell kA 0
  have a1 := blk_cell kA 1
  have a2 := blk_cell kA 2
  have a3 := blk_cell kA 3
  have a4 := blk_cell kA 4
  have a5 := blk_cell kA 5
  have a6 := blk_cell kA 6
  have b0 := blk_cell kB 0
  have b1 := blk_cell kB 1
  have b2 := blk_cell kB 2
  have b3 := blk_cell kB 3
  have b4 := blk_cell kB 4
  have b5 := blk_cell kB 5
  have b6 := blk_cell kB 6
  simp only [List.getElem?_toArray, List.getElem?_cons_zero, List.getElem?_cons_succ] at a0 a1 a2 a3 a4 a5 a6 b0 b1 b2 b3 b4 b5 b6
  clear kA kB sa sb hx
  ((first | refine wp_region_more (by kernel_rfl) (by kernel_rfl) ?_ | refine wp_region_ext (by kernel_rfl) (by kernel_rfl) ?_); (try dsimp only [append_cons', append_nil']); (repeat (go_big_quiet_step ((first | (go_at_call 7; with_reducible refine Calls.more_of (hIA.out _ (ext_more _ _))) | (go_at_call 7; with_reducible refine Calls.more_of (hIB.out _ (ext_more _ _))) | (go_at_call 9; with_reducible refine Calls.more_of (hBA.out _ (ext_more _ _))) | (go_at_call 9; with_reducible refine Calls.more_of (hBB.out _ (ext_more _ _))) | (go_at_call 11; with_reducible refine Calls.more_of (hSM.out _ (ext_more _ _))))))); refine wpQuiet_nil ?_; rintro _ ⟨pq, rfl⟩)
  go_wp2
  go_returns
  exact ⟨rfl, hE0.out.trans (HX.out.more _)⟩

def b3c : Scr := ⟨⟨8, 2, [[2, 2, 2, 2], [5, 1, 1, 1]], [⟨0, 0, [[1, 3]], [], -1, 4, 2, 4, 3, 2⟩, ⟨1, 1, [[3]], [0, 1], 0, 4, 2, 4, 3, 2⟩, ⟨1, 2, [[3]], [], -1, 4, 2, 4, 3, 2⟩, ⟨2, 3, [], [0, 1, 2], 1, 4, 2, 4, 3, 2⟩]⟩, 20, nilS, nilA⟩
set_option maxRecDepth 100000 in
set_option maxHeartbeats 8000000 in
theorem walk3c (which n : Int) (hw0 : 0 ≤ which) (hw1 : which ≤ 255) (hn0 : 0 ≤ n) (hn1 : n ≤ 255) (hk : which % 9 = 3) (hn : n % 4 = 2) (w : World) :
    Calls Try.prog 4 #[.int .u8 which, .int .u8 n] w (Yields w (.bool true)) := by
  have hmk := mkAxns 3 3 rfl (by decide)
  go_enter Try.func4, Try.ntmps4
  go_wp2_with fail
  refine (known4_any _).yields ?_
  intro p0
  have hE0 := hid (ext_more w p0)
  generalize more w p0 = w0 at *
  go_wp2_with fail
  refine (help_any _ 20).mono ?_
  rintro e w1 ⟨Na, Sa, Va, rfl, ha, xa⟩
  go_wp2_with fail
  refine (help_any _ 20).mono ?_
  rintro e w2 ⟨Nb, Sb, Vb, rfl, hb, xb⟩
  have lna := lt_of_block (ha.lies.block (b := 13) rfl)
  have bsa := lt_of_block ha.sb
  have bva := lt_of_block ha.vb
  have hw12 := xb.size
  go_upto_region 5 with (fail)
  refine wp_forget (fun v => HelpS w0.heap.size Na Sa Va baseRO nil4 nil4 v ∧ HelpS w1.heap.size Nb Sb Vb baseRO nil4 nil4 v ∧ v.heap[w2.heap.size]? = some (helpO Na Sa Va 20) ∧ v.heap[w2.heap.size + 1]? = some (helpO Nb Sb Vb 20) ∧ Ext w0 v ∧ Nb + 13 < w2.heap.size ∧ Sb < w2.heap.size ∧ Vb < w2.heap.size)
    ⟨ha.ext (xb.trans (Ext.alloc (Ext.alloc (Ext.refl _) _) _)), hb.ext (Ext.alloc (Ext.alloc (Ext.refl _) _) _), block_ext (Ext.alloc (Ext.refl _) _) (heap_alloc_new w2 (helpO Na Sa Va 20)), heap_new2 w2 (helpO Na Sa Va 20) (helpO Nb Sb Vb 20), (xa.trans xb).trans (Ext.alloc (Ext.alloc (Ext.refl _) _) _), lt_of_block (hb.lies.block (b := 13) rfl), lt_of_block hb.sb, lt_of_block hb.vb⟩ ?_
  clear ha hb xa xb
  generalize w2.heap.size = A at *
  clear w2
  rintro v ⟨ha, hb, hA, hB, xv, b13, bsb, bvb⟩
  have HA := hid ha
  have HB := hid hb
  have XV := hid xv
  have HBA := hid hA
  have HBB := hid hB
  have hNa := ha.hN
  have hSa := ha.hS
  have hNb := hb.hN
  have hSb := hb.hS
  have hVb := hb.hV
  have lB := lt_of_block hB
  have bs := lt_of_block hb.sb
  have bv := lt_of_block hb.vb
  have bs2 := lt_of_block ha.sb
  have sa1 := blk_cell ha.sb 1
  have saf := blk_free ha.sb 1
  have sc1 := blk_cell hb.sb 1
  have vc2 := blk_cell hb.vb 2
  have sf1 := blk_free hb.sb 1
  have vf2 := blk_free hb.vb 2
  have pc : v.cell? ⟨Nb + 3, 0, none⟩ = some (.slice (some ⟨Nb + 1, 0, none⟩) 4 4) := hb.lies.at (b := 3) (j := 0) (v := .s 1 4) rfl
  have rc : v.cell? ⟨Nb + 1, 1, none⟩ = some (.int .i64 2) := hb.lies.at (b := 1) (j := 1) (v := .i 2) rfl
  have rf : v.frozen? ⟨Nb + 1, 1, none⟩ = false := hb.lies.free (b := 1) (j := 1) (v := .i 2) rfl
  have d31 : v.cell? ⟨Nb + 13, 31, none⟩ = some (.int .u64 3) := hb.lies.at (b := 13) (j := 31) (v := .u 3) rfl
  have f31 : v.frozen? ⟨Nb + 13, 31, none⟩ = false := hb.lies.free (b := 13) (j := 31) (v := .u 3) rfl
  have d25 : v.cell? ⟨Nb + 13, 25, none⟩ = some (.int .i64 4) := hb.lies.at (b := 13) (j := 25) (v := .i 4) rfl
  have f25 : v.frozen? ⟨Nb + 13, 25, none⟩ = false := hb.lies.free (b := 13) (j := 25) (v := .i 4) rfl
  have d02 : v.cell? ⟨Nb + 13, 2, none⟩ = some (.slice (some ⟨Nb + 6, 0, none⟩) 2 2) := hb.lies.at (b := 13) (j := 2) (v := .s 6 2) rfl
  have f02 : v.frozen? ⟨Nb + 13, 2, none⟩ = false := hb.lies.free (b := 13) (j := 2) (v := .s 6 2) rfl
  have d33 : v.cell? ⟨Nb + 13, 33, none⟩ = some (.slice (some ⟨Nb + 12, 0, none⟩) 3 3) := hb.lies.at (b := 13) (j := 33) (v := .s 12 3) rfl
  have f33 : v.frozen? ⟨Nb + 13, 33, none⟩ = false := hb.lies.free (b := 13) (j := 33) (v := .s 12 3) rfl
  have ln13 : Nb + 13 < v.heap.size := by omega
  have q2 : v.cell? ⟨A + 1, 2, none⟩ = some (.slice (some ⟨Nb + 3, 0, none⟩) 2 2) := blk_cell hB 2
  have q3 : v.cell? ⟨A + 1, 3, none⟩ = some (.slice (some ⟨Nb + 13, 0, none⟩) 4 4) := blk_cell hB 3
  have q4 : v.cell? ⟨A + 1, 4, none⟩ = some (.int .i64 20) := blk_cell hB 4
  have q5 : v.cell? ⟨A + 1, 5, none⟩ = some (.slice (some ⟨Sb, 0, none⟩) 4 4) := blk_cell hB 5
  have q6 : v.cell? ⟨A + 1, 6, none⟩ = some (.slice (some ⟨Vb, 0, none⟩) 4 4) := blk_cell hB 6
  have qf : v.frozen? ⟨A + 1, 4, none⟩ = false := blk_free hB 4
  have r5 : v.cell? ⟨A, 5, none⟩ = some (.slice (some ⟨Sa, 0, none⟩) 4 4) := blk_cell hA 5
  have lA : A < v.heap.size := by omega
  simp only [nil4, List.getElem?_toArray, List.getElem?_cons_zero, List.getElem?_cons_succ] at sa1 sc1 vc2
  clear ha hb hA hB xv
  go_upto_region 24 with (fail)
  refine wp_forget (fun y => SV Na Sa Va 20 sZ y ∧ SV Nb Sb Vb 20 b3c y ∧ y.heap[A]? = some (helpO Na Sa Va 20) ∧ y.heap[A + 1]? = some (helpO Nb Sb Vb 20) ∧ Ext w0 y) ⟨?_, ?_, block_ext (Ext.alloc (Ext.alloc (Ext.refl _) _) _) ((Below.heap_setCell _ _ _ _ (by show A ≠ Nb + 13; omega)).trans HBA.out), block_ext (Ext.alloc (Ext.alloc (Ext.refl _) _) _) ((Below.heap_setCell _ _ _ _ (by show A + 1 ≠ Nb + 13; omega)).trans HBB.out), (Ext.alloc (Ext.alloc (XV.out.setCell (by show w0.heap.size ≤ Nb + 13; omega) _) _) _)⟩ ?_
  · exact ((HA.out.aside (b := Nb + 13) _ (by omega) (by omega) (by omega)).ext (Ext.alloc (Ext.alloc (Ext.refl _) _) _)).script baseC_of rfl rfl (nilS_v _) (nilA_v _)
  · have e1 : Ext (v.setCell ⟨Nb + 13, 2, none⟩ (.slice (some ⟨v.heap.size + 1, 0, none⟩) 1 1)) (((v.setCell ⟨Nb + 13, 2, none⟩ (.slice (some ⟨v.heap.size + 1, 0, none⟩) 1 1)).alloc (.cells #[.int .i64 1, .int .i64 3] 3 (0, 0))).alloc (.cells #[.slice (some ⟨v.heap.size, 0, none⟩) 2 2] 48 (0, 0))) := Ext.alloc (Ext.alloc (Ext.refl _) _) _
    have hT := (HB.out.takeAside 2 (.slice (some ⟨v.heap.size + 1, 0, none⟩) 1 1)).ext e1
    have hD := block_ext e1 (HB.out.domBlk 2 (.slice (some ⟨v.heap.size + 1, 0, none⟩) 1 1))
    have n1 := (heap_new2' v ⟨Nb + 13, 2, none⟩ (.slice (some ⟨v.heap.size + 1, 0, none⟩) 1 1) (.cells #[.int .i64 1, .int .i64 3] 3 (0, 0)) (.cells #[.slice (some ⟨v.heap.size, 0, none⟩) 2 2] 48 (0, 0))).1
    have n2 := (heap_new2' v ⟨Nb + 13, 2, none⟩ (.slice (some ⟨v.heap.size + 1, 0, none⟩) 1 1) (.cells #[.int .i64 1, .int .i64 3] 3 (0, 0)) (.cells #[.slice (some ⟨v.heap.size, 0, none⟩) 2 2] 48 (0, 0))).2
    refine SV.of_doms hT (doms4 hD rfl fun i d hi => ?_)
    match i, hi with
    | 0, hi => simp at hi; subst hi; exact ⟨_, _, rfl, rows_one n2 (nums_blk (r := [1, 3]) n1 (by decide) (by decide)), ints_lie hT.lies (v := .nil) (RV.wf_of rfl) (by rfl), by decide, by decide⟩
    | 1, hi => simp at hi; subst hi; exact ⟨_, _, rfl, rows_lie hT.lies (v := .s 8 1) (RV.wf_of rfl) (by rfl), ints_lie hT.lies (v := .s 9 2) (RV.wf_of rfl) (by rfl), by decide, by decide⟩
    | 2, hi => simp at hi; subst hi; exact ⟨_, _, rfl, rows_lie hT.lies (v := .s 11 1) (RV.wf_of rfl) (by rfl), ints_lie hT.lies (v := .nil) (RV.wf_of rfl) (by rfl), by decide, by decide⟩
    | 3, hi => simp at hi; subst hi; exact ⟨_, _, rfl, rows_lie hT.lies (v := .nil) (RV.wf_of rfl) (by rfl), ints_lie hT.lies (v := .s 12 3) (RV.wf_of rfl) (by rfl), by decide, by decide⟩
  clear HA HB XV HBA HBB hNa hSa hNb hSb hVb lB bs bv bs2 sa1 saf sc1 vc2 sf1 vf2 pc rc rf d31 f31 d25 f25 d02 f02 d33 f33 ln13 q2 q3 q4 q5 q6 qf r5 lA hmk b13 bsb bvb
  rintro y ⟨sa, sb, kA, kB, hx⟩
  (try clear v)
  have HX := hid hx
  have FA : ScFit sZ := .of (by kernel_rfl) (by kernel_rfl) (by kernel_rfl)
  have FB : ScFit b3c := .of (by kernel_rfl) (by kernel_rfl) (by kernel_rfl)
  have hne : sZ ≠ b3c := fun h => absurd (congrArg (fun s : Scr => s.conf.doms.map (·.routes)) h) (by decide)
  have hIA := hid (fun z (hz : Ext y z) => show Calls Try.prog 7 #[helpV Na Sa Va 20] z (Yields z .nilIface) from sIs FA.is (sa.ext hz))
  have hIB := hid (fun z (hz : Ext y z) => show Calls Try.prog 7 #[helpV Nb Sb Vb 20] z (Yields z .nilIface) from sIs FB.is (sb.ext hz))
  have hBA := hid (fun z (hz : Ext y z) => gBytes FA.is FA.inn FA.len (sa.ext hz))
  have hBB := hid (fun z (hz : Ext y z) => gBytes FB.is FB.inn FB.len (sb.ext hz))
  have hSM := hid (fun z (hz : Ext y z) => uSame hne (sa.ext hz) (sb.ext hz))
  have hst := fit_ne FA FB hne
  obtain ⟨la, hla⟩ : ∃ l, l = allBytes sZ := ⟨_, rfl⟩
  obtain ⟨lb, hlb⟩ : ∃ l, l = allBytes b3c := ⟨_, rfl⟩
  rw [← hla] at hBA hst
  rw [← hlb] at hBB hst
  rw [str_toList, str_toList] at hst
  have g1 : (la == lb) = false := by simpa using hst
  have g2 : (la != lb) = true := by simpa using hst
  clear hla hlb hst FA FB hne
  have hen := fun w => run_eql_nil_nil' (P := Try.prog) w Try.underlying33
  have lA := lt_of_block kA
  have lB := lt_of_block kB
  have a0 := blk_cell kA 0
  have a1 := blk_cell kA 1
  have a2 := blk_cell kA 2
  have a3 := blk_cell kA 3
  have a4 := blk_cell kA 4
  have a5 := blk_cell kA 5
  have a6 := blk_cell kA 6
  have b0 := blk_cell kB 0
  have b1 := blk_cell kB 1
  have b2 := blk_cell kB 2
  have b3 := blk_cell kB 3
  have b4 := blk_cell kB 4
  have b5 := blk_cell kB 5
  have b6 := blk_cell kB 6
  simp only [List.getElem?_toArray, List.getElem?_cons_zero, List.getElem?_cons_succ] at a0 a1 a2 a3 a4 a5 a6 b0 b1 b2 b3 b4 b5 b6
  clear kA kB sa sb hx
  ((first | refine wp_region_more (by kernel_rfl) (by kernel_rfl) ?_ | refine wp_region_ext (by kernel_rfl) (by kernel_rfl) ?_); (try dsimp only [append_cons', append_nil']); (repeat (go_big_quiet_step ((first | (go_at_call 7; with_reducible refine Calls.more_of (hIA.out _ (ext_more _ _))) | (go_at_call 7; with_reducible refine Calls.more_of (hIB.out _ (ext_more _ _))) | (go_at_call 9; with_reducible refine Calls.more_of (hBA.out _ (ext_more _ _))) | (go_at_call 9; with_reducible refine Calls.more_of (hBB.out _ (ext_more _ _))) | (go_at_call 11; with_reducible refine Calls.more_of (hSM.out _ (ext_more _ _))))))); refine wpQuiet_nil ?_; rintro _ ⟨pq, rfl⟩)
  go_wp2
  go_returns
  exact ⟨rfl, hE0.out.trans (HX.out.more _)⟩

def b3d : Scr := ⟨⟨8, 2, [[2, 2, 2, 2], [5, 1, 1, 1]], [⟨0, 0, [[1, 3]], [], -1, 4, 2, 4, 3, 2⟩, ⟨1, 1, [[3]], [0, 1], 0, 4, 2, 4, 3, 2⟩, ⟨1, 2, [[3]], [], -1, 4, 2, 4, 3, 2⟩, ⟨2, 3, [], [0, 1, 2], 1, 4, 2, 4, 3, 2⟩]⟩, 20, nilS, nilA⟩
set_option maxRecDepth 100000 in
set_option maxHeartbeats 8000000 in
theorem walk3d (which n : Int) (hw0 : 0 ≤ which) (hw1 : which ≤ 255) (hn0 : 0 ≤ n) (hn1 : n ≤ 255) (hk : which % 9 = 3) (hn : n % 4 = 3) (w : World) :
    Calls Try.prog 4 #[.int .u8 which, .int .u8 n] w (Yields w (.bool true)) := by
  have hmk := mkAxns 4 4 rfl (by decide)
  go_enter Try.func4, Try.ntmps4
  go_wp2_with fail
  refine (known4_any _).yields ?_
  intro p0
  have hE0 := hid (ext_more w p0)
  generalize more w p0 = w0 at *
  go_wp2_with fail
  refine (help_any _ 20).mono ?_
  rintro e w1 ⟨Na, Sa, Va, rfl, ha, xa⟩
  go_wp2_with fail
  refine (help_any _ 20).mono ?_
  rintro e w2 ⟨Nb, Sb, Vb, rfl, hb, xb⟩
  have lna := lt_of_block (ha.lies.block (b := 13) rfl)
  have bsa := lt_of_block ha.sb
  have bva := lt_of_block ha.vb
  have hw12 := xb.size
  go_upto_region 5 with (fail)
  refine wp_forget (fun v => HelpS w0.heap.size Na Sa Va baseRO nil4 nil4 v ∧ HelpS w1.heap.size Nb Sb Vb baseRO nil4 nil4 v ∧ v.heap[w2.heap.size]? = some (helpO Na Sa Va 20) ∧ v.heap[w2.heap.size + 1]? = some (helpO Nb Sb Vb 20) ∧ Ext w0 v ∧ Nb + 13 < w2.heap.size ∧ Sb < w2.heap.size ∧ Vb < w2.heap.size)
    ⟨ha.ext (xb.trans (Ext.alloc (Ext.alloc (Ext.refl _) _) _)), hb.ext (Ext.alloc (Ext.alloc (Ext.refl _) _) _), block_ext (Ext.alloc (Ext.refl _) _) (heap_alloc_new w2 (helpO Na Sa Va 20)), heap_new2 w2 (helpO Na Sa Va 20) (helpO Nb Sb Vb 20), (xa.trans xb).trans (Ext.alloc (Ext.alloc (Ext.refl _) _) _), lt_of_block (hb.lies.block (b := 13) rfl), lt_of_block hb.sb, lt_of_block hb.vb⟩ ?_
  clear ha hb xa xb
  generalize w2.heap.size = A at *
  clear w2
  rintro v ⟨ha, hb, hA, hB, xv, b13, bsb, bvb⟩
  have HA := hid ha
  have HB := hid hb
  have XV := hid xv
  have HBA := hid hA
  have HBB := hid hB
  have hNa := ha.hN
  have hSa := ha.hS
  have hNb := hb.hN
  have hSb := hb.hS
  have hVb := hb.hV
  have lB := lt_of_block hB
  have bs := lt_of_block hb.sb
  have bv := lt_of_block hb.vb
  have bs2 := lt_of_block ha.sb
  have sa1 := blk_cell ha.sb 1
  have saf := blk_free ha.sb 1
  have sc1 := blk_cell hb.sb 1
  have vc2 := blk_cell hb.vb 2
  have sf1 := blk_free hb.sb 1
  have vf2 := blk_free hb.vb 2
  have pc : v.cell? ⟨Nb + 3, 0, none⟩ = some (.slice (some ⟨Nb + 1, 0, none⟩) 4 4) := hb.lies.at (b := 3) (j := 0) (v := .s 1 4) rfl
  have rc : v.cell? ⟨Nb + 1, 1, none⟩ = some (.int .i64 2) := hb.lies.at (b := 1) (j := 1) (v := .i 2) rfl
  have rf : v.frozen? ⟨Nb + 1, 1, none⟩ = false := hb.lies.free (b := 1) (j := 1) (v := .i 2) rfl
  have d31 : v.cell? ⟨Nb + 13, 31, none⟩ = some (.int .u64 3) := hb.lies.at (b := 13) (j := 31) (v := .u 3) rfl
  have f31 : v.frozen? ⟨Nb + 13, 31, none⟩ = false := hb.lies.free (b := 13) (j := 31) (v := .u 3) rfl
  have d25 : v.cell? ⟨Nb + 13, 25, none⟩ = some (.int .i64 4) := hb.lies.at (b := 13) (j := 25) (v := .i 4) rfl
  have f25 : v.frozen? ⟨Nb + 13, 25, none⟩ = false := hb.lies.free (b := 13) (j := 25) (v := .i 4) rfl
  have d02 : v.cell? ⟨Nb + 13, 2, none⟩ = some (.slice (some ⟨Nb + 6, 0, none⟩) 2 2) := hb.lies.at (b := 13) (j := 2) (v := .s 6 2) rfl
  have f02 : v.frozen? ⟨Nb + 13, 2, none⟩ = false := hb.lies.free (b := 13) (j := 2) (v := .s 6 2) rfl
  have d33 : v.cell? ⟨Nb + 13, 33, none⟩ = some (.slice (some ⟨Nb + 12, 0, none⟩) 3 3) := hb.lies.at (b := 13) (j := 33) (v := .s 12 3) rfl
  have f33 : v.frozen? ⟨Nb + 13, 33, none⟩ = false := hb.lies.free (b := 13) (j := 33) (v := .s 12 3) rfl
  have ln13 : Nb + 13 < v.heap.size := by omega
  have q2 : v.cell? ⟨A + 1, 2, none⟩ = some (.slice (some ⟨Nb + 3, 0, none⟩) 2 2) := blk_cell hB 2
  have q3 : v.cell? ⟨A + 1, 3, none⟩ = some (.slice (some ⟨Nb + 13, 0, none⟩) 4 4) := blk_cell hB 3
  have q4 : v.cell? ⟨A + 1, 4, none⟩ = some (.int .i64 20) := blk_cell hB 4
  have q5 : v.cell? ⟨A + 1, 5, none⟩ = some (.slice (some ⟨Sb, 0, none⟩) 4 4) := blk_cell hB 5
  have q6 : v.cell? ⟨A + 1, 6, none⟩ = some (.slice (some ⟨Vb, 0, none⟩) 4 4) := blk_cell hB 6
  have qf : v.frozen? ⟨A + 1, 4, none⟩ = false := blk_free hB 4
  have r5 : v.cell? ⟨A, 5, none⟩ = some (.slice (some ⟨Sa, 0, none⟩) 4 4) := blk_cell hA 5
  have lA : A < v.heap.size := by omega
  simp only [nil4, List.getElem?_toArray, List.getElem?_cons_zero, List.getElem?_cons_succ] at sa1 sc1 vc2
  clear ha hb hA hB xv
  go_upto_region 24 with (fail)
  refine wp_forget (fun y => SV Na Sa Va 20 sZ y ∧ SV Nb Sb Vb 20 b3d y ∧ y.heap[A]? = some (helpO Na Sa Va 20) ∧ y.heap[A + 1]? = some (helpO Nb Sb Vb 20) ∧ Ext w0 y) ⟨?_, ?_, block_ext (Ext.alloc (Ext.alloc (Ext.refl _) _) _) ((Below.heap_setCell _ _ _ _ (by show A ≠ Nb + 13; omega)).trans HBA.out), block_ext (Ext.alloc (Ext.alloc (Ext.refl _) _) _) ((Below.heap_setCell _ _ _ _ (by show A + 1 ≠ Nb + 13; omega)).trans HBB.out), (Ext.alloc (Ext.alloc (XV.out.setCell (by show w0.heap.size ≤ Nb + 13; omega) _) _) _)⟩ ?_
  · exact ((HA.out.aside (b := Nb + 13) _ (by omega) (by omega) (by omega)).ext (Ext.alloc (Ext.alloc (Ext.refl _) _) _)).script baseC_of rfl rfl (nilS_v _) (nilA_v _)
  · have e1 : Ext (v.setCell ⟨Nb + 13, 2, none⟩ (.slice (some ⟨v.heap.size + 1, 0, none⟩) 1 1)) (((v.setCell ⟨Nb + 13, 2, none⟩ (.slice (some ⟨v.heap.size + 1, 0, none⟩) 1 1)).alloc (.cells #[.int .i64 1, .int .i64 3] 3 (0, 0))).alloc (.cells #[.slice (some ⟨v.heap.size, 0, none⟩) 2 2] 48 (0, 0))) := Ext.alloc (Ext.alloc (Ext.refl _) _) _
    have hT := (HB.out.takeAside 2 (.slice (some ⟨v.heap.size + 1, 0, none⟩) 1 1)).ext e1
    have hD := block_ext e1 (HB.out.domBlk 2 (.slice (some ⟨v.heap.size + 1, 0, none⟩) 1 1))
    have n1 := (heap_new2' v ⟨Nb + 13, 2, none⟩ (.slice (some ⟨v.heap.size + 1, 0, none⟩) 1 1) (.cells #[.int .i64 1, .int .i64 3] 3 (0, 0)) (.cells #[.slice (some ⟨v.heap.size, 0, none⟩) 2 2] 48 (0, 0))).1
    have n2 := (heap_new2' v ⟨Nb + 13, 2, none⟩ (.slice (some ⟨v.heap.size + 1, 0, none⟩) 1 1) (.cells #[.int .i64 1, .int .i64 3] 3 (0, 0)) (.cells #[.slice (some ⟨v.heap.size, 0, none⟩) 2 2] 48 (0, 0))).2
    refine SV.of_doms hT (doms4 hD rfl fun i d hi => ?_)
    match i, hi with
    | 0, hi => simp at hi; subst hi; exact ⟨_, _, rfl, rows_one n2 (nums_blk (r := [1, 3]) n1 (by decide) (by decide)), ints_lie hT.lies (v := .nil) (RV.wf_of rfl) (by rfl), by decide, by decide⟩
    | 1, hi => simp at hi; subst hi; exact ⟨_, _, rfl, rows_lie hT.lies (v := .s 8 1) (RV.wf_of rfl) (by rfl), ints_lie hT.lies (v := .s 9 2) (RV.wf_of rfl) (by rfl), by decide, by decide⟩
    | 2, hi => simp at hi; subst hi; exact ⟨_, _, rfl, rows_lie hT.lies (v := .s 11 1) (RV.wf_of rfl) (by rfl), ints_lie hT.lies (v := .nil) (RV.wf_of rfl) (by rfl), by decide, by decide⟩
    | 3, hi => simp at hi; subst hi; exact ⟨_, _, rfl, rows_lie hT.lies (v := .nil) (RV.wf_of rfl) (by rfl), ints_lie hT.lies (v := .s 12 3) (RV.wf_of rfl) (by rfl), by decide, by decide⟩
  clear HA HB XV HBA HBB hNa hSa hNb hSb hVb lB bs bv bs2 sa1 saf sc1 vc2 sf1 vf2 pc rc rf d31 f31 d25 f25 d02 f02 d33 f33 ln13 q2 q3 q4 q5 q6 qf r5 lA hmk b13 bsb bvb
  rintro y ⟨sa, sb, kA, kB, hx⟩
  (try clear v)
  have HX := hid hx
  have FA : ScFit sZ := .of (by kernel_rfl) (by kernel_rfl) (by kernel_rfl)
  have FB : ScFit b3d := .of (by kernel_rfl) (by kernel_rfl) (by kernel_rfl)
  have hne : sZ ≠ b3d := fun h => absurd (congrArg (fun s : Scr => s.conf.doms.map (·.routes)) h) (by decide)
  have hIA := hid (fun z (hz : Ext y z) => show Calls Try.prog 7 #[helpV Na Sa Va 20] z (Yields z .nilIface) from sIs FA.is (sa.ext hz))
  have hIB := hid (fun z (hz : Ext y z) => show Calls Try.prog 7 #[helpV Nb Sb Vb 20] z (Yields z .nilIface) from sIs FB.is (sb.ext hz))
  have hBA := hid (fun z (hz : Ext y z) => gBytes FA.is FA.inn FA.len (sa.ext hz))
  have hBB := hid (fun z (hz : Ext y z) => gBytes FB.is FB.inn FB.len (sb.ext hz))
  have hSM := hid (fun z (hz : Ext y z) => uSame hne (sa.ext hz) (sb.ext hz))
  have hst := fit_ne FA FB hne
  obtain ⟨la, hla⟩ : ∃ l, l = allBytes sZ := ⟨_, rfl⟩
  obtain ⟨lb, hlb⟩ : ∃ l, l = allBytes b3d := ⟨_, rfl⟩
  rw [← hla] at hBA hst
  rw [← hlb] at hBB hst
  rw [str_toList, str_toList] at hst
  have g1 : (la == lb) = false := by simpa using hst
  have g2 : (la != lb) = true := by simpa using hst
  clear hla hlb hst FA FB hne
  have hen := fun w => run_eql_nil_nil' (P := Try.prog) w Try.underlying33
  have lA := lt_of_block kA
  have lB := lt_of_block kB
  have a0 := blk_cell kA 0
  have a1 := blk_cell kA 1
  have a2 := blk_cell kA 2
  have a3 := blk_cell kA 3
  have a4 := blk_cell kA 4
  have a5 := blk_cell kA 5
  have a6 := blk_cell kA 6
  have b0 := blk_cell kB 0
  have b1 := blk_cell kB 1
  have b2 := blk_cell kB 2
  have b3 := blk_cell kB 3
  have b4 := blk_cell kB 4
  have b5 := blk_cell kB 5
  have b6 := blk_cell kB 6
  simp only [List.getElem?_toArray, List.getElem?_cons_zero, List.getElem?_cons_succ] at a0 a1 a2 a3 a4 a5 a6 b0 b1 b2 b3 b4 b5 b6
  clear kA kB sa sb hx
  ((first | refine wp_region_more (by kernel_rfl) (by kernel_rfl) ?_ | refine wp_region_ext (by kernel_rfl) (by kernel_rfl) ?_); (try dsimp only [append_cons', append_nil']); (repeat (go_big_quiet_step ((first | (go_at_call 7; with_reducible refine Calls.more_of (hIA.out _ (ext_more _ _))) | (go_at_call 7; with_reducible refine Calls.more_of (hIB.out _ (ext_more _ _))) | (go_at_call 9; with_reducible refine Calls.more_of (hBA.out _ (ext_more _ _))) | (go_at_call 9; with_reducible refine Calls.more_of (hBB.out _ (ext_more _ _))) | (go_at_call 11; with_reducible refine Calls.more_of (hSM.out _ (ext_more _ _))))))); refine wpQuiet_nil ?_; rintro _ ⟨pq, rfl⟩)
  go_wp2
  go_returns
  exact ⟨rfl, hE0.out.trans (HX.out.more _)⟩

def b4a : Scr := ⟨⟨8, 2, [[2, 2, 2, 2], [5, 1, 1, 1]], [⟨0, 0, [[1, 3], [2, 3]], [], -1, 4, 2, 4, 3, 2⟩, ⟨1, 1, [[3]], [0, 1], 0, 4, 2, 4, 3, 2⟩, ⟨1, 2, [[3]], [], -1, 4, 2, 4, 3, 2⟩, ⟨2, 3, [], [0, 1, 3], 1, 4, 2, 4, 3, 2⟩]⟩, 20, nilS, nilA⟩
set_option maxRecDepth 100000 in
set_option maxHeartbeats 8000000 in
theorem walk4a (which n : Int) (hw0 : 0 ≤ which) (hw1 : which ≤ 255) (hn0 : 0 ≤ n) (hn1 : n ≤ 255) (hk : which % 9 = 4) (hn : n % 4 = 0) (w : World) :
    Calls Try.prog 4 #[.int .u8 which, .int .u8 n] w (Yields w (.bool true)) := by
  have hmk := mkAxns 1 1 rfl (by decide)
  go_enter Try.func4, Try.ntmps4
  go_wp2_with fail
  refine (known4_any _).yields ?_
  intro p0
  have hE0 := hid (ext_more w p0)
  generalize more w p0 = w0 at *
  go_wp2_with fail
  refine (help_any _ 20).mono ?_
  rintro e w1 ⟨Na, Sa, Va, rfl, ha, xa⟩
  go_wp2_with fail
  refine (help_any _ 20).mono ?_
  rintro e w2 ⟨Nb, Sb, Vb, rfl, hb, xb⟩
  have lna := lt_of_block (ha.lies.block (b := 13) rfl)
  have bsa := lt_of_block ha.sb
  have bva := lt_of_block ha.vb
  have hw12 := xb.size
  go_upto_region 5 with (fail)
  refine wp_forget (fun v => HelpS w0.heap.size Na Sa Va baseRO nil4 nil4 v ∧ HelpS w1.heap.size Nb Sb Vb baseRO nil4 nil4 v ∧ v.heap[w2.heap.size]? = some (helpO Na Sa Va 20) ∧ v.heap[w2.heap.size + 1]? = some (helpO Nb Sb Vb 20) ∧ Ext w0 v ∧ Nb + 13 < w2.heap.size ∧ Sb < w2.heap.size ∧ Vb < w2.heap.size)
    ⟨ha.ext (xb.trans (Ext.alloc (Ext.alloc (Ext.refl _) _) _)), hb.ext (Ext.alloc (Ext.alloc (Ext.refl _) _) _), block_ext (Ext.alloc (Ext.refl _) _) (heap_alloc_new w2 (helpO Na Sa Va 20)), heap_new2 w2 (helpO Na Sa Va 20) (helpO Nb Sb Vb 20), (xa.trans xb).trans (Ext.alloc (Ext.alloc (Ext.refl _) _) _), lt_of_block (hb.lies.block (b := 13) rfl), lt_of_block hb.sb, lt_of_block hb.vb⟩ ?_
  clear ha hb xa xb
  generalize w2.heap.size = A at *
  clear w2
  rintro v ⟨ha, hb, hA, hB, xv, b13, bsb, bvb⟩
  have HA := hid ha
  have HB := hid hb
  have XV := hid xv
  have HBA := hid hA
  have HBB := hid hB
  have hNa := ha.hN
  have hSa := ha.hS
  have hNb := hb.hN
  have hSb := hb.hS
  have hVb := hb.hV
  have lB := lt_of_block hB
  have bs := lt_of_block hb.sb
  have bv := lt_of_block hb.vb
  have bs2 := lt_of_block ha.sb
  have sa1 := blk_cell ha.sb 1
  have saf := blk_free ha.sb 1
  have sc1 := blk_cell hb.sb 1
  have vc2 := blk_cell hb.vb 2
  have sf1 := blk_free hb.sb 1
  have vf2 := blk_free hb.vb 2
  have pc : v.cell? ⟨Nb + 3, 0, none⟩ = some (.slice (some ⟨Nb + 1, 0, none⟩) 4 4) := hb.lies.at (b := 3) (j := 0) (v := .s 1 4) rfl
  have rc : v.cell? ⟨Nb + 1, 1, none⟩ = some (.int .i64 2) := hb.lies.at (b := 1) (j := 1) (v := .i 2) rfl
  have rf : v.frozen? ⟨Nb + 1, 1, none⟩ = false := hb.lies.free (b := 1) (j := 1) (v := .i 2) rfl
  have d31 : v.cell? ⟨Nb + 13, 31, none⟩ = some (.int .u64 3) := hb.lies.at (b := 13) (j := 31) (v := .u 3) rfl
  have f31 : v.frozen? ⟨Nb + 13, 31, none⟩ = false := hb.lies.free (b := 13) (j := 31) (v := .u 3) rfl
  have d25 : v.cell? ⟨Nb + 13, 25, none⟩ = some (.int .i64 4) := hb.lies.at (b := 13) (j := 25) (v := .i 4) rfl
  have f25 : v.frozen? ⟨Nb + 13, 25, none⟩ = false := hb.lies.free (b := 13) (j := 25) (v := .i 4) rfl
  have d02 : v.cell? ⟨Nb + 13, 2, none⟩ = some (.slice (some ⟨Nb + 6, 0, none⟩) 2 2) := hb.lies.at (b := 13) (j := 2) (v := .s 6 2) rfl
  have f02 : v.frozen? ⟨Nb + 13, 2, none⟩ = false := hb.lies.free (b := 13) (j := 2) (v := .s 6 2) rfl
  have d33 : v.cell? ⟨Nb + 13, 33, none⟩ = some (.slice (some ⟨Nb + 12, 0, none⟩) 3 3) := hb.lies.at (b := 13) (j := 33) (v := .s 12 3) rfl
  have f33 : v.frozen? ⟨Nb + 13, 33, none⟩ = false := hb.lies.free (b := 13) (j := 33) (v := .s 12 3) rfl
  have ln13 : Nb + 13 < v.heap.size := by omega
  have q2 : v.cell? ⟨A + 1, 2, none⟩ = some (.slice (some ⟨Nb + 3, 0, none⟩) 2 2) := blk_cell hB 2
  have q3 : v.cell? ⟨A + 1, 3, none⟩ = some (.slice (some ⟨Nb + 13, 0, none⟩) 4 4) := blk_cell hB 3
  have q4 : v.cell? ⟨A + 1, 4, none⟩ = some (.int .i64 20) := blk_cell hB 4
  have q5 : v.cell? ⟨A + 1, 5, none⟩ = some (.slice (some ⟨Sb, 0, none⟩) 4 4) := blk_cell hB 5
  have q6 : v.cell? ⟨A + 1, 6, none⟩ = some (.slice (some ⟨Vb, 0, none⟩) 4 4) := blk_cell hB 6
  have qf : v.frozen? ⟨A + 1, 4, none⟩ = false := blk_free hB 4
  have r5 : v.cell? ⟨A, 5, none⟩ = some (.slice (some ⟨Sa, 0, none⟩) 4 4) := blk_cell hA 5
  have lA : A < v.heap.size := by omega
  simp only [nil4, List.getElem?_toArray, List.getElem?_cons_zero, List.getElem?_cons_succ] at sa1 sc1 vc2
  clear ha hb hA hB xv
  go_upto_region 24 with (fail)
  refine wp_forget (fun y => SV Na Sa Va 20 sZ y ∧ SV Nb Sb Vb 20 b4a y ∧ y.heap[A]? = some (helpO Na Sa Va 20) ∧ y.heap[A + 1]? = some (helpO Nb Sb Vb 20) ∧ Ext w0 y) ⟨?_, ?_, block_ext (Ext.alloc (Ext.refl _) _) ((Below.heap_setCell _ _ _ _ (by show A ≠ Nb + 13; omega)).trans HBA.out), block_ext (Ext.alloc (Ext.refl _) _) ((Below.heap_setCell _ _ _ _ (by show A + 1 ≠ Nb + 13; omega)).trans HBB.out), (Ext.alloc (XV.out.setCell (by show w0.heap.size ≤ Nb + 13; omega) _) _)⟩ ?_
  · exact ((HA.out.aside (b := Nb + 13) _ (by omega) (by omega) (by omega)).ext (Ext.alloc (Ext.refl _) _)).script baseC_of rfl rfl (nilS_v _) (nilA_v _)
  · have e1 : Ext (v.setCell ⟨Nb + 13, 33, none⟩ (.slice (some ⟨v.heap.size, 0, none⟩) 3 3)) ((v.setCell ⟨Nb + 13, 33, none⟩ (.slice (some ⟨v.heap.size, 0, none⟩) 3 3)).alloc (.cells #[.int .i64 0, .int .i64 1, .int .i64 3] 3 (0, 0))) := Ext.alloc (Ext.refl _) _
    have hT := (HB.out.takeAside 33 (.slice (some ⟨v.heap.size, 0, none⟩) 3 3)).ext e1
    have hD := block_ext e1 (HB.out.domBlk 33 (.slice (some ⟨v.heap.size, 0, none⟩) 3 3))
    have n1 := heap_new1' v ⟨Nb + 13, 33, none⟩ (.slice (some ⟨v.heap.size, 0, none⟩) 3 3) (.cells #[.int .i64 0, .int .i64 1, .int .i64 3] 3 (0, 0))
    refine SV.of_doms hT (doms4 hD rfl fun i d hi => ?_)
    match i, hi with
    | 0, hi => simp at hi; subst hi; exact ⟨_, _, rfl, rows_lie hT.lies (v := .s 6 2) (RV.wf_of rfl) (by rfl), ints_lie hT.lies (v := .nil) (RV.wf_of rfl) (by rfl), by decide, by decide⟩
    | 1, hi => simp at hi; subst hi; exact ⟨_, _, rfl, rows_lie hT.lies (v := .s 8 1) (RV.wf_of rfl) (by rfl), ints_lie hT.lies (v := .s 9 2) (RV.wf_of rfl) (by rfl), by decide, by decide⟩
    | 2, hi => simp at hi; subst hi; exact ⟨_, _, rfl, rows_lie hT.lies (v := .s 11 1) (RV.wf_of rfl) (by rfl), ints_lie hT.lies (v := .nil) (RV.wf_of rfl) (by rfl), by decide, by decide⟩
    | 3, hi => simp at hi; subst hi; exact ⟨_, _, rfl, rows_lie hT.lies (v := .nil) (RV.wf_of rfl) (by rfl), nums_blk (r := [0, 1, 3]) n1 (by decide) (by decide), by decide, by decide⟩
  clear HA HB XV HBA HBB hNa hSa hNb hSb hVb lB bs bv bs2 sa1 saf sc1 vc2 sf1 vf2 pc rc rf d31 f31 d25 f25 d02 f02 d33 f33 ln13 q2 q3 q4 q5 q6 qf r5 lA hmk b13 bsb bvb
  rintro y ⟨sa, sb, kA, kB, hx⟩
  (try clear v)
  have HX := hid hx
  have FA : ScFit sZ := .of (by kernel_rfl) (by kernel_rfl) (by kernel_rfl)
  have FB : ScFit b4a := .of (by kernel_rfl) (by kernel_rfl) (by kernel_rfl)
  have hne : sZ ≠ b4a := fun h => absurd (congrArg (fun s : Scr => s.conf.doms.map (·.release)) h) (by decide)
  have hIA := hid (fun z (hz : Ext y z) => show Calls Try.prog 7 #[helpV Na Sa Va 20] z (Yields z .nilIface) from sIs FA.is (sa.ext hz))
  have hIB := hid (fun z (hz : Ext y z) => show Calls Try.prog 7 #[helpV Nb Sb Vb 20] z (Yields z .nilIface) from sIs FB.is (sb.ext hz))
  have hBA := hid (fun z (hz : Ext y z) => gBytes FA.is FA.inn FA.len (sa.ext hz))
  have hBB := hid (fun z (hz : Ext y z) => gBytes FB.is FB.inn FB.len (sb.ext hz))
  have hSM := hid (fun z (hz : Ext y z) => uSame hne (sa.ext hz) (sb.ext hz))
  have hst := fit_ne FA FB hne
  obtain ⟨la, hla⟩ : ∃ l, l = allBytes sZ := ⟨_, rfl⟩
  obtain ⟨lb, hlb⟩ : ∃ l, l = allBytes b4a := ⟨_, rfl⟩
  rw [← hla] at hBA hst
  rw [← hlb] at hBB hst
  rw [str_toList, str_toList] at hst
  have g1 : (la == lb) = false := by simpa using hst
  have g2 : (la != lb) = true := by simpa using hst
  clear hla hlb hst FA FB hne
  have hen := fun w => run_eql_nil_nil' (P := Try.prog) w Try.underlying33
  have lA := lt_of_block kA
  have lB := lt_of_block kB
  have a0 := blk_cell kA 0
  have a1 := blk_cell kA 1
  have a2 := blk_cell kA 2
  have a3 := blk_cell kA 3
  have a4 := blk_cell kA 4
  have a5 := blk_cell kA 5
  have a6 := blk_cell kA 6
  have b0 := blk_cell kB 0
  have b1 := blk_cell kB 1
  have b2 := blk_cell kB 2
  have b3 := blk_cell kB 3
  have b4 := blk_cell kB 4
  have b5 := blk_cell kB 5
  have b6 := blk_cell kB 6
  simp only [List.getElem?_toArray, List.getElem?_cons_zero, List.getElem?_cons_succ] at a0 a1 a2 a3 a4 a5 a6 b0 b1 b2 b3 b4 b5 b6
  clear kA kB sa sb hx
  ((first | refine wp_region_more (by kernel_rfl) (by kernel_rfl) ?_ | refine wp_region_ext (by kernel_rfl) (by kernel_rfl) ?_); (try dsimp only [append_cons', append_nil']); (repeat (go_big_quiet_step ((first | (go_at_call 7; with_reducible refine Calls.more_of (hIA.out _ (ext_more _ _))) | (go_at_call 7; with_reducible refine Calls.more_of (hIB.out _ (ext_more _ _))) | (go_at_call 9; with_reducible refine Calls.more_of (hBA.out _ (ext_more _ _))) | (go_at_call 9; with_reducible refine Calls.more_of (hBB.out _ (ext_more _ _))) | (go_at_call 11; with_reducible refine Calls.more_of (hSM.out _ (ext_more _ _))))))); refine wpQuiet_nil ?_; rintro _ ⟨pq, rfl⟩)
  go_wp2
  go_returns
  exact ⟨rfl, hE0.out.trans (HX.out.more _)⟩

def b4b : Scr := ⟨⟨8, 2, [[2, 2, 2, 2], [5, 1, 1, 1]], [⟨0, 0, [[1, 3], [2, 3]], [], -1, 4, 2, 4, 3, 2⟩, ⟨1, 1, [[3]], [0, 1], 0, 4, 2, 4, 3, 2⟩, ⟨1, 2, [[3]], [], -1, 4, 2, 4, 3, 2⟩, ⟨2, 3, [], [0, 1, 4], 1, 4, 2, 4, 3, 2⟩]⟩, 20, nilS, nilA⟩
set_option maxRecDepth 100000 in
set_option maxHeartbeats 8000000 in
theorem walk4b (which n : Int) (hw0 : 0 ≤ which) (hw1 : which ≤ 255) (hn0 : 0 ≤ n) (hn1 : n ≤ 255) (hk : which % 9 = 4) (hn : n % 4 = 1) (w : World) :
    Calls Try.prog 4 #[.int .u8 which, .int .u8 n] w (Yields w (.bool true)) := by
  have hmk := mkAxns 2 2 rfl (by decide)
  go_enter Try.func4, Try.ntmps4
  go_wp2_with fail
  refine (known4_any _).yields ?_
  intro p0
  have hE0 := hid (ext_more w p0)
  generalize more w p0 = w0 at *
  go_wp2_with fail
  refine (help_any _ 20).mono ?_
  rintro e w1 ⟨Na, Sa, Va, rfl, ha, xa⟩
  go_wp2_with fail
  refine (help_any _ 20).mono ?_
  rintro e w2 ⟨Nb, Sb, Vb, rfl, hb, xb⟩
  have lna := lt_of_block (ha.lies.block (b := 13) rfl)
  have bsa := lt_of_block ha.sb
  have bva := lt_of_block ha.vb
  have hw12 := xb.size
  go_upto_region 5 with (fail)
  refine wp_forget (fun v => HelpS w0.heap.size Na Sa Va baseRO nil4 nil4 v ∧ HelpS w1.heap.size Nb Sb Vb baseRO nil4 nil4 v ∧ v.heap[w2.heap.size]? = some (helpO Na Sa Va 20) ∧ v.heap[w2.heap.size + 1]? = some (helpO Nb Sb Vb 20) ∧ Ext w0 v ∧ Nb + 13 < w2.heap.size ∧ Sb < w2.heap.size ∧ Vb < w2.heap.size)
    ⟨ha.ext (xb.trans (Ext.alloc (Ext.alloc (Ext.refl _) _) _)), hb.ext (Ext.alloc (Ext.alloc (Ext.refl _) _) _), block_ext (Ext.alloc (Ext.refl _) _) (heap_alloc_new w2 (helpO Na Sa Va 20)), heap_new2 w2 (helpO Na Sa Va 20) (helpO Nb Sb Vb 20), (xa.trans xb).trans (Ext.alloc (Ext.alloc (Ext.refl _) _) _), lt_of_block (hb.lies.block (b := 13) rfl), lt_of_block hb.sb, lt_of_block hb.vb⟩ ?_
  clear ha hb xa xb
  generalize w2.heap.size = A at *
  clear w2
  rintro v ⟨ha, hb, hA, hB, xv, b13, bsb, bvb⟩
  have HA := hid ha
  have HB := hid hb
  have XV := hid xv
  have HBA := hid hA
  have HBB := hid hB
  have hNa := ha.hN
  have hSa := ha.hS
  have hNb := hb.hN
  have hSb := hb.hS
  have hVb := hb.hV
  have lB := lt_of_block hB
  have bs := lt_of_block hb.sb
  have bv := lt_of_block hb.vb
  have bs2 := lt_of_block ha.sb
  have sa1 := blk_cell ha.sb 1
  have saf := blk_free ha.sb 1
  have sc1 := blk_cell hb.sb 1
  have vc2 := blk_cell hb.vb 2
  have sf1 := blk_free hb.sb 1
  have vf2 := blk_free hb.vb 2
  have pc : v.cell? ⟨Nb + 3, 0, none⟩ = some (.slice (some ⟨Nb + 1, 0, none⟩) 4 4) := hb.lies.at (b := 3) (j := 0) (v := .s 1 4) rfl
  have rc : v.cell? ⟨Nb + 1, 1, none⟩ = some (.int .i64 2) := hb.lies.at (b := 1) (j := 1) (v := .i 2) rfl
  have rf : v.frozen? ⟨Nb + 1, 1, none⟩ = false := hb.lies.free (b := 1) (j := 1) (v := .i 2) rfl
  have d31 : v.cell? ⟨Nb + 13, 31, none⟩ = some (.int .u64 3) := hb.lies.at (b := 13) (j := 31) (v := .u 3) rfl
  have f31 : v.frozen? ⟨Nb + 13, 31, none⟩ = false := hb.lies.free (b := 13) (j := 31) (v := .u 3) rfl
  have d25 : v.cell? ⟨Nb + 13, 25, none⟩ = some (.int .i64 4) := hb.lies.at (b := 13) (j := 25) (v := .i 4) rfl
  have f25 : v.frozen? ⟨Nb + 13, 25, none⟩ = false := hb.lies.free (b := 13) (j := 25) (v := .i 4) rfl
  have d02 : v.cell? ⟨Nb + 13, 2, none⟩ = some (.slice (some ⟨Nb + 6, 0, none⟩) 2 2) := hb.lies.at (b := 13) (j := 2) (v := .s 6 2) rfl
  have f02 : v.frozen? ⟨Nb + 13, 2, none⟩ = false := hb.lies.free (b := 13) (j := 2) (v := .s 6 2) rfl
  have d33 : v.cell? ⟨Nb + 13, 33, none⟩ = some (.slice (some ⟨Nb + 12, 0, none⟩) 3 3) := hb.lies.at (b := 13) (j := 33) (v := .s 12 3) rfl
  have f33 : v.frozen? ⟨Nb + 13, 33, none⟩ = false := hb.lies.free (b := 13) (j := 33) (v := .s 12 3) rfl
  have ln13 : Nb + 13 < v.heap.size := by omega
  have q2 : v.cell? ⟨A + 1, 2, none⟩ = some (.slice (some ⟨Nb + 3, 0, none⟩) 2 2) := blk_cell hB 2
  have q3 : v.cell? ⟨A + 1, 3, none⟩ = some (.slice (some ⟨Nb + 13, 0, none⟩) 4 4) := blk_cell hB 3
  have q4 : v.cell? ⟨A + 1, 4, none⟩ = some (.int .i64 20) := blk_cell hB 4
  have q5 : v.cell? ⟨A + 1, 5, none⟩ = some (.slice (some ⟨Sb, 0, none⟩) 4 4) := blk_cell hB 5
  have q6 : v.cell? ⟨A + 1, 6, none⟩ = some (.slice (some ⟨Vb, 0, none⟩) 4 4) := blk_cell hB 6
  have qf : v.frozen? ⟨A + 1, 4, none⟩ = false := blk_free hB 4
  have r5 : v.cell? ⟨A, 5, none⟩ = some (.slice (some ⟨Sa, 0, none⟩) 4 4) := blk_cell hA 5
  have lA : A < v.heap.size := by omega
  simp only [nil4, List.getElem?_toArray, List.getElem?_cons_zero, List.getElem?_cons_succ] at sa1 sc1 vc2
  clear ha hb hA hB xv
  go_upto_region 24 with (fail)
  refine wp_forget (fun y => SV Na Sa Va 20 sZ y ∧ SV Nb Sb Vb 20 b4b y ∧ y.heap[A]? = some (helpO Na Sa Va 20) ∧ y.heap[A + 1]? = some (helpO Nb Sb Vb 20) ∧ Ext w0 y) ⟨?_, ?_, block_ext (Ext.alloc (Ext.refl _) _) ((Below.heap_setCell _ _ _ _ (by show A ≠ Nb + 13; omega)).trans HBA.out), block_ext (Ext.alloc (Ext.refl _) _) ((Below.heap_setCell _ _ _ _ (by show A + 1 ≠ Nb + 13; omega)).trans HBB.out), (Ext.alloc (XV.out.setCell (by show w0.heap.size ≤ Nb + 13; omega) _) _)⟩ ?_
  · exact ((HA.out.aside (b := Nb + 13) _ (by omega) (by omega) (by omega)).ext (Ext.alloc (Ext.refl _) _)).script baseC_of rfl rfl (nilS_v _) (nilA_v _)
  · have e1 : Ext (v.setCell ⟨Nb + 13, 33, none⟩ (.slice (some ⟨v.heap.size, 0, none⟩) 3 3)) ((v.setCell ⟨Nb + 13, 33, none⟩ (.slice (some ⟨v.heap.size, 0, none⟩) 3 3)).alloc (.cells #[.int .i64 0, .int .i64 1, .int .i64 4] 3 (0, 0))) := Ext.alloc (Ext.refl _) _
    have hT := (HB.out.takeAside 33 (.slice (some ⟨v.heap.size, 0, none⟩) 3 3)).ext e1
    have hD := block_ext e1 (HB.out.domBlk 33 (.slice (some ⟨v.heap.size, 0, none⟩) 3 3))
    have n1 := heap_new1' v ⟨Nb + 13, 33, none⟩ (.slice (some ⟨v.heap.size, 0, none⟩) 3 3) (.cells #[.int .i64 0, .int .i64 1, .int .i64 4] 3 (0, 0))
    refine SV.of_doms hT (doms4 hD rfl fun i d hi => ?_)
    match i, hi with
    | 0, hi => simp at hi; subst hi; exact ⟨_, _, rfl, rows_lie hT.lies (v := .s 6 2) (RV.wf_of rfl) (by rfl), ints_lie hT.lies (v := .nil) (RV.wf_of rfl) (by rfl), by decide, by decide⟩
    | 1, hi => simp at hi; subst hi; exact ⟨_, _, rfl, rows_lie hT.lies (v := .s 8 1) (RV.wf_of rfl) (by rfl), ints_lie hT.lies (v := .s 9 2) (RV.wf_of rfl) (by rfl), by decide, by decide⟩
    | 2, hi => simp at hi; subst hi; exact ⟨_, _, rfl, rows_lie hT.lies (v := .s 11 1) (RV.wf_of rfl) (by rfl), ints_lie hT.lies (v := .nil) (RV.wf_of rfl) (by rfl), by decide, by decide⟩
    | 3, hi => simp at hi; subst hi; exact ⟨_, _, rfl, rows_lie hT.lies (v := .nil) (RV.wf_of rfl) (by rfl), nums_blk (r := [0, 1, 4]) n1 (by decide) (by decide), by decide, by decide⟩
  clear HA HB XV HBA HBB hNa hSa hNb hSb hVb lB bs bv bs2 sa1 saf sc1 vc2 sf1 vf2 pc rc rf d31 f31 d25 f25 d02 f02 d33 f33 ln13 q2 q3 q4 q5 q6 qf r5 lA hmk b13 bsb bvb
  rintro y ⟨sa, sb, kA, kB, hx⟩
  (try clear v)
  have HX := hid hx
  have FA : ScFit sZ := .of (by kernel_rfl) (by kernel_rfl) (by kernel_rfl)
  have FB : ScFit b4b := .of (by kernel_rfl) (by kernel_rfl) (by kernel_rfl)
  have hne : sZ ≠ b4b := fun h => absurd (congrArg (fun s : Scr => s.conf.doms.map (·.release)) h) (by decide)
  have hIA := hid (fun z (hz : Ext y z) => show Calls Try.prog 7 #[helpV Na Sa Va 20] z (Yields z .nilIface) from sIs FA.is (sa.ext hz))
  have hIB := hid (fun z (hz : Ext y z) => show Calls Try.prog 7 #[helpV Nb Sb Vb 20] z (Yields z .nilIface) from sIs FB.is (sb.ext hz))
  have hBA := hid (fun z (hz : Ext y z) => gBytes FA.is FA.inn FA.len (sa.ext hz))
  have hBB := hid (fun z (hz : Ext y z) => gBytes FB.is FB.inn FB.len (sb.ext hz))
  have hSM := hid (fun z (hz : Ext y z) => uSame hne (sa.ext hz) (sb.ext hz))
  have hst := fit_ne FA FB hne
  obtain ⟨la, hla⟩ : ∃ l, l = allBytes sZ := ⟨_, rfl⟩
  obtain ⟨lb, hlb⟩ : ∃ l, l = allBytes b4b := ⟨_, rfl⟩
  rw [← hla] at hBA hst
  rw [← hlb] at hBB hst
  rw [str_toList, str_toList] at hst
  have g1 : (la == lb) = false := by simpa using hst
  have g2 : (la != lb) = true := by simpa using hst
  clear hla hlb hst FA FB hne
  have hen := fun w => run_eql_nil_nil' (P := Try.prog) w Try.underlying33
  have lA := lt_of_block kA
  have lB := lt_of_block kB
  have a0 := blk_cell kA 0
  have a1 := blk_cell kA 1
  have a2 := blk_cell kA 2
  have a3 := blk_cell kA 3
  have a4 := blk_cell kA 4
  have a5 := blk_cell kA 5
  have a6 := blk_cell kA 6
  have b0 := blk_cell kB 0
  have b1 := blk_cell kB 1
  have b2 := blk_cell kB 2
  have b3 := blk_cell kB 3
  have b4 := blk_cell kB 4
  have b5 := blk_cell kB 5
  have b6 := blk_cell kB 6
  simp only [List.getElem?_toArray, List.getElem?_cons_zero, List.getElem?_cons_succ] at a0 a1 a2 a3 a4 a5 a6 b0 b1 b2 b3 b4 b5 b6
  clear kA kB sa sb hx
  ((first | refine wp_region_more (by kernel_rfl) (by kernel_rfl) ?_ | refine wp_region_ext (by kernel_rfl) (by kernel_rfl) ?_); (try dsimp only [append_cons', append_nil']); (repeat (go_big_quiet_step ((first | (go_at_call 7; with_reducible refine Calls.more_of (hIA.out _ (ext_more _ _))) | (go_at_call 7; with_reducible refine Calls.more_of (hIB.out _ (ext_more _ _))) | (go_at_call 9; with_reducible refine Calls.more_of (hBA.out _ (ext_more _ _))) | (go_at_call 9; with_reducible refine Calls.more_of (hBB.out _ (ext_more _ _))) | (go_at_call 11; with_reducible refine Calls.more_of (hSM.out _ (ext_more _ _))))))); refine wpQuiet_nil ?_; rintro _ ⟨pq, rfl⟩)
  go_wp2
  go_returns
  exact ⟨rfl, hE0.out.trans (HX.out.more _)⟩

def b4c : Scr := ⟨⟨8, 2, [[2, 2, 2, 2], [5, 1, 1, 1]], [⟨0, 0, [[1, 3], [2, 3]], [], -1, 4, 2, 4, 3, 2⟩, ⟨1, 1, [[3]], [0, 1], 0, 4, 2, 4, 3, 2⟩, ⟨1, 2, [[3]], [], -1, 4, 2, 4, 3, 2⟩, ⟨2, 3, [], [0, 1, 5], 1, 4, 2, 4, 3, 2⟩]⟩, 20, nilS, nilA⟩
set_option maxRecDepth 100000 in
set_option maxHeartbeats 8000000 in
theorem walk4c (which n : Int) (hw0 : 0 ≤ which) (hw1 : which ≤ 255) (hn0 : 0 ≤ n) (hn1 : n ≤ 255) (hk : which % 9 = 4) (hn : n % 4 = 2) (w : World) :
    Calls Try.prog 4 #[.int .u8 which, .int .u8 n] w (Yields w (.bool true)) := by
  have hmk := mkAxns 3 3 rfl (by decide)
  go_enter Try.func4, Try.ntmps4
  go_wp2_with fail
  refine (known4_any _).yields ?_
  intro p0
  have hE0 := hid (ext_more w p0)
  generalize more w p0 = w0 at *
  go_wp2_with fail
  refine (help_any _ 20).mono ?_
  rintro e w1 ⟨Na, Sa, Va, rfl, ha, xa⟩
  go_wp2_with fail
  refine (help_any _ 20).mono ?_
  rintro e w2 ⟨Nb, Sb, Vb, rfl, hb, xb⟩
  have lna := lt_of_block (ha.lies.block (b := 13) rfl)
  have bsa := lt_of_block ha.sb
  have bva := lt_of_block ha.vb
  have hw12 := xb.size
  go_upto_region 5 with (fail)
  refine wp_forget (fun v => HelpS w0.heap.size Na Sa Va baseRO nil4 nil4 v ∧ HelpS w1.heap.size Nb Sb Vb baseRO nil4 nil4 v ∧ v.heap[w2.heap.size]? = some (helpO Na Sa Va 20) ∧ v.heap[w2.heap.size + 1]? = some (helpO Nb Sb Vb 20) ∧ Ext w0 v ∧ Nb + 13 < w2.heap.size ∧ Sb < w2.heap.size ∧ Vb < w2.heap.size)
    ⟨ha.ext (xb.trans (Ext.alloc (Ext.alloc (Ext.refl _) _) _)), hb.ext (Ext.alloc (Ext.alloc (Ext.refl _) _) _), block_ext (Ext.alloc (Ext.refl _) _) (heap_alloc_new w2 (helpO Na Sa Va 20)), heap_new2 w2 (helpO Na Sa Va 20) (helpO Nb Sb Vb 20), (xa.trans xb).trans (Ext.alloc (Ext.alloc (Ext.refl _) _) _), lt_of_block (hb.lies.block (b := 13) rfl), lt_of_block hb.sb, lt_of_block hb.vb⟩ ?_
  clear ha hb xa xb
  generalize w2.heap.size = A at *
  clear w2
  rintro v ⟨ha, hb, hA, hB, xv, b13, bsb, bvb⟩
  have HA := hid ha
  have HB := hid hb
  have XV := hid xv
  have HBA := hid hA
  have HBB := hid hB
  have hNa := ha.hN
  have hSa := ha.hS
  have hNb := hb.hN
  have hSb := hb.hS
  have hVb := hb.hV
  have lB := lt_of_block hB
  have bs := lt_of_block hb.sb
  have bv := lt_of_block hb.vb
  have bs2 := lt_of_block ha.sb
  have sa1 := blk_cell ha.sb 1
  have saf := blk_free ha.sb 1
  have sc1 := blk_cell hb.sb 1
  have vc2 := blk_cell hb.vb 2
  have sf1 := blk_free hb.sb 1
  have vf2 := blk_free hb.vb 2
  have pc : v.cell? ⟨Nb + 3, 0, none⟩ = some (.slice (some ⟨Nb + 1, 0, none⟩) 4 4) := hb.lies.at (b := 3) (j := 0) (v := .s 1 4) rfl
  have rc : v.cell? ⟨Nb + 1, 1, none⟩ = some (.int .i64 2) := hb.lies.at (b := 1) (j := 1) (v := .i 2) rfl
  have rf : v.frozen? ⟨Nb + 1, 1, none⟩ = false := hb.lies.free (b := 1) (j := 1) (v := .i 2) rfl
  have d31 : v.cell? ⟨Nb + 13, 31, none⟩ = some (.int .u64 3) := hb.lies.at (b := 13) (j := 31) (v := .u 3) rfl
  have f31 : v.frozen? ⟨Nb + 13, 31, none⟩ = false := hb.lies.free (b := 13) (j := 31) (v := .u 3) rfl
  have d25 : v.cell? ⟨Nb + 13, 25, none⟩ = some (.int .i64 4) := hb.lies.at (b := 13) (j := 25) (v := .i 4) rfl
  have f25 : v.frozen? ⟨Nb + 13, 25, none⟩ = false := hb.lies.free (b := 13) (j := 25) (v := .i 4) rfl
  have d02 : v.cell? ⟨Nb + 13, 2, none⟩ = some (.slice (some ⟨Nb + 6, 0, none⟩) 2 2) := hb.lies.at (b := 13) (j := 2) (v := .s 6 2) rfl
  have f02 : v.frozen? ⟨Nb + 13, 2, none⟩ = false := hb.lies.free (b := 13) (j := 2) (v := .s 6 2) rfl
  have d33 : v.cell? ⟨Nb + 13, 33, none⟩ = some (.slice (some ⟨Nb + 12, 0, none⟩) 3 3) := hb.lies.at (b := 13) (j := 33) (v := .s 12 3) rfl
  have f33 : v.frozen? ⟨Nb + 13, 33, none⟩ = false := hb.lies.free (b := 13) (j := 33) (v := .s 12 3) rfl
  have ln13 : Nb + 13 < v.heap.size := by omega
  have q2 : v.cell? ⟨A + 1, 2, none⟩ = some (.slice (some ⟨Nb + 3, 0, none⟩) 2 2) := blk_cell hB 2
  have q3 : v.cell? ⟨A + 1, 3, none⟩ = some (.slice (some ⟨Nb + 13, 0, none⟩) 4 4) := blk_cell hB 3
  have q4 : v.cell? ⟨A + 1, 4, none⟩ = some (.int .i64 20) := blk_cell hB 4
  have q5 : v.cell? ⟨A + 1, 5, none⟩ = some (.slice (some ⟨Sb, 0, none⟩) 4 4) := blk_cell hB 5
  have q6 : v.cell? ⟨A + 1, 6, none⟩ = some (.slice (some ⟨Vb, 0, none⟩) 4 4) := blk_cell hB 6
  have qf : v.frozen? ⟨A + 1, 4, none⟩ = false := blk_free hB 4
  have r5 : v.cell? ⟨A, 5, none⟩ = some (.slice (some ⟨Sa, 0, none⟩) 4 4) := blk_cell hA 5
  have lA : A < v.heap.size := by omega
  simp only [nil4, List.getElem?_toArray, List.getElem?_cons_zero, List.getElem?_cons_succ] at sa1 sc1 vc2
  clear ha hb hA hB xv
  go_upto_region 24 with (fail)
  refine wp_forget (fun y => SV Na Sa Va 20 sZ y ∧ SV Nb Sb Vb 20 b4c y ∧ y.heap[A]? = some (helpO Na Sa Va 20) ∧ y.heap[A + 1]? = some (helpO Nb Sb Vb 20) ∧ Ext w0 y) ⟨?_, ?_, block_ext (Ext.alloc (Ext.refl _) _) ((Below.heap_setCell _ _ _ _ (by show A ≠ Nb + 13; omega)).trans HBA.out), block_ext (Ext.alloc (Ext.refl _) _) ((Below.heap_setCell _ _ _ _ (by show A + 1 ≠ Nb + 13; omega)).trans HBB.out), (Ext.alloc (XV.out.setCell (by show w0.heap.size ≤ Nb + 13; omega) _) _)⟩ ?_
  · exact ((HA.out.aside (b := Nb + 13) _ (by omega) (by omega) (by omega)).ext (Ext.alloc (Ext.refl _) _)).script baseC_of rfl rfl (nilS_v _) (nilA_v _)
  · have e1 : Ext (v.setCell ⟨Nb + 13, 33, none⟩ (.slice (some ⟨v.heap.size, 0, none⟩) 3 3)) ((v.setCell ⟨Nb + 13, 33, none⟩ (.slice (some ⟨v.heap.size, 0, none⟩) 3 3)).alloc (.cells #[.int .i64 0, .int .i64 1, .int .i64 5] 3 (0, 0))) := Ext.alloc (Ext.refl _) _
    have hT := (HB.out.takeAside 33 (.slice (some ⟨v.heap.size, 0, none⟩) 3 3)).ext e1
    have hD := block_ext e1 (HB.out.domBlk 33 (.slice (some ⟨v.heap.size, 0, none⟩) 3 3))
    have n1 := heap_new1' v ⟨Nb + 13, 33, none⟩ (.slice (some ⟨v.heap.size, 0, none⟩) 3 3) (.cells #[.int .i64 0, .int .i64 1, .int .i64 5] 3 (0, 0))
    refine SV.of_doms hT (doms4 hD rfl fun i d hi => ?_)
    match i, hi with
    | 0, hi => simp at hi; subst hi; exact ⟨_, _, rfl, rows_lie hT.lies (v := .s 6 2) (RV.wf_of rfl) (by rfl), ints_lie hT.lies (v := .nil) (RV.wf_of rfl) (by rfl), by decide, by decide⟩
    | 1, hi => simp at hi; subst hi; exact ⟨_, _, rfl, rows_lie hT.lies (v := .s 8 1) (RV.wf_of rfl) (by rfl), ints_lie hT.lies (v := .s 9 2) (RV.wf_of rfl) (by rfl), by decide, by decide⟩
    | 2, hi => simp at hi; subst hi; exact ⟨_, _, rfl, rows_lie hT.lies (v := .s 11 1) (RV.wf_of rfl) (by rfl), ints_lie hT.lies (v := .nil) (RV.wf_of rfl) (by rfl), by decide, by decide⟩
    | 3, hi => simp at hi; subst hi; exact ⟨_, _, rfl, rows_lie hT.lies (v := .nil) (RV.wf_of rfl) (by rfl), nums_blk (r := [0, 1, 5]) n1 (by decide) (by decide), by decide, by decide⟩
  clear HA HB XV HBA HBB hNa hSa hNb hSb hVb lB bs bv bs2 sa1 saf sc1 vc2 sf1 vf2 pc rc rf d31 f31 d25 f25 d02 f02 d33 f33 ln13 q2 q3 q4 q5 q6 qf r5 lA hmk b13 bsb bvb
  rintro y ⟨sa, sb, kA, kB, hx⟩
  (try clear v)
  have HX := hid hx
  have FA : ScFit sZ := .of (by kernel_rfl) (by kernel_rfl) (by kernel_rfl)
  have FB : ScFit b4c := .of (by kernel_rfl) (by kernel_rfl) (by kernel_rfl)
  have hne : sZ ≠ b4c := fun h => absurd (congrArg (fun s : Scr => s.conf.doms.map (·.release)) h) (by decide)
  have hIA := hid (fun z (hz : Ext y z) => show Calls Try.prog 7 #[helpV Na Sa Va 20] z (Yields z .nilIface) from sIs FA.is (sa.ext hz))
  have hIB := hid (fun z (hz : Ext y z) => show Calls Try.prog 7 #[helpV Nb Sb Vb 20] z (Yields z .nilIface) from sIs FB.is (sb.ext hz))
  have hBA := hid (fun z (hz : Ext y z) => gBytes FA.is FA.inn FA.len (sa.ext hz))
  have hBB := hid (fun z (hz : Ext y z) => gBytes FB.is FB.inn FB.len (sb.ext hz))
  have hSM := hid (fun z (hz : Ext y z) => uSame hne (sa.ext hz) (sb.ext hz))
  have hst := fit_ne FA FB hne
  obtain ⟨la, hla⟩ : ∃ l, l = allBytes sZ := ⟨_, rfl⟩
  obtain ⟨lb, hlb⟩ : ∃ l, l = allBytes b4c := ⟨_, rfl⟩
  rw [← hla] at hBA hst
  rw [← hlb] at hBB hst
  rw [str_toList, str_toList] at hst
  have g1 : (la == lb) = false := by simpa using hst
  have g2 : (la != lb) = true := by simpa using hst
  clear hla hlb hst FA FB hne
  have hen := fun w => run_eql_nil_nil' (P := Try.prog) w Try.underlying33
  have lA := lt_of_block kA
  have lB := lt_of_block kB
  have a0 := blk_cell kA 0
  have a1 := blk_cell kA 1
  have a2 := blk_cell kA 2
  have a3 := blk_cell kA 3
  have a4 := blk_cell kA 4
  have a5 := blk_cell kA 5
  have a6 := blk_cell kA 6
  have b0 := blk_cell kB 0
  have b1 := blk_cell kB 1
  have b2 := blk_cell kB 2
  have b3 := blk_cell kB 3
  have b4 := blk_cell kB 4
  have b5 := blk_cell kB 5
  have b6 := blk_cell kB 6
  simp only [List.getElem?_toArray, List.getElem?_cons_zero, List.getElem?_cons_succ] at a0 a1 a2 a3 a4 a5 a6 b0 b1 b2 b3 b4 b5 b6
  clear kA kB sa sb hx
  ((first | refine wp_region_more (by kernel_rfl) (by kernel_rfl) ?_ | refine wp_region_ext (by kernel_rfl) (by kernel_rfl) ?_); (try dsimp only [append_cons', append_nil']); (repeat (go_big_quiet_step ((first | (go_at_call 7; with_reducible refine Calls.more_of (hIA.out _ (ext_more _ _))) | (go_at_call 7; with_reducible refine Calls.more_of (hIB.out _ (ext_more _ _))) | (go_at_call 9; with_reducible refine Calls.more_of (hBA.out _ (ext_more _ _))) | (go_at_call 9; with_reducible refine Calls.more_of (hBB.out _ (ext_more _ _))) | (go_at_call 11; with_reducible refine Calls.more_of (hSM.out _ (ext_more _ _))))))); refine wpQuiet_nil ?_; rintro _ ⟨pq, rfl⟩)
  go_wp2
  go_returns
  exact ⟨rfl, hE0.out.trans (HX.out.more _)⟩

def b4d : Scr := ⟨⟨8, 2, [[2, 2, 2, 2], [5, 1, 1, 1]], [⟨0, 0, [[1, 3], [2, 3]], [], -1, 4, 2, 4, 3, 2⟩, ⟨1, 1, [[3]], [0, 1], 0, 4, 2, 4, 3, 2⟩, ⟨1, 2, [[3]], [], -1, 4, 2, 4, 3, 2⟩, ⟨2, 3, [], [0, 1, 6], 1, 4, 2, 4, 3, 2⟩]⟩, 20, nilS, nilA⟩
set_option maxRecDepth 100000 in
set_option maxHeartbeats 8000000 in
theorem walk4d (which n : Int) (hw0 : 0 ≤ which) (hw1 : which ≤ 255) (hn0 : 0 ≤ n) (hn1 : n ≤ 255) (hk : which % 9 = 4) (hn : n % 4 = 3) (w : World) :
    Calls Try.prog 4 #[.int .u8 which, .int .u8 n] w (Yields w (.bool true)) := by
  have hmk := mkAxns 4 4 rfl (by decide)
  go_enter Try.func4, Try.ntmps4
  go_wp2_with fail
  refine (known4_any _).yields ?_
  intro p0
  have hE0 := hid (ext_more w p0)
  generalize more w p0 = w0 at *
  go_wp2_with fail
  refine (help_any _ 20).mono ?_
  rintro e w1 ⟨Na, Sa, Va, rfl, ha, xa⟩
  go_wp2_with fail
  refine (help_any _ 20).mono ?_
  rintro e w2 ⟨Nb, Sb, Vb, rfl, hb, xb⟩
  have lna := lt_of_block (ha.lies.block (b := 13) rfl)
  have bsa := lt_of_block ha.sb
  have bva := lt_of_block ha.vb
  have hw12 := xb.size
  go_upto_region 5 with (fail)
  refine wp_forget (fun v => HelpS w0.heap.size Na Sa Va baseRO nil4 nil4 v ∧ HelpS w1.heap.size Nb Sb Vb baseRO nil4 nil4 v ∧ v.heap[w2.heap.size]? = some (helpO Na Sa Va 20) ∧ v.heap[w2.heap.size + 1]? = some (helpO Nb Sb Vb 20) ∧ Ext w0 v ∧ Nb + 13 < w2.heap.size ∧ Sb < w2.heap.size ∧ Vb < w2.heap.size)
    ⟨ha.ext (xb.trans (Ext.alloc (Ext.alloc (Ext.refl _) _) _)), hb.ext (Ext.alloc (Ext.alloc (Ext.refl _) _) _), block_ext (Ext.alloc (Ext.refl _) _) (heap_alloc_new w2 (helpO Na Sa Va 20)), heap_new2 w2 (helpO Na Sa Va 20) (helpO Nb Sb Vb 20), (xa.trans xb).trans (Ext.alloc (Ext.alloc (Ext.refl _) _) _), lt_of_block (hb.lies.block (b := 13) rfl), lt_of_block hb.sb, lt_of_block hb.vb⟩ ?_
  clear ha hb xa xb
  generalize w2.heap.size = A at *
  clear w2
  rintro v ⟨ha, hb, hA, hB, xv, b13, bsb, bvb⟩
  have HA := hid ha
  have HB := hid hb
  have XV := hid xv
  have HBA := hid hA
  have HBB := hid hB
  have hNa := ha.hN
  have hSa := ha.hS
  have hNb := hb.hN
  have hSb := hb.hS
  have hVb := hb.hV
  have lB := lt_of_block hB
  have bs := lt_of_block hb.sb
  have bv := lt_of_block hb.vb
  have bs2 := lt_of_block ha.sb
  have sa1 := blk_cell ha.sb 1
  have saf := blk_free ha.sb 1
  have sc1 := blk_cell hb.sb 1
  have vc2 := blk_cell hb.vb 2
  have sf1 := blk_free hb.sb 1
  have vf2 := blk_free hb.vb 2
  have pc : v.cell? ⟨Nb + 3, 0, none⟩ = some (.slice (some ⟨Nb + 1, 0, none⟩) 4 4) := hb.lies.at (b := 3) (j := 0) (v := .s 1 4) rfl
  have rc : v.cell? ⟨Nb + 1, 1, none⟩ = some (.int .i64 2) := hb.lies.at (b := 1) (j := 1) (v := .i 2) rfl
  have rf : v.frozen? ⟨Nb + 1, 1, none⟩ = false := hb.lies.free (b := 1) (j := 1) (v := .i 2) rfl
  have d31 : v.cell? ⟨Nb + 13, 31, none⟩ = some (.int .u64 3) := hb.lies.at (b := 13) (j := 31) (v := .u 3) rfl
  have f31 : v.frozen? ⟨Nb + 13, 31, none⟩ = false := hb.lies.free (b := 13) (j := 31) (v := .u 3) rfl
  have d25 : v.cell? ⟨Nb + 13, 25, none⟩ = some (.int .i64 4) := hb.lies.at (b := 13) (j := 25) (v := .i 4) rfl
  have f25 : v.frozen? ⟨Nb + 13, 25, none⟩ = false := hb.lies.free (b := 13) (j := 25) (v := .i 4) rfl
  have d02 : v.cell? ⟨Nb + 13, 2, none⟩ = some (.slice (some ⟨Nb + 6, 0, none⟩) 2 2) := hb.lies.at (b := 13) (j := 2) (v := .s 6 2) rfl
  have f02 : v.frozen? ⟨Nb + 13, 2, none⟩ = false := hb.lies.free (b := 13) (j := 2) (v := .s 6 2) rfl
  have d33 : v.cell? ⟨Nb + 13, 33, none⟩ = some (.slice (some ⟨Nb + 12, 0, none⟩) 3 3) := hb.lies.at (b := 13) (j := 33) (v := .s 12 3) rfl
  have f33 : v.frozen? ⟨Nb + 13, 33, none⟩ = false := hb.lies.free (b := 13) (j := 33) (v := .s 12 3) rfl
  have ln13 : Nb + 13 < v.heap.size := by omega
  have q2 : v.cell? ⟨A + 1, 2, none⟩ = some (.slice (some ⟨Nb + 3, 0, none⟩) 2 2) := blk_cell hB 2
  have q3 : v.cell? ⟨A + 1, 3, none⟩ = some (.slice (some ⟨Nb + 13, 0, none⟩) 4 4) := blk_cell hB 3
  have q4 : v.cell? ⟨A + 1, 4, none⟩ = some (.int .i64 20) := blk_cell hB 4
  have q5 : v.cell? ⟨A + 1, 5, none⟩ = some (.slice (some ⟨Sb, 0, none⟩) 4 4) := blk_cell hB 5
  have q6 : v.cell? ⟨A + 1, 6, none⟩ = some (.slice (some ⟨Vb, 0, none⟩) 4 4) := blk_cell hB 6
  have qf : v.frozen? ⟨A + 1, 4, none⟩ = false := blk_free hB 4
  have r5 : v.cell? ⟨A, 5, none⟩ = some (.slice (some ⟨Sa, 0, none⟩) 4 4) := blk_cell hA 5
  have lA : A < v.heap.size := by omega
  simp only [nil4, List.getElem?_toArray, List.getElem?_cons_zero, List.getElem?_cons_succ] at sa1 sc1 vc2
  clear ha hb hA hB xv
  go_upto_region 24 with (fail)
  refine wp_forget (fun y => SV Na Sa Va 20 sZ y ∧ SV Nb Sb Vb 20 b4d y ∧ y.heap[A]? = some (helpO Na Sa Va 20) ∧ y.heap[A + 1]? = some (helpO Nb Sb Vb 20) ∧ Ext w0 y) ⟨?_, ?_, block_ext (Ext.alloc (Ext.refl _) _) ((Below.heap_setCell _ _ _ _ (by show A ≠ Nb + 13; omega)).trans HBA.out), block_ext (Ext.alloc (Ext.refl _) _) ((Below.heap_setCell _ _ _ _ (by show A + 1 ≠ Nb + 13; omega)).trans HBB.out), (Ext.alloc (XV.out.setCell (by show w0.heap.size ≤ Nb + 13; omega) _) _)⟩ ?_
  · exact ((HA.out.aside (b := Nb + 13) _ (by omega) (by omega) (by omega)).ext (Ext.alloc (Ext.refl _) _)).script baseC_of rfl rfl (nilS_v _) (nilA_v _)
  · have e1 : Ext (v.setCell ⟨Nb + 13, 33, none⟩ (.slice (some ⟨v.heap.size, 0, none⟩) 3 3)) ((v.setCell ⟨Nb + 13, 33, none⟩ (.slice (some ⟨v.heap.size, 0, none⟩) 3 3)).alloc (.cells #[.int .i64 0, .int .i64 1, .int .i64 6] 3 (0, 0))) := Ext.alloc (Ext.refl _) _
    have hT := (HB.out.takeAside 33 (.slice (some ⟨v.heap.size, 0, none⟩) 3 3)).ext e1
    have hD := block_ext e1 (HB.out.domBlk 33 (.slice (some ⟨v.heap.size, 0, none⟩) 3 3))
    have n1 := heap_new1' v ⟨Nb + 13, 33, none⟩ (.slice (some ⟨v.heap.size, 0, none⟩) 3 3) (.cells #[.int .i64 0, .int .i64 1, .int .i64 6] 3 (0, 0))
    refine SV.of_doms hT (doms4 hD rfl fun i d hi => ?_)
    match i, hi with
    | 0, hi => simp at hi; subst hi; exact ⟨_, _, rfl, rows_lie hT.lies (v := .s 6 2) (RV.wf_of rfl) (by rfl), ints_lie hT.lies (v := .nil) (RV.wf_of rfl) (by rfl), by decide, by decide⟩
    | 1, hi => simp at hi; subst hi; exact ⟨_, _, rfl, rows_lie hT.lies (v := .s 8 1) (RV.wf_of rfl) (by rfl), ints_lie hT.lies (v := .s 9 2) (RV.wf_of rfl) (by rfl), by decide, by decide⟩
    | 2, hi => simp at hi; subst hi; exact ⟨_, _, rfl, rows_lie hT.lies (v := .s 11 1) (RV.wf_of rfl) (by rfl), ints_lie hT.lies (v := .nil) (RV.wf_of rfl) (by rfl), by decide, by decide⟩
    | 3, hi => simp at hi; subst hi; exact ⟨_, _, rfl, rows_lie hT.lies (v := .nil) (RV.wf_of rfl) (by rfl), nums_blk (r := [0, 1, 6]) n1 (by decide) (by decide), by decide, by decide⟩
  clear HA HB XV HBA HBB hNa hSa hNb hSb hVb lB bs bv bs2 sa1 saf sc1 vc2 sf1 vf2 pc rc rf d31 f31 d25 f25 d02 f02 d33 f33 ln13 q2 q3 q4 q5 q6 qf r5 lA hmk b13 bsb bvb
  rintro y ⟨sa, sb, kA, kB, hx⟩
  (try clear v)
  have HX := hid hx
  have FA : ScFit sZ := .of (by kernel_rfl) (by kernel_rfl) (by kernel_rfl)
  have FB : ScFit b4d := .of (by kernel_rfl) (by kernel_rfl) (by kernel_rfl)
  have hne : sZ ≠ b4d := fun h => absurd (congrArg (fun s : Scr => s.conf.doms.map (·.release)) h) (by decide)
  have hIA := hid (fun z (hz : Ext y z) => show Calls Try.prog 7 #[helpV Na Sa Va 20] z (Yields z .nilIface) from sIs FA.is (sa.ext hz))
  have hIB := hid (fun z (hz : Ext y z) => show Calls Try.prog 7 #[helpV Nb Sb Vb 20] z (Yields z .nilIface) from sIs FB.is (sb.ext hz))
  have hBA := hid (fun z (hz : Ext y z) => gBytes FA.is FA.inn FA.len (sa.ext hz))
  have hBB := hid (fun z (hz : Ext y z) => gBytes FB.is FB.inn FB.len (sb.ext hz))
  have hSM := hid (fun z (hz : Ext y z) => uSame hne (sa.ext hz) (sb.ext hz))
  have hst := fit_ne FA FB hne
  obtain ⟨la, hla⟩ : ∃ l, l = allBytes sZ := ⟨_, rfl⟩
  obtain ⟨lb, hlb⟩ : ∃ l, l = allBytes b4d := ⟨_, rfl⟩
  rw [← hla] at hBA hst
  rw [← hlb] at hBB hst
  rw [str_toList, str_toList] at hst
  have g1 : (la == lb) = false := by simpa using hst
  have g2 : (la != lb) = true := by simpa using hst
  clear hla hlb hst FA FB hne
  have hen := fun w => run_eql_nil_nil' (P := Try.prog) w Try.underlying33
  have lA := lt_of_block kA
  have lB := lt_of_block kB
  have a0 := blk_cell kA 0
  have a1 := blk_cell kA 1
  have a2 := blk_cell kA 2
  have a3 := blk_cell kA 3
  have a4 := blk_cell kA 4
  have a5 := blk_cell kA 5
  have a6 := blk_cell kA 6
  have b0 := blk_cell kB 0
  have b1 := blk_cell kB 1
  have b2 := blk_cell kB 2
  have b3 := blk_cell kB 3
  have b4 := blk_cell kB 4
  have b5 := blk_cell kB 5
  have b6 := blk_cell kB 6
  simp only [List.getElem?_toArray, List.getElem?_cons_zero, List.getElem?_cons_succ] at a0 a1 a2 a3 a4 a5 a6 b0 b1 b2 b3 b4 b5 b6
  clear kA kB sa sb hx
  ((first | refine wp_region_more (by kernel_rfl) (by kernel_rfl) ?_ | refine wp_region_ext (by kernel_rfl) (by kernel_rfl) ?_); (try dsimp only [append_cons', append_nil']); (repeat (go_big_quiet_step ((first | (go_at_call 7; with_reducible refine Calls.more_of (hIA.out _ (ext_more _ _))) | (go_at_call 7; with_reducible refine Calls.more_of (hIB.out _ (ext_more _ _))) | (go_at_call 9; with_reducible refine Calls.more_of (hBA.out _ (ext_more _ _))) | (go_at_call 9; with_reducible refine Calls.more_of (hBB.out _ (ext_more _ _))) | (go_at_call 11; with_reducible refine Calls.more_of (hSM.out _ (ext_more _ _))))))); refine wpQuiet_nil ?_; rintro _ ⟨pq, rfl⟩)
  go_wp2
  go_returns
  exact ⟨rfl, hE0.out.trans (HX.out.more _)⟩
end scriptUnlike
end Go.Proofs.Ytbllibgddiiboaa
