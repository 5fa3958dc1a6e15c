/- What every statement of stage 15 asks first: known. -/
import Derived.Test.YtbnjfahjbemleaaLpTq
import Derived.Test.YtbnjfahjbemleaaBase
import Derived.Test.YtbnjfahjbemleaaSI
import Derived.Test.YtbnjfahjbemleaaErr
import Derived.Deep.CutRange
import Derived.Deep.CutBlock
import Derived.Deep.LoopGhost
import Derived.Deep.RegionHeld3
import Derived.Deep.QuietTactic
import Derived.BigQuiet
import Derived.WalkSpells
import Derived.WalkLawsBesides
namespace Go.Proofs.Ytbnjfahjbemleaa
open Go.RowKit

theorem p1_askPlan_to {W0 : World} {b : Nat} {c : Cnf} {s s' : Lt} {n : Nat} {v : Value} {F : Nat → Prop} {w : World} (h : P1 W0 b c s F w) {i : Int} (e : s.askPlan c i = (n, s')) (hv : errV n = v) : Calls Try.prog 10 #[.pointer (some ⟨b, 0, none⟩), .int .i64 i] w fun e w' => e = .returned v ∧ P1 W0 b c s' F w' ∧ Kept F w w' := by
  have := p1_askPlan h i
  rw [e, hv] at this
  exact this
theorem p1_askLevel_to {W0 : World} {b : Nat} {c : Cnf} {s s' : Lt} {n : Nat} {v : Value} {F : Nat → Prop} {w : World} (h : P1 W0 b c s F w) {d l : Int} (e : s.askLevel c d l = (n, s')) (hv : errV n = v) : Calls Try.prog 11 #[.pointer (some ⟨b, 0, none⟩), .int .i64 d, .int .i64 l] w fun e w' => e = .returned v ∧ P1 W0 b c s' F w' ∧ Kept F w w' := by
  have := p1_askLevel h d l
  rw [e, hv] at this
  exact this
theorem errV_at {n : Nat} {k : Int} (h : n ≠ 0) (hk : (n : Int) = k) : errV n = .iface 47 (.int .i64 k) := by rw [errV_pos h, hk]
abbrev nF : Nat → Prop := fun _ => False
def ls0 : Lt := ⟨0, 0, [0, 0, 0, 0], [0, 0, 0, 0]⟩
def ls1 : Lt := ⟨0, 1, [0, 0, 0, 0], [0, 0, 0, 0]⟩
def ls2 : Lt := ⟨0, 1, [0, 0, 0, 0], [0, 0, 0, 2]⟩
def ls3 : Lt := ⟨1, 1, [0, 0, 0, 2], [0, 0, 0, 2]⟩
theorem lk0 : Lt.new baseC = ls0 := rfl
theorem lk1 : ls0.askPlan baseC 1 = (0, ls1) := rfl
theorem lk2 : ls1.askLevel baseC 3 2 = (0, ls2) := rfl
theorem lk3 : ls2.askLevel baseC 0 0 = (10, ls2) := rfl
theorem lk4 : ls2.askLevel baseC 9 0 = (13, ls2) := rfl
theorem lk5 : ls2.turn = ls3 := rfl

set_option maxRecDepth 100000 in
set_option maxHeartbeats 4000000 in
theorem known_any (w : World) : Calls Try.prog 5 #[] w (Yields w (.bool true)) := by
  go_enter Try.func5, Try.ntmps5
  go_wp2_with fail
  refine (base_to _).mono ?_
  rintro e w1 ⟨N, rfl, n1, l1, x1, s1⟩
  have K := known_conf l1 (c := baseC) (by rfl)
  clear n1 l1 s1
  go_upto_region 2 with (go_at_call 6; (refine (K.val ▸ p1_new K.v baseC_is nF (fun _ h => h.elim)).mono ?_); rintro e w2 ⟨b, rfl, hP, hx2⟩)
  have hX := x1.trans hx2
  have hP0 : P1 w1 b baseC ls0 nF w2 := hP
  clear hP
  go_upto_region 5 with (first
    | (go_at_call 10; (with_reducible refine (p1_askPlan_to hP0 lk1 errV_0).mono ?_); rintro e w3 ⟨rfl, hP1, hk1⟩)
    | (go_at_call 11; (with_reducible refine (p1_askLevel_to hP1 lk2 errV_0).mono ?_); rintro e w4 ⟨rfl, hP2, hk2⟩)
    | (go_at_call 11; (with_reducible refine (p1_askLevel_to hP2 lk3 (errV_at (k := 10) (by decide) rfl)).mono ?_); rintro e w5 ⟨rfl, hP3, hk3⟩)
    | (go_at_call 11; (with_reducible refine (p1_askLevel_to hP3 lk4 (errV_at (k := 13) (by decide) rfl)).mono ?_); rintro e w6 ⟨rfl, hP4, hk4⟩))
  clear hP0 hP1 hP2 hP3 hk1 hk2 hk3 hk4
  have h4 : 0 < baseC.doms.length := by decide
  go_upto_region 6 with (first
    | (go_at_call 9; (with_reducible refine (p1_plan hP4).yields ?_); intro p7)
    | (go_at_call 8; (refine (p1_levels (hP4.ext (ext_more _ _)) h4).mono ?_); rintro e w8 ⟨g1, cap1, rfl, hx8, hg1, hr1⟩))
  have hP5 := (hP4.ext (ext_more _ p7)).more hx8 hg1 hr1.blk.2.1
  clear hx8 hg1 hP4
  go_upto_region 7 with (go_at_call 13; (refine (p1_turn hP5).mono ?_); rintro e w9 ⟨rfl, hP6, hk6⟩)
  have hr2 := hk6.row (.inr rfl) hr1
  clear hk6 hr1 hP5
  go_upto_region 8 with (go_at_call 8; (refine (p1_levels hP6 h4).mono ?_); rintro e w10 ⟨g2, cap2, rfl, hx10, hg2, hr3⟩)
  have hP7 := hP6.ext hx10
  have HI1 : Hid (Ints w10 (.slice (some ⟨g1, 0, none⟩) baseC.doms.length cap1) [0, 0, 0, 0]) := hid ((hr2.ext hx10).ints' (n := baseC.doms.length) rfl)
  have HI2 : Hid (Ints w10 (.slice (some ⟨g2, 0, none⟩) baseC.doms.length cap2) [0, 0, 0, 2]) := hid (hr3.ints' (n := baseC.doms.length) rfl)
  have hX2 : Ext w w10 := x1.trans hP7.x
  have HPL := hid (fun u (h : P1 w1 b baseC ls2.turn (fun i => nF i ∨ i = g1) u) => p1_plan h)
  have HP7 := hid hP7
  clear hr2 hr3 hx10 hP6 hP7 hg2
  go_wp2_with (first
    | (go_at_call 16; (with_reducible refine (is_errno_to (r := true) rfl _).yields ?_); intro p1)
    | (go_at_call 9; (refine (HPL.out _ (HP7.out.ext ?hx)).yields ?_); (case hx => exact ext_by); intro p2)
    | (go_at_call 12; (with_reducible refine (sameI_to (HI1.out.ext ?hx) (lit4 0 0 0 0 ?hg)).yields ?_); (case hx => exact ext_by); (case hg => simp [more_size]); intro p3)
    | (go_at_call 12; (with_reducible refine (sameI_to (HI2.out.ext ?hx) (lit4 0 0 0 2 ?hg)).yields ?_); (case hx => exact ext_by); (case hg => simp [more_size]); intro p4))
  go_returns
  exact ⟨by simp, ext_by⟩
end Go.Proofs.Ytbnjfahjbemleaa
