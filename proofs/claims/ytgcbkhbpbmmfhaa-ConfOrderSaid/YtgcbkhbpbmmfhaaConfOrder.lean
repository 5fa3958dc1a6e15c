/- ConfOrder: of every four marks of what is wrong: the law answers true. -/
import Derived.Test.YtgcbkhbpbmmfhaaCKnown
import Derived.Test.YtgcbkhbpbmmfhaaOwn2
import Derived.ChangeMaps5
import Derived.ChangeSame
import Derived.ChangeVars
import Derived.JoinedOf
import Derived.RowKitTokens
namespace Go.Proofs.Ytgcbkhbpbmmfhaa
open Go.ChangeShapes Go.WideShapes Go.ChangeAt Go.RowKit Go.Joins Go.Deep

namespace confOrder
def oW (way : Bool) : List RO := if way then setRO baseRO 13 2 (.s 16 1) ++ [varRO] ++ [([.i 3, .i 1], 3)] ++ [([.s 15 2], 33)] else baseRO ++ [varRO]
def oQ (way quota : Bool) : List RO := if quota then setRO (oW way) 13 38 (.i 99) else oW way
def oS (way quota share : Bool) : List RO := if share then setRO (oQ way quota) 2 3 (.i (-1)) else oQ way quota
def oF (way quota share form : Bool) : List RO := if form then setRO (oS way quota share) 13 20 (.i (-1)) else oS way quota share
def eW (way : Bool) : Nat := if way then 17 else 0
def eQ (way quota : Bool) : Nat := if quota then 19 else eW way
def eS (way quota share : Bool) : Nat := if share then 18 else eQ way quota
def eF (way quota share form : Bool) : Nat := if form then 10 else eS way quota share
def cF (way quota share form : Bool) : Cnf := (confOf (oF way quota share form) 8 2 (.s 3 2) (.s 13 4)).getD baseC
theorem cF_of (way quota share form : Bool) : confOf (oF way quota share form) 8 2 (.s 3 2) (.s 13 4) = some (cF way quota share form) := by
  cases way <;> cases quota <;> cases share <;> cases form <;> rfl
theorem cF_is (way quota share form : Bool) : isConf (cF way quota share form) = eF way quota share form := by
  cases way <;> cases quota <;> cases share <;> cases form <;> rfl

set_option maxRecDepth 100000 in
set_option maxHeartbeats 8000000 in
theorem walk (form share quota way : Bool) (w : World) :
    Calls Try.prog 7 #[.bool form, .bool share, .bool quota, .bool way] w (Yields w (.bool true)) := by
  go_enter Try.func7, Try.ntmps7
  go_wp2_with (go_at_call 8; refine (known_any _).yields ?_; intro p0)
  refine (base_to _).mono ?_
  rintro e w1 ⟨N, rfl, n1, l1, x1, s1⟩
  have c1 := l1.at (b := 13) (j := 2) rfl
  have f1 := l1.free (b := 13) (j := 2) rfl
  simp only [RV.val] at c1
  have X1 : Ext w w1 := Ext.trans (ext_more _ _) x1
  have HN : Hid (w.heap.size ≤ N) := by have := n1.out; have := (ext_more w p0).size; unfold Hid; omega
  clear x1 n1
  go_upto_if 15 with (fail)
  go_cut [10] from 12 (fun s10 wx => s10 = errV (eW way) ∧ Lies N (oW way) wx ∧ Ext w wx)
  case first =>
    cases way
    · go_wp2
      go_meet
      case rel => exact ⟨rfl, l1.one s1 varRO rfl, X1.alloc _⟩
    · go_wp2
      go_meet
      case rel => exact ⟨rfl, (((l1.set (b := 13) (j := 2) (.s 16 1) rfl (RV.wf_of rfl)).one (by simp [s1, setRO, baseRO]) varRO rfl).one (by simp [s1, setRO, baseRO]) ([.i 3, .i 1], 3) rfl).one (by simp [s1, setRO, baseRO]) ([.s 15 2], 33) rfl,
        (((Ext.setCell X1 (by have := HN.out; simp; omega) _).alloc _).alloc _).alloc _⟩
  case rest =>
    obtain ⟨rfl, L, X⟩ := hcut
    go_upto_if 23 with (fail)
    go_cut [10] from 12 (fun s10 wx => s10 = errV (eQ way quota) ∧ Lies N (oQ way quota) wx ∧ Ext w wx)
    case first =>
      have c0 := L.at (b := 14) (j := 3) (v := .s 13 4) (by cases way <;> rfl)
      have c1 := L.at (b := 13) (j := 38) (v := .i 3) (by cases way <;> rfl)
      have f0 := L.free (b := 13) (j := 38) (v := .i 3) (by cases way <;> rfl)
      simp only [RV.val] at c0 c1
      cases quota
      · go_wp2
        go_meet
        case rel => exact ⟨rfl, L, X⟩
      · go_wp2
        go_meet
        case rel => exact ⟨rfl, L.put (b := 13) (j := 38) (v := .i 3) (by cases way <;> rfl) (.i 99) (RV.wf_of rfl), Ext.setCell X (by have := HN.out; simp; omega) _⟩
    case rest =>
      obtain ⟨rfl, L, X⟩ := hcut
      go_upto_if 29 with (fail)
      go_cut [10] from 12 (fun s10 wx => s10 = errV (eS way quota share) ∧ Lies N (oS way quota share) wx ∧ Ext w wx)
      case first =>
        have c0 := L.at (b := 14) (j := 2) (v := .s 3 2) (by cases way <;> cases quota <;> rfl)
        have c1 := L.at (b := 3) (j := 1) (v := .s 2 4) (by cases way <;> cases quota <;> rfl)
        have c2 := L.at (b := 2) (j := 3) (v := .i 1) (by cases way <;> cases quota <;> rfl)
        have f0 := L.free (b := 2) (j := 3) (v := .i 1) (by cases way <;> cases quota <;> rfl)
        simp only [RV.val] at c0 c1 c2
        cases share
        · go_wp2
          go_meet
          case rel => exact ⟨rfl, L, X⟩
        · go_wp2
          go_meet
          case rel => exact ⟨rfl, L.put (b := 2) (j := 3) (v := .i 1) (by cases way <;> cases quota <;> rfl) (.i (-1)) (RV.wf_of rfl), Ext.setCell X (by have := HN.out; simp; omega) _⟩
      case rest =>
        obtain ⟨rfl, L, X⟩ := hcut
        go_upto_if 36 with (fail)
        go_cut [10] from 12 (fun s10 wx => s10 = errV (eF way quota share form) ∧ Lies N (oF way quota share form) wx ∧ Ext w wx)
        case first =>
          have c0 := L.at (b := 14) (j := 3) (v := .s 13 4) (by cases way <;> cases quota <;> cases share <;> rfl)
          have c1 := L.at (b := 13) (j := 20) (v := .i 1) (by cases way <;> cases quota <;> cases share <;> rfl)
          have f0 := L.free (b := 13) (j := 20) (v := .i 1) (by cases way <;> cases quota <;> cases share <;> rfl)
          simp only [RV.val] at c0 c1
          cases form
          · go_wp2
            go_meet
            case rel => exact ⟨rfl, L, X⟩
          · go_wp2
            go_meet
            case rel => exact ⟨rfl, L.put (b := 13) (j := 20) (v := .i 1) (by cases way <;> cases quota <;> cases share <;> rfl) (.i (-1)) (RV.wf_of rfl), Ext.setCell X (by have := HN.out; simp; omega) _⟩
        case rest =>
          obtain ⟨rfl, L, X⟩ := hcut
          have k0 := L.at (b := 14) (j := 0) (v := .i 8) (by cases way <;> cases quota <;> cases share <;> cases form <;> rfl)
          have k1 := L.at (b := 14) (j := 1) (v := .i 2) (by cases way <;> cases quota <;> cases share <;> cases form <;> rfl)
          have k2 := L.at (b := 14) (j := 2) (v := .s 3 2) (by cases way <;> cases quota <;> cases share <;> cases form <;> rfl)
          have k3 := L.at (b := 14) (j := 3) (v := .s 13 4) (by cases way <;> cases quota <;> cases share <;> cases form <;> rfl)
          simp only [RV.val] at k0 k1 k2 k3
          have K := hid (known_conf L (cF_of way quota share form))
          clear L
          have HE := hid (cF_is way quota share form)
          by_cases hz : eF way quota share form = 0
          · rw [hz, errV_0]
            have HZ := hid (HE.out.trans hz)
            clear hz
            go_wp2_with (go_at_call 10; (with_reducible refine (kIs_ok HZ.out K.out).yields ?_); intro p1)
            go_returns
            exact ⟨rfl, X.more _⟩
          · rw [errV_pos hz]
            have HZ := hid hz
            clear hz
            go_wp2_with (first | (go_at_call 10; (with_reducible refine (kIs_bad _ HE.out HZ.out rfl K.out).yields ?_); intro p1) | (go_at_call 11; (with_reducible refine (is_errno_to (r := true) (by simp) _).yields ?_); intro p2))
            go_returns
            exact ⟨rfl, (by repeat (first | exact Ext.refl _ | assumption | refine Ext.more ?_ _ | refine Ext.drew ?_ | refine Ext.drewN ?_ _ | refine Ext.alloc ?_ _ | refine Ext.setCell ?_ (by simp; try omega) _ | refine Ext.trans ?_ (by assumption)))⟩

set_option linter.unusedVariables false in
set_option maxRecDepth 100000 in
theorem lifted (os : Os) (started : os.Started) (H : Type) (enc : TypeId × Value → H) :
    ReturnsInHanded {} Try.checked os 7 .any (Rows.confOrderSpec.pre6 enc Try.prog Try.f7 Rows.confOrderRow.domain false) (Rows.confOrderSpec.post enc Try.prog Try.f7 false true false false) := by
  refine returnsInHanded_of_change (C := Try.checked) Own.own started (by kernel_rfl) Try.func7
    (ChangeSpec.witness6 (enc := enc) (C := Try.checked) false ⟨#[], #[.bool false, .bool false, .bool false, .bool false], []⟩ 8 (by kernel_rfl) (by kernel_rfl) (by kernel_rfl) (by kernel_rfl)) ?_
  intro W base args ds gs before hval0 hW hcnd _
  have hval : ∀ (j : Nat) t v, Try.f7.params[j]? = some t → args[j]? = some v → Value.okWide Try.prog W .any base t v := hval0
  have hW' := hW
  obtain ⟨p, q, hA0, hV, rfl, hfz, hnd⟩ := hW
  have hA : DataW.TrodAll enc Try.prog W 0 (fun _ => true) true Try.f7.params.toList args.toList ds p := hA0
  rw [Try.params7] at hA hval
  obtain ⟨v0, vs0, d0, ds0, p0, q0, hargs, rfl, rfl, h0, r0⟩ := trodAll_cons hA
  obtain ⟨v1, vs1, d1, ds1, p1, q1, rfl, rfl, rfl, h1, r1⟩ := trodAll_cons r0
  obtain ⟨v2, vs2, d2, ds2, p2, q2, rfl, rfl, rfl, h2, r2⟩ := trodAll_cons r1
  obtain ⟨v3, vs3, d3, ds3, p3, q3, rfl, rfl, rfl, h3, r3⟩ := trodAll_cons r2
  obtain ⟨rfl, rfl, rfl⟩ := trodAll_nil r3
  obtain rfl : args = #[v0, v1, v2, v3] := by cases args; simp_all
  obtain ⟨rfl, rfl⟩ := trodVars_none hV
  have k0 := h0
  have lt0 : ∀ x ∈ p0, x.block < W.heap.size := by obtain ⟨m, hm⟩ := k0; exact DataW.trod_lt m _ _ _ hm
  have k1 := h1
  have lt1 : ∀ x ∈ p1, x.block < W.heap.size := by obtain ⟨m, hm⟩ := k1; exact DataW.trod_lt m _ _ _ hm
  have k2 := h2
  have lt2 : ∀ x ∈ p2, x.block < W.heap.size := by obtain ⟨m, hm⟩ := k2; exact DataW.trod_lt m _ _ _ hm
  have k3 := h3
  have lt3 : ∀ x ∈ p3, x.block < W.heap.size := by obtain ⟨m, hm⟩ := k3; exact DataW.trod_lt m _ _ _ hm
  obtain ⟨b0, rfl, rfl, rfl⟩ := open_bool Try.underlying4 (hval 0 4 v0 rfl rfl) h0
  obtain ⟨b1, rfl, rfl, rfl⟩ := open_bool Try.underlying4 (hval 1 4 v1 rfl rfl) h1
  obtain ⟨b2, rfl, rfl, rfl⟩ := open_bool Try.underlying4 (hval 2 4 v2 rfl rfl) h2
  obtain ⟨b3, rfl, rfl, rfl⟩ := open_bool Try.underlying4 (hval 3 4 v3 rfl rfl) h3
  clear hA0 hval0
  refine (walk b0 b1 b2 b3 W).mono fun e W' ⟨he, hx⟩ => ?_
  subst he
  exact ⟨_, rfl, _, _, _, [], _, [], hW', trodAll_mk1 (shut_bool Try.underlying4 _), (trodAll_cons_mk (Below.trod Own.laidOut (by kernel_rfl) (of_decide_eq_true (by kernel_rfl)) k0 hx.below lt0) (trodAll_cons_mk (Below.trod Own.laidOut (by kernel_rfl) (of_decide_eq_true (by kernel_rfl)) k1 hx.below lt1) (trodAll_cons_mk (Below.trod Own.laidOut (by kernel_rfl) (of_decide_eq_true (by kernel_rfl)) k2 hx.below lt2) (trodAll_cons_mk (Below.trod Own.laidOut (by kernel_rfl) (of_decide_eq_true (by kernel_rfl)) k3 hx.below lt3) trodAll_mk0)))), rfl, hx.below.frame _, fun h => by cases h⟩

theorem proved : Rows.ConfOrderSaid :=
  OpenClaim.holds_of_wide 7 Try.f7 rfl rfl rfl rfl rfl rfl rfl ⟨rfl, rfl, rfl, rfl, rfl⟩ rfl rfl rfl rfl rfl (by kernel_rfl) Try.func7 (by kernel_rfl)
    (of_decide_eq_true (by kernel_rfl)) (by unfold Func.isWrapper; first | (rw [if_pos (by decide +kernel)]; kernel_rfl) | (rw [if_neg (by decide +kernel)]; exact ⟨rfl, rfl⟩))
    (fun os started H enc _ => lifted os started H enc)

end confOrder
end Go.Proofs.Ytgcbkhbpbmmfhaa
