/- TimerLast: of every row of times set one after the other, dropped or not, at every tick: who was set last counts alone, who was dropped isn't due: the law answers true. No conditions. -/
import Derived.Test.YtlpklkkjidaecaaTiK
import Derived.Test.YtlpklkkjidaecaaOwn2
import Derived.WalkSpells
import Derived.WalkLawsBesides
import Derived.Deep.LoopGhost
namespace Go.Proofs.Ytlpklkkjidaecaa
open Go.ChangeShapes Go.WideShapes Go.ChangeAt Go.RowKit Go.Joins Go.Deep

namespace timerLast
open Ti Rw
def Inv (w0 : World) (x : Nat) (l : List Int) (j : Nat) (wr : World) : Prop := ∃ M A, St w0 x M A wr ∧ M.Perm (if j = 0 then [(9, 2000), (1, 1000)] else [(5, l.getD (j - 1) 0), (9, 2000), (1, 1000)])
theorem inv_put {l : List Int} {j : Nat} {M : List En} {u : Int} (h : M.Perm (if j = 0 then [(9, 2000), (1, 1000)] else [(5, l.getD (j - 1) 0), (9, 2000), (1, 1000)])) : (put 5 u M).Perm [(5, u), (9, 2000), (1, 1000)] := by
  have h1 := put_perm (id := 5) (u := u) h
  refine h1.trans ?_
  split
  · exact List.Perm.refl _
  · exact List.Perm.refl _

set_option maxRecDepth 100000 in
set_option maxHeartbeats 8000000 in
theorem walk (v : Value) (l : List Int) (drop : Bool) (tick : Int) (ht : 0 ≤ tick) (ht' : tick ≤ 255) (w : World) (hl : Nums .u8 w v l) :
    Calls Try.prog 5 #[v, .bool drop, .int .u8 tick] w (Yields w (.bool true)) := by
  obtain ⟨p, cap, rfl, hc1, hc2⟩ := hl.shape
  by_cases h0 : l.length = 0
  · have i0 : ((l.length : Int) == 0) = true := by rw [beq_iff_eq]; omega
    go_enter Try.func5, Try.ntmps5
    go_wp2_with (go_at_call 7; (with_reducible refine (known_any _).yields ?_); intro p0)
    go_returns
    exact ⟨rfl, (by repeat (first | exact Ext.refl _ | assumption | refine Ext.more ?_ _ | refine Ext.drew ?_ | refine Ext.drewN ?_ _ | refine Ext.alloc ?_ _ | refine Ext.setCell ?_ (by simp; try omega) _ | refine Ext.trans ?_ (by assumption)))⟩
  by_cases h20 : 20 < l.length
  · have i0 : ((l.length : Int) == 0) = false := by rw [beq_eq_false_iff_ne]; omega
    have i1 : decide ((20 : Int) < (l.length : Int)) = true := by rw [decide_eq_true_iff]; omega
    go_enter Try.func5, Try.ntmps5
    go_wp2_with (go_at_call 7; (with_reducible refine (known_any _).yields ?_); intro p0)
    go_returns
    exact ⟨rfl, (by repeat (first | exact Ext.refl _ | assumption | refine Ext.more ?_ _ | refine Ext.drew ?_ | refine Ext.drewN ?_ _ | refine Ext.alloc ?_ _ | refine Ext.setCell ?_ (by simp; try omega) _ | refine Ext.trans ?_ (by assumption)))⟩
  have H20 := hid h20
  have H0 := hid h0
  have i0 : ((l.length : Int) == 0) = false := by rw [beq_eq_false_iff_ne]; omega
  have i1 : decide ((20 : Int) < (l.length : Int)) = false := by rw [decide_eq_false_iff_not]; omega
  have HLV := hid hl
  clear hl hc1 hc2 h0 h20
  go_enter Try.func5, Try.ntmps5
  go_wp2_with fail
  refine (known_any _).yields ?_
  intro p0
  have hE0 := hid (ext_more w p0)
  have HL := hid (Nums.ext hE0.out HLV.out)
  generalize more w p0 = w0 at *
  clear HLV
  go_wp2_with fail
  (with_reducible refine (st_new (Ext.refl w0)).mono ?_)
  rintro e w1 ⟨rfl, A1, s1, -, -⟩
  go_wp2_with fail
  (with_reducible refine (st_set s1 1 1000 (by decide) (by unfold wf64; omega)).mono ?_)
  rintro e w2 ⟨rfl, A2, s2, -⟩
  clear s1
  go_wp2_with fail
  (with_reducible refine (st_set s2 9 2000 (by decide) (by unfold wf64; omega)).mono ?_)
  rintro e w3 ⟨rfl, A3, s3, -⟩
  clear s2
  have S3 : Hid (Inv w0 w0.heap.size l 0 w3) := ⟨_, _, s3, List.Perm.refl _⟩
  clear s3
  go_wp2_with fail
  go_loopw [8] (fun s wr => ∃ j : Nat, s = .int .i64 j ∧ j ≤ l.length ∧ Hid (Inv w0 w0.heap.size l j wr)) (fun s _ => (l.length - intOf s).toNat)
  case atStart => exact ⟨0, rfl, by omega, S3⟩
  case round =>
    obtain ⟨j, rfl, hj, hinv⟩ := hrel
    by_cases hlt : j < l.length
    · obtain ⟨M, A, s, hp⟩ := hinv.out
      obtain ⟨g, off, rfl, c0, cw⟩ := HL.out.at j hlt
      simp only [Nat.mul_one] at c0
      have hu := bounds_u8 cw
      have c1 := s.xt.cell c0
      have hg : Hid (l.getD (j + 1 - 1) 0 = l[j]) := by rw [Hid, Nat.add_sub_cancel, List.getD_eq_getElem?_getD, List.getElem?_eq_getElem hlt]; rfl
      have i2 : (j : Int) < (l.length : Int) := by omega
      generalize l[j] = P at *
      have S := hid s
      have HP := hid hp
      have hm : M.length ≤ 999998 := by rw [hp.length_eq]; split <;> simp
      have hm := hid hm
      have hb20 : l.length ≤ 20 := by have := H20.out; omega
      clear hinv s hp c0 cw S3
      go_wp2_with (go_at_call 9; (with_reducible refine (st_set S.out 5 P hm.out (by unfold wf64; omega)).mono ?_); rintro e w4 ⟨rfl, A4, s4, -⟩; have S4 := hid s4; clear s4)
      go_roundw
      case rel => exact ⟨j + 1, by go_num, by omega, ⟨_, A4, S4.out, by rw [if_neg (by omega), hg.out]; exact inv_put HP.out⟩⟩
      case measure => simp [intOf]; omega
    · obtain rfl : j = l.length := by omega
      obtain ⟨m, hm⟩ : ∃ m, m = l.length - 1 := ⟨_, rfl⟩
      obtain ⟨M, A, s, hp⟩ := hinv.out
      rw [if_neg H0.out, ← hm] at hp
      have hml : m < l.length := by have := H0.out; omega
      obtain ⟨g, off, rfl, c0, cw⟩ := HL.out.at m hml
      simp only [Nat.mul_one] at c0
      have hu := bounds_u8 cw
      rw [show l.getD m 0 = l[m] by rw [List.getD_eq_getElem?_getD, List.getElem?_eq_getElem hml]; rfl] at hp
      have S := hid (s.perm hp)
      have e5 : IntKind.i64.wrap ((l.length : Int) - 1) = (m : Int) := by rw [show (l.length : Int) - 1 = (m : Int) by omega]; exact IntWalk.i64_in _ (by have := H20.out; omega)
      have i2 : (m : Int) < (l.length : Int) := by omega
      have i3 : (0 : Int) ≤ (m : Int) := by omega
      generalize l[m] = P at *
      have hq1 : decide ((2000 : Int) ≤ tick) = false := by rw [decide_eq_false_iff_not]; omega
      have hq2 : decide ((1000 : Int) ≤ tick) = false := by rw [decide_eq_false_iff_not]; omega
      have HQ1 := hid hq1
      have HQ2 := hid hq2
      have C1 := hid c0
      clear hinv s hp c0 cw S3 hm hml hq1 hq2 M
      cases drop with
      | true =>
        have hin : isIn 5 [((5 : Int), P), (9, 2000), (1, 1000)] = true := rfl
        have hot : others 5 [((5 : Int), P), (9, 2000), (1, 1000)] = [(9, 2000), (1, 1000)] := rfl
        have CD := st_drop S.out 5 (by simp) (by unfold wf64; omega)
        rw [hin, hot] at CD
        have hdu : dueIds tick [((9 : Int), (2000 : Int)), (1, 1000)] = [] := by unfold dueIds isDue; simp [HQ1.out, HQ2.out, sortI]
        have hsl : sleepOn tick [((9 : Int), (2000 : Int)), (1, 1000)] = [(9, 2000), (1, 1000)] := by unfold sleepOn; simp [HQ1.out, HQ2.out]
        have HDU := hid hdu
        have HSL := hid hsl
        have CD := hid CD
        clear hin hot hdu hsl
        go_wp2_with (first | (go_at_call 11; (with_reducible refine CD.out.mono ?_); rintro e w4 ⟨rfl, A4, s4, -⟩; have S4 := hid s4; clear s4) | (go_at_call 14; (with_reducible refine (st_due S4.out tick (by simp)).mono ?_); rintro e w5 ⟨vd, A5, rfl, s5, -, o5, -⟩; rw [HDU.out] at o5; rw [HSL.out] at s5; have S5 := hid s5; obtain ⟨pd, cd, rfl, -, -, hat⟩ := ints_of_owns (l := []) o5; clear s5 o5 hat) | (go_at_call 18; (with_reducible refine (st_len S5.out).mono ?_); rintro e w6 ⟨rfl, hw⟩; rw [hw]; clear hw; clear w6))
        go_returns
        exact ⟨rfl, hE0.out.trans S5.out.xt⟩
      | false =>
        have S4 := S
        by_cases hpt : P ≤ tick
        · have hdu : dueIds tick [((5 : Int), P), (9, 2000), (1, 1000)] = [5] := by unfold dueIds isDue; simp [HQ1.out, HQ2.out, hpt, sortI]
          have hsl : sleepOn tick [((5 : Int), P), (9, 2000), (1, 1000)] = [(9, 2000), (1, 1000)] := by unfold sleepOn; simp [HQ1.out, HQ2.out, hpt]
          have HDU := hid hdu
          have HSL := hid hsl
          clear hdu hsl
          go_wp2_with (first | (go_at_call 14; (with_reducible refine (st_due S4.out tick (by simp)).mono ?_); rintro e w5 ⟨vd, A5, rfl, s5, -, o5, -⟩; rw [HDU.out] at o5; rw [HSL.out] at s5; have S5 := hid s5; have c5 := s5.xt.cell C1.out; obtain ⟨pd, cd, rfl, -, -, hat⟩ := ints_of_owns (l := [5]) o5; obtain ⟨gb, go, rfl, hc⟩ := hat (by decide); have d0 := hc 0 5 rfl; simp only [Nat.zero_mul, Nat.add_zero] at d0; clear hc; clear s5 o5 hat) | (go_at_call 18; (with_reducible refine (st_len S5.out).mono ?_); rintro e w6 ⟨rfl, hw⟩; rw [hw]; clear hw; clear w6))
          go_returns
          exact ⟨rfl, hE0.out.trans S5.out.xt⟩
        · have hpt' : tick < P := by omega
          have hdu : dueIds tick [((5 : Int), P), (9, 2000), (1, 1000)] = [] := by unfold dueIds isDue; simp [HQ1.out, HQ2.out, hpt', sortI]
          have hsl : sleepOn tick [((5 : Int), P), (9, 2000), (1, 1000)] = [(5, P), (9, 2000), (1, 1000)] := by unfold sleepOn; simp [HQ1.out, HQ2.out, hpt']
          have HDU := hid hdu
          have HSL := hid hsl
          clear hdu hsl
          go_wp2_with (first | (go_at_call 14; (with_reducible refine (st_due S4.out tick (by simp)).mono ?_); rintro e w5 ⟨vd, A5, rfl, s5, -, o5, -⟩; rw [HDU.out] at o5; rw [HSL.out] at s5; have S5 := hid s5; have c5 := s5.xt.cell C1.out; obtain ⟨pd, cd, rfl, -, -, hat⟩ := ints_of_owns (l := []) o5; clear s5 o5 hat) | (go_at_call 18; (with_reducible refine (st_len S5.out).mono ?_); rintro e w6 ⟨rfl, hw⟩; rw [hw]; clear hw; clear w6))
          go_returns
          exact ⟨rfl, hE0.out.trans S5.out.xt⟩
set_option linter.unusedVariables false in
set_option maxRecDepth 100000 in
theorem lifted (os : Os) (started : os.Started) (H : Type) (enc : TypeId × Value → H) :
    ReturnsInHanded {} Try.checked os 5 .any (Rows.timerLastSpec.pre6 enc Try.prog Try.f5 Rows.timerLastRow.domain false) (Rows.timerLastSpec.post enc Try.prog Try.f5 false true false false) := by
  refine returnsInHanded_of_change (C := Try.checked) Own.own started (by kernel_rfl) Try.func5
    (ChangeSpec.witness6 (enc := enc) (C := Try.checked) false ⟨#[], #[.slice none 0 0, .bool false, .int .u8 0], []⟩ 8 (by kernel_rfl) (by kernel_rfl) (by kernel_rfl) (by kernel_rfl)) ?_
  intro W base args ds gs before hval0 hW hcnd _
  have hval : ∀ (j : Nat) t v, Try.f5.params[j]? = some t → args[j]? = some v → Value.okWide Try.prog W .any base t v := hval0
  have hW' := hW
  obtain ⟨p, q, hA0, hV, rfl, hfz, hnd⟩ := hW
  have hA : DataW.TrodAll enc Try.prog W 0 (fun _ => true) true Try.f5.params.toList args.toList ds p := hA0
  rw [Try.params5] at hA hval
  obtain ⟨v0, vs0, d0, ds0, p0, q0, hargs, rfl, rfl, h0, r0⟩ := trodAll_cons hA
  obtain ⟨v1, vs1, d1, ds1, p1, q1, rfl, rfl, rfl, h1, r1⟩ := trodAll_cons r0
  obtain ⟨v2, vs2, d2, ds2, p2, q2, rfl, rfl, rfl, h2, r2⟩ := trodAll_cons r1
  obtain ⟨rfl, rfl, rfl⟩ := trodAll_nil r2
  obtain rfl : args = #[v0, v1, v2] := by cases args; simp_all
  obtain ⟨rfl, rfl⟩ := trodVars_none hV
  have k0 := h0
  have lt0 : ∀ x ∈ p0, x.block < W.heap.size := by obtain ⟨m, hm⟩ := k0; exact DataW.trod_lt m _ _ _ hm
  have k1 := h1
  have lt1 : ∀ x ∈ p1, x.block < W.heap.size := by obtain ⟨m, hm⟩ := k1; exact DataW.trod_lt m _ _ _ hm
  have k2 := h2
  have lt2 : ∀ x ∈ p2, x.block < W.heap.size := by obtain ⟨m, hm⟩ := k2; exact DataW.trod_lt m _ _ _ hm
  obtain ⟨a0, len0, cap0, rfl⟩ := okWide_slice Try.underlying41 (hval 0 41 v0 rfl rfl)
  obtain ⟨l, hl⟩ := Own.open_nums Try.underlying41 Try.underlying5 (by kernel_rfl) h0
  obtain ⟨b1, rfl, rfl, rfl⟩ := open_bool Try.underlying4 (hval 1 4 v1 rfl rfl) h1
  obtain ⟨n, rfl, rfl, rfl, wn⟩ := open_int Try.underlying5 (hval 2 5 v2 rfl rfl) h2
  have bn := bounds_u8 wn
  clear hA0 hval0
  refine (walk _ l b1 n (by omega) (by omega) W hl).mono fun e W' ⟨he, hx⟩ => ?_
  subst he
  exact ⟨_, rfl, _, _, _, [], _, [], hW', trodAll_mk1 (shut_bool Try.underlying4 _), (trodAll_cons_mk (Below.trod Own.laidOut (by kernel_rfl) (of_decide_eq_true (by kernel_rfl)) k0 hx.below lt0) (trodAll_cons_mk (Below.trod Own.laidOut (by kernel_rfl) (of_decide_eq_true (by kernel_rfl)) k1 hx.below lt1) (trodAll_cons_mk (Below.trod Own.laidOut (by kernel_rfl) (of_decide_eq_true (by kernel_rfl)) k2 hx.below lt2) trodAll_mk0))), rfl, hx.below.frame _, fun h => by cases h⟩

theorem proved : Rows.TimerLastSaid :=
  OpenClaim.holds_of_wide 5 Try.f5 rfl rfl rfl rfl rfl rfl rfl ⟨rfl, rfl, rfl, rfl, rfl⟩ rfl rfl rfl rfl rfl (by kernel_rfl) Try.func5 (by kernel_rfl)
    (of_decide_eq_true (by kernel_rfl)) (by unfold Func.isWrapper; first | (rw [if_pos (by decide +kernel)]; kernel_rfl) | (rw [if_neg (by decide +kernel)]; exact ⟨rfl, rfl⟩))
    (fun os started H enc _ => lifted os started H enc)

end timerLast
end Go.Proofs.Ytlpklkkjidaecaa
