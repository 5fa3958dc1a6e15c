/- WireStops: of every number and every row of steps, in whatever memory: the law answers true, and its arguments read as they did. No conditions. -/
import Derived.Test.YtjldcchlnnfbgaaWireKnown
import Derived.Test.YtjldcchlnnfbgaaOwn2
namespace Go.Proofs.Ytjldcchlnnfbgaa
open Go.ChangeShapes Go.WideShapes Go.ChangeAt Go.RowKit Go.Joins Go.Deep

namespace wireStops
theorem num_bad11 (most : Int) : (⟨[], 11⟩ : Rd).num most = 0 ∧ (⟨[], 11⟩ : Rd).afterNum most = ⟨[], 11⟩ := Rd.num_err (by decide)

set_option maxRecDepth 100000 in
set_option maxHeartbeats 4000000 in
theorem walk (n : Int) (hn : 0 ≤ n) (hn' : n ≤ 255) (v : Value) (l : List (Int × Int)) (w : World) (hl : Steps w v l) :
    Calls Try.prog 5 #[.int .u8 n, v] w (Yields w (.bool true)) := by
  obtain ⟨p, cap, rfl, hcap, hmax, hc⟩ := hl
  have HC := hid hc
  clear hc
  unfold maxLen at hmax
  go_enter Try.func5, Try.ntmps5
  go_wp2_with fail
  refine (known_any _).yields ?_
  intro p0
  by_cases hlen : 30 < l.length
  · go_wp2_with fail
    go_returns
    exact ⟨rfl, (by repeat (first | exact Ext.refl _ | assumption | refine Ext.more ?_ _ | refine Ext.drew ?_ | refine Ext.drewN ?_ _ | refine Ext.alloc ?_ _ | refine Ext.setCell ?_ (by simp; try omega) _ | refine Ext.trans ?_ (by assumption)))⟩
  have hlen' : (l.length : Int) ≤ 30 := by omega
  go_wp2_with fail
  have hE0 : Ext w (more w p0) := ext_more w p0
  generalize more w p0 = w0 at *
  refine (new_any _).mono ?_
  rintro e w1 ⟨rfl, rfl⟩
  have h1 := Wr.new w0
  have k1 : Below w0.heap.size w0 (w0.alloc (.cells #[.slice none 0 0] 49 (0, 0))) := (Below.refl _ _).alloc (Nat.le_refl _) _
  generalize w0.alloc (.cells #[.slice none 0 0] 49 (0, 0)) = w1 at *
  go_wp2_with fail
  refine (wnum_to _ _ _ (numB n) _ _ h1 (by simp) (by rfl)).mono ?_
  rintro e w2 ⟨rfl, b2, h2⟩
  go_wp2_with fail
  have hnl := numB_length n
  refine (wbits_to _ _ _ (numB n ++ bitsB 7) _ (by omega) (by omega) _ h2 (by omega) (by rfl)).mono ?_
  rintro e w3 ⟨rfl, b3, h3⟩
  go_wp2_with fail
  refine (wstr_any _ _ _ _ h3).mono ?_
  rintro e w4 ⟨rfl, rfl⟩
  go_wp2_with fail
  refine (of_any _ _).mono ?_
  rintro e w5 ⟨rfl, rfl⟩
  have r5 := Rr.new (numB n ++ bitsB 7) w4
  have k5 : Below w4.heap.size w4 (w4.alloc (.cells #[.string (str (numB n ++ bitsB 7)), .nilIface] 51 (0, 0))) := (Below.refl _ _).alloc (Nat.le_refl _) _
  generalize w4.alloc (.cells #[.string (str (numB n ++ bitsB 7)), .nilIface] 51 (0, 0)) = w5 at *
  have hb7 : (bitsB 7).length = 8 := bitsB_length 7
  have hlen7 : (numB n ++ bitsB 7).length ≤ 140737488355328 := by rw [List.length_append]; omega
  have hnum := Rd.num_good (r := ⟨numB n ++ bitsB 7, 0⟩) (most := n) rfl ((scan_num (by omega) (by omega) (bitsB 7)).trans (if_neg (by omega)))
  simp only [List.drop_left] at hnum
  go_wp2_with fail
  refine (rnum_to _ _ ⟨bitsB 7, 0⟩ _ n _ r5 hlen7 hnum.1 hnum.2).mono ?_
  rintro e w6 ⟨rfl, r6, o6⟩
  go_wp2_with fail
  refine (rbits_to _ _ ⟨[], 0⟩ 7 _ r6 (by simp [hb7]) (by decide) (by rfl)).mono ?_
  rintro e w7 ⟨rfl, r7, o7⟩
  go_wp2_with fail
  refine (err_any _ _ _ r7).mono ?_
  rintro e w8 ⟨rfl, rfl⟩
  rw [errV_0]
  go_wp2_with fail
  refine (rbits_to _ _ ⟨[], 11⟩ 0 _ r7 (by simp) (by decide) (by rfl)).mono ?_
  rintro e w9 ⟨rfl, r9, o9⟩
  go_wp2_with fail
  refine (err_any _ _ _ r9).mono ?_
  rintro e wa ⟨rfl, rfl⟩
  rw [errV_pos (by decide)]
  go_wp2_with fail
  refine (Err.is_errno 11 11 _).mono ?_
  rintro e wb ⟨rfl, hx⟩
  have rc : Rr w4.heap.size ⟨[], 11⟩ wb := r9.ext hx
  have hs0 : w.heap.size ≤ w0.heap.size := hE0.size
  have hs4 : w0.heap.size ≤ w4.heap.size := by have := h1.lt; have := b2.size; have := b3.size; omega
  have hB : Below w.heap.size w wb := by
    have o := ((o6.trans o7).trans o9).below (base := w4.heap.size) (Nat.le_refl _) k5.size
    exact hE0.below.trans ((k1.trans (b2.trans (b3.trans ((k5.trans (o.trans (hx.below.mono (by have := lt_of_block r9; omega)))).mono (by omega))))).mono hs0)
  clear hE0 k1 h1 b2 h2 b3 h3 k5 r5 o6 r6 o7 r7 o9 r9 hx hnum
  have hs : w.heap.size ≤ w4.heap.size := by omega
  generalize w4.heap.size = c at *
  go_wp2_with fail
  go_loopw [7] (fun v wr => ∃ k : Nat, v = .int .i64 k ∧ k ≤ l.length ∧ Rr c ⟨[], 11⟩ wr ∧ Below w.heap.size w wr) (fun v _ => (l.length - intOf v).toNat)
  case atStart => exact ⟨0, rfl, by omega, rc, hB⟩
  case round =>
    obtain ⟨k, rfl, hk, hr, hb⟩ := hrel
    by_cases hlt : k < l.length
    · obtain ⟨b, off, rfl, hcells⟩ := HC.out (by omega)
      obtain ⟨c0, c1⟩ := hcells k l[k] (by simp)
      have hN := num_bad11 l[k].2
      clear hcells
      have i1 : (k : Int) < (l.length : Int) := by omega
      generalize l[k] = x at *
      obtain ⟨what, most⟩ := x
      simp only at c0 c1 hN
      by_cases hw : what = 0
      · subst hw
        have a0 := Ext.cell ⟨hb⟩ c0
        have a1 := Ext.cell ⟨hb⟩ c1
        go_wp2_with fail
        refine (rnum_to _ _ ⟨[], 11⟩ _ 0 _ hr (by simp) hN.1 hN.2).mono ?_
        rintro e w6 ⟨rfl, r6, o6⟩
        have hd := hb.trans (o6.below (base := w.heap.size) hs hb.size)
        have d0 := Ext.cell ⟨hd⟩ c0
        go_wp2_with fail
        refine (err_any _ _ _ r6).mono ?_
        rintro e w7 ⟨rfl, rfl⟩
        rw [errV_pos (by decide)]
        go_wp2_with fail
        refine (Err.is_errno 11 11 _).mono ?_
        rintro e w8 ⟨rfl, hx⟩
        have r8 : Rr c ⟨[], 11⟩ w8 := r6.ext hx
        have hf := Ext.trans ⟨hd⟩ hx
        go_wp2_with fail
        refine (left_any _ _ _ r8).mono ?_
        rintro e w9 ⟨rfl, rfl⟩
        go_wp2
        go_roundw
        case rel => exact ⟨k + 1, by go_num, by omega, r8, hf.below⟩
        case measure => simp [intOf]; omega
      · have hw' : (what == 0) = false := by simpa using hw
        have a0 := Ext.cell ⟨hb⟩ c0
        have a1 := Ext.cell ⟨hb⟩ c1
        go_wp2_with fail
        refine (rbits_to _ _ ⟨[], 11⟩ 0 _ hr (by simp) (by decide) (by rfl)).mono ?_
        rintro e w6 ⟨rfl, r6, o6⟩
        have hd := hb.trans (o6.below (base := w.heap.size) hs hb.size)
        have d0 := Ext.cell ⟨hd⟩ c0
        go_wp2_with fail
        refine (err_any _ _ _ r6).mono ?_
        rintro e w7 ⟨rfl, rfl⟩
        rw [errV_pos (by decide)]
        go_wp2_with fail
        refine (Err.is_errno 11 11 _).mono ?_
        rintro e w8 ⟨rfl, hx⟩
        have r8 : Rr c ⟨[], 11⟩ w8 := r6.ext hx
        have hf := Ext.trans ⟨hd⟩ hx
        go_wp2_with fail
        refine (left_any _ _ _ r8).mono ?_
        rintro e w9 ⟨rfl, rfl⟩
        go_wp2
        go_roundw
        case rel => exact ⟨k + 1, by go_num, by omega, r8, hf.below⟩
        case measure => simp [intOf]; omega
    · go_wp2
      go_returns
      exact ⟨rfl, ⟨hb⟩⟩

set_option linter.unusedVariables false in
set_option maxRecDepth 100000 in
theorem lifted (os : Os) (started : os.Started) (H : Type) (enc : TypeId × Value → H) :
    ReturnsInHanded {} Try.checked os 5 .any (Rows.wireStopsSpec.pre6 enc Try.prog Try.f5 Rows.wireStopsRow.domain false) (Rows.wireStopsSpec.post enc Try.prog Try.f5 false true false false) := by
  refine returnsInHanded_of_change (C := Try.checked) Own.own started (by kernel_rfl) Try.func5
    (ChangeSpec.witness6 (enc := enc) (C := Try.checked) false ⟨#[], #[.int .u8 0, .slice none 0 0], []⟩ 8 (by kernel_rfl) (by kernel_rfl) (by kernel_rfl) (by kernel_rfl)) ?_
  intro W base args ds gs before hval0 hW hcnd _
  have hval : ∀ (j : Nat) t v, Try.f5.params[j]? = some t → args[j]? = some v → Value.okWide Try.prog W .any base t v := hval0
  have hW' := hW
  obtain ⟨p, q, hA0, hV, rfl, hfz, hnd⟩ := hW
  have hA : DataW.TrodAll enc Try.prog W 0 (fun _ => true) true Try.f5.params.toList args.toList ds p := hA0
  rw [Try.params5] at hA hval
  obtain ⟨v0, vs0, d0, ds0, p0, q0, hargs, rfl, rfl, h0, r0⟩ := trodAll_cons hA
  obtain ⟨v1, vs1, d1, ds1, p1, q1, rfl, rfl, rfl, h1, r1⟩ := trodAll_cons r0
  obtain ⟨rfl, rfl, rfl⟩ := trodAll_nil r1
  obtain rfl : args = #[v0, v1] := by cases args; simp_all
  obtain ⟨rfl, rfl⟩ := trodVars_none hV
  have k0 := h0
  have lt0 : ∀ x ∈ p0, x.block < W.heap.size := by obtain ⟨m, hm⟩ := k0; exact DataW.trod_lt m _ _ _ hm
  have k1 := h1
  have lt1 : ∀ x ∈ p1, x.block < W.heap.size := by obtain ⟨m, hm⟩ := k1; exact DataW.trod_lt m _ _ _ hm
  obtain ⟨n, rfl, rfl, rfl, wn⟩ := open_int Try.underlying5 (hval 0 5 v0 rfl rfl) h0
  have bn := bounds_u8 wn
  obtain ⟨a0, len0, cap0, rfl⟩ := okWide_slice Try.underlying44 (hval 1 44 v1 rfl rfl)
  obtain ⟨l, hl⟩ := Own.open_steps h1
  clear hA0 hval0
  refine (walk n (by omega) (by omega) _ l W hl).mono fun e W' ⟨he, hx⟩ => ?_
  subst he
  exact ⟨_, rfl, _, _, _, [], _, [], hW', trodAll_mk1 (shut_bool Try.underlying4 _), (trodAll_cons_mk (Below.trod Own.laidOut (by kernel_rfl) (of_decide_eq_true (by kernel_rfl)) k0 hx.below lt0) (trodAll_cons_mk (Below.trod Own.laidOut (by kernel_rfl) (of_decide_eq_true (by kernel_rfl)) k1 hx.below lt1) trodAll_mk0)), rfl, hx.below.frame _, fun h => by cases h⟩

theorem proved : Rows.WireStopsSaid :=
  OpenClaim.holds_of_wide 5 Try.f5 rfl rfl rfl rfl rfl rfl rfl ⟨rfl, rfl, rfl, rfl, rfl⟩ rfl rfl rfl rfl rfl (by kernel_rfl) Try.func5 (by kernel_rfl)
    (of_decide_eq_true (by kernel_rfl)) (by unfold Func.isWrapper; first | (rw [if_pos (by decide +kernel)]; kernel_rfl) | (rw [if_neg (by decide +kernel)]; exact ⟨rfl, rfl⟩))
    (fun os started H enc _ => lifted os started H enc)

end wireStops
end Go.Proofs.Ytjldcchlnnfbgaa
