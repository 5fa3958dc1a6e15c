/- SpreadAlike: domains that have as many go by turns, the least first, round by round: the law answers true for every two numbers. No conditions. -/
import Derived.Test.YtiejnochddjlmaaSpK
import Derived.Deep.LoopGhost
import Derived.Deep.CutRange
import Derived.Deep.CutBlock
namespace Go.Proofs.Ytiejnochddjlmaa
set_option linter.unusedSimpArgs false
open Go.ChangeShapes Go.WideShapes Go.ChangeAt Go.RowKit Go.Joins Go.Deep

namespace spreadAlike
set_option maxRecDepth 100000 in
set_option maxHeartbeats 4000000 in
theorem walk (n0 m0 : Int) (hn0 : 0 ≤ n0 ∧ n0 ≤ 255) (hm0 : 0 ≤ m0 ∧ m0 ≤ 255) (w : World) :
    Calls Try.prog 6 #[.int .u8 n0, .int .u8 m0] w (Yields w (.bool true)) := by
  go_enter Try.func6, Try.ntmps6
  go_upto_region 4 with (go_at_call 8; refine (known_any _).yields ?_; intro p0)
  refine wp_forget (fun u => Ext w u) ext_by ?_
  intro w1 hx1
  obtain ⟨k, hk⟩ : ∃ k : Nat, n0 % 6 + 1 = (k : Int) := ⟨(n0 % 6 + 1).toNat, by omega⟩
  obtain ⟨j, hj⟩ : ∃ j : Nat, m0 % 10 + 1 = (j : Int) := ⟨(m0 % 10 + 1).toNat, by omega⟩
  rw [hk, hj]
  have k1 : 1 ≤ k := by omega
  have k6 : k ≤ 6 := by omega
  have j1 : 1 ≤ j := by omega
  have j10 : j ≤ 10 := by omega
  clear hk hj
  have HGP := hid (rep_gap k1 k6 j1 j10)
  have HM := hid (rep_may k1 k6 (show 1 ≤ (j : Int) by omega) (show (j : Int) ≤ 10 by omega))
  have HC : Hid (∀ (v : Value) (u : World), Ints u v (List.replicate k (j : Int)) → Calls Try.prog 12 #[v] u fun e w' => ∃ r, e = .returned r ∧ Ext u w' ∧ Ints w' r (slotsL (List.replicate k (j : Int)))) := hid fun v u h => slots_all h _ (by rw [if_pos HM.out.may])
  have hsl : ((slotsL (List.replicate k (j : Int))).length : Int) = k * j := by rw [slotsL_length HM.out, tot_rep]
  have HSL := hid hsl
  have hkj : (k : Int) * j ≤ 60 := by
    calc (k : Int) * j ≤ 6 * j := Int.mul_le_mul_of_nonneg_right (by omega) (by omega)
      _ ≤ 60 := by omega
  have hkj0 : 0 ≤ (k : Int) * j := Int.mul_nonneg (by omega) (by omega)
  have HSA : Hid (∀ t (ht : t < (slotsL (List.replicate k (j : Int))).length), (slotsL (List.replicate k (j : Int)))[t] = ((t % k : Nat) : Int)) := hid fun t ht => rep_slots HM.out k1 (by omega) ht
  have HG : Hid (∀ (v : Value) (u : World), Ints u v (slotsL (List.replicate k (j : Int))) → Calls Try.prog 9 #[v, .int .i64 0] u (Yields u (.tuple #[.int .i64 (k : Int), .int .i64 (k : Int)]))) := hid fun v u h => gap_to h (by have := HSL.out; omega) HGP.out
  clear hsl
  generalize slotsL (List.replicate k (j : Int)) = Z at *
  go_wp2
  go_loopw [7, 8] (fun v7 v8 wr => Ext w wr ∧ ∃ i : Nat, v8 = .int .i64 i ∧ i ≤ k ∧ Hid (wr.ownsRow w.heap.size 3 1 v7 i ((List.replicate i (j : Int)).map iV))) (fun _ v8 _ => (k - intOf v8).toNat)
  case atStart => exact ⟨hx1, 0, rfl, by omega, hid (World.ownsRow_nil _ _ _ _)⟩
  case round =>
    obtain ⟨hx, i, rfl, hi, hA⟩ := hrel
    by_cases hlt : i < k
    · have hwr := hx.size
      have i1 : (i : Int) < k := by omega
      go_wp2_with (at_builtin; refine wpList_push_own rfl (.tmp 28) (.tmp 30) 22 3 (.int .i64 0) 1 8 rfl Try.underlying22 infoI rfl (by decide) (w := wr) (base := w.heap.size) hA.out (news := [.int .i64 (j : Int)]) rfl (ints_oneCell .i64 [(j : Int)]) (by unfold maxLen; omega) (by omega) hwr (by rfl) (nb := wr.heap.size) (by rfl) rfl ?_; intro p1 c1 w2 ho1 hb1; have hx2 : Ext w w2 := ⟨Below.trans hx.below hb1⟩; have HO := hid ho1; clear ho1 hb1)
      all_goals
        go_roundw
        case rel => exact ⟨hx2, i + 1, by go_num, by omega, hid (by rw [List.replicate_succ', ← iV_snoc]; exact HO.out)⟩
        case measure => simp [intOf]; omega
    · obtain rfl : i = k := by omega
      have HI := hid (owns_map _ _ hA.out).2
      clear hA
      go_upto_region 10 with (go_at_call 12; (with_reducible refine (HC.out _ _ HI.out).mono ?_); rintro e w2 ⟨u2, rfl, hx2, hI2⟩)
      obtain ⟨pc, cc, rfl, hcc, hmc⟩ := hI2.shape
      unfold maxLen at hmc
      have HI2 := hid hI2
      clear hI2
      have hxx : Ext w w2 := hx.trans hx2
      have hne : ((Z.length : Int) != (i : Int) * j) = false := by have := HSL.out; simp; omega
      go_wp2
      go_loopw [10] (fun v10 wr => Ext w2 wr ∧ ∃ t : Nat, v10 = .int .i64 t ∧ t ≤ Z.length) (fun v10 _ => (Z.length - intOf v10).toNat)
      case atStart => exact ⟨Ext.refl _, 0, rfl, by omega⟩
      case round =>
        obtain ⟨hx5, t, rfl, ht⟩ := hrel
        by_cases hlt2 : t < Z.length
        · obtain ⟨b1, o1, rfl, a1⟩ := HI2.out.at t hlt2
          rw [HSA.out t hlt2] at a1
          have m1 := more_cell (hx5.cell a1)
          simp only [Nat.mul_one] at m1
          have hem : (t : Int) % (i : Int) = ((t % i : Nat) : Int) := (Int.natCast_emod t i).symm
          have htm : Int.tmod (t : Int) (i : Int) = ((t % i : Nat) : Int) := by rw [Int.tmod_eq_emod_of_nonneg (by omega)]; exact hem
          have hz2 : ((i : Int) = 0) = False := eq_false (by omega)
          have hz : ((i : Int) == 0) = false := by rw [beq_eq_false_iff_ne]; omega
          have i1 : (t : Int) < Z.length := by omega
          have hmi : t % i ≤ t := Nat.mod_le t i
          clear a1
          generalize t % i = r at *
          have hrr : ((r : Int) != (r : Int)) = false := by simp
          go_wp2
          ((first | refine wp_region_more (by kernel_rfl) (by kernel_rfl) ?_ | refine wp_region_ext (by kernel_rfl) (by kernel_rfl) ?_); (try dsimp only [append_cons', append_nil']); (repeat (go_big_quiet_step ((fail)))); refine wpQuiet_nil ?_; rintro _ ⟨pq, rfl⟩)
          go_wp2
          all_goals
            go_roundw
            case rel => exact ⟨hx5.trans (ext_more _ _), t + 1, by go_num, by omega⟩
            case measure => simp [intOf]; omega
        · obtain rfl : t = Z.length := by omega
          have hkk : ((i : Int) == (i : Int)) = true := by simp
          have HI3 := hid (HI2.out.ext hx5)
          go_wp2_with (go_at_call 9; (with_reducible refine (HG.out _ _ HI3.out).yields ?_); intro p3)
          go_returns
          exact ⟨by simp, (hxx.trans hx5).more _⟩

set_option linter.unusedVariables false in
set_option maxRecDepth 100000 in
theorem lifted (os : Os) (started : os.Started) (H : Type) (enc : TypeId × Value → H) :
    ReturnsInHanded {} Try.checked os 6 .any (Rows.spreadAlikeSpec.pre6 enc Try.prog Try.f6 Rows.spreadAlikeRow.domain false) (Rows.spreadAlikeSpec.post enc Try.prog Try.f6 false true false false) := by
  refine returnsInHanded_of_change (C := Try.checked) Own.own started (by kernel_rfl) Try.func6
    (ChangeSpec.witness6 (enc := enc) (C := Try.checked) false ⟨#[], #[.int .u8 0, .int .u8 0], []⟩ 8 (by kernel_rfl) (by kernel_rfl) (by kernel_rfl) (by kernel_rfl)) ?_
  intro W base args ds gs before hval0 hW hcnd _
  have hval : ∀ (j : Nat) t v, Try.f6.params[j]? = some t → args[j]? = some v → Value.okWide Try.prog W .any base t v := hval0
  have hW' := hW
  obtain ⟨p, q, hA0, hV, rfl, hfz, hnd⟩ := hW
  have hA : DataW.TrodAll enc Try.prog W 0 (fun _ => true) true Try.f6.params.toList args.toList ds p := hA0
  rw [Try.params6] at hA hval
  obtain ⟨v0, vs0, d0, ds0, p0, q0, hargs, rfl, rfl, h0, r0⟩ := trodAll_cons hA
  obtain ⟨v1, vs1, d1, ds1, p1, q1, rfl, rfl, rfl, h1, r1⟩ := trodAll_cons r0
  obtain ⟨rfl, rfl, rfl⟩ := trodAll_nil r1
  obtain rfl : args = #[v0, v1] := by cases args; simp_all
  obtain ⟨rfl, rfl⟩ := trodVars_none hV
  have k0 := h0
  have lt0 : ∀ x ∈ p0, x.block < W.heap.size := by obtain ⟨m, hm⟩ := k0; exact DataW.trod_lt m _ _ _ hm
  have k1 := h1
  have lt1 : ∀ x ∈ p1, x.block < W.heap.size := by obtain ⟨m, hm⟩ := k1; exact DataW.trod_lt m _ _ _ hm
  obtain ⟨n0, rfl, rfl, rfl, wn0⟩ := open_int Try.underlying5 (hval 0 5 v0 rfl rfl) h0
  obtain ⟨m0, rfl, rfl, rfl, wm0⟩ := open_int Try.underlying5 (hval 1 5 v1 rfl rfl) h1
  clear hA0 hval0
  refine (walk n0 m0 (wf_bounds8 wn0) (wf_bounds8 wm0) W).mono fun e W' ⟨he, hx⟩ => ?_
  subst he
  exact ⟨_, rfl, _, _, _, [], _, [], hW', trodAll_mk1 (shut_bool Try.underlying4 _), (trodAll_cons_mk (Below.trod Own.laidOut (by kernel_rfl) (of_decide_eq_true (by kernel_rfl)) k0 hx.below lt0) (trodAll_cons_mk (Below.trod Own.laidOut (by kernel_rfl) (of_decide_eq_true (by kernel_rfl)) k1 hx.below lt1) trodAll_mk0)), rfl, hx.below.frame _, fun h => by cases h⟩

theorem proved : Rows.SpreadAlikeSaid :=
  OpenClaim.holds_of_wide 6 Try.f6 rfl rfl rfl rfl rfl rfl rfl ⟨rfl, rfl, rfl, rfl, rfl⟩ rfl rfl rfl rfl rfl (by kernel_rfl) Try.func6 (by kernel_rfl)
    (of_decide_eq_true (by kernel_rfl)) (by unfold Func.isWrapper; first | (rw [if_pos (by decide +kernel)]; kernel_rfl) | (rw [if_neg (by decide +kernel)]; exact ⟨rfl, rfl⟩))
    (fun os started H enc _ => lifted os started H enc)

end spreadAlike
end Go.Proofs.Ytiejnochddjlmaa
