/- PlanTime: ticks go on slot by slot, frame by frame, epoch by epoch: the law answers true for every configuration and tick. No conditions. -/
import Derived.Test.YtikecpgdacphjaaPlTq
import Derived.Test.YtikecpgdacphjaaRwL
import Derived.Deep.RegionHeld3
import Derived.ChangeMaps5
import Derived.ChangeSame
import Derived.ChangeVars
import Derived.JoinedOf
import Derived.RowKitTokens
namespace Go.Proofs.Ytikecpgdacphjaa
set_option linter.unusedSimpArgs false
open Go.ChangeShapes Go.WideShapes Go.ChangeAt Go.RowKit Go.Joins Go.Deep

namespace planTime
set_option maxRecDepth 100000 in
set_option maxHeartbeats 8000000 in
theorem walk (c : Cnf) (t : Int) (pv dv : Value) (w : World) (hc : ConfV w c pv dv) (t0 : 0 ≤ t) (t9 : t ≤ 65535) :
    Calls Try.prog 5 #[confV c pv dv, .int .u16 t] w (Yields w (.bool true)) := by
  have HC := hid hc
  clear hc
  cases hwa : wideB c
  case true =>
    have QA := hid hwa
    clear hwa
    go_enter Try.func5, Try.ntmps5
    go_wp2_with (first
      | (go_at_call 7; refine (known_any _).yields ?_; intro p0)
      | (go_at_call 8; (with_reducible refine (wide_to QA.out _ _ _ (HC.out.ext ext_by)).yields ?_); intro p1))
    go_returns
    exact ⟨rfl, ext_by⟩
  have QA := hid hwa
  have RA : Hid (∀ d ∈ c.doms, ∀ r ∈ d.routes, r.length ≤ 300) := hid (wide_routes hwa).2
  clear hwa
  cases hi : isConf c
  case succ m =>
    have HI := hid hi
    have hm1 : (((m + 1 : Nat) : Int) == 0) = false := by simp; omega
    have hm2 : (((m + 1 : Nat) : Int) != 0) = true := by simp; omega
    clear hi
    go_enter Try.func5, Try.ntmps5
    go_wp2_with (first
      | (go_at_call 7; refine (known_any _).yields ?_; intro p0)
      | (go_at_call 8; (with_reducible refine (wide_to QA.out _ _ _ (HC.out.ext ext_by)).yields ?_); intro p1)
      | (go_at_call 18; (with_reducible refine (isConf_to HI.out _ _ _ (HC.out.ext ext_by) RA.out).yields ?_); intro p2))
    go_returns
    exact ⟨rfl, ext_by⟩
  have HI := hid hi
  have hst := time_step hi t0
  obtain ⟨f1, f64, -⟩ := Good.of hi
  have g := (Good.of hi).ticks
  have s0 : 0 ≤ slotN c t ∧ slotN c t < c.frame := by
    unfold slotN; rw [if_pos hi]
    exact ⟨Int.emod_nonneg _ (by omega), Int.emod_lt_of_pos _ (by omega)⟩
  have x0 : 0 ≤ epochN c t ∧ epochN c t ≤ 65535 := by
    unfold epochN; rw [if_pos hi]
    have := Int.ediv_le_self (c.frame * c.epoch) (show 0 ≤ max t 0 by omega)
    exact ⟨Int.ediv_nonneg (by omega) (by omega), by omega⟩
  have W1 : Hid (wf64 t) := hid (by unfold wf64; omega)
  have W2 : Hid (wf64 (t + 1)) := hid (by unfold wf64; omega)
  obtain ⟨a, ha⟩ : ∃ a, slotN c t = a := ⟨_, rfl⟩
  obtain ⟨b, hb⟩ : ∃ b, slotN c (t + 1) = b := ⟨_, rfl⟩
  obtain ⟨x, hx⟩ : ∃ x, epochN c t = x := ⟨_, rfl⟩
  obtain ⟨y, hy⟩ : ∃ y, epochN c (t + 1) = y := ⟨_, rfl⟩
  obtain ⟨B, hB⟩ : ∃ B, beginsN c (t + 1) = B := ⟨_, rfl⟩
  rw [ha, hb, hx, hy, hB] at hst
  rw [ha] at s0
  rw [hx] at x0
  obtain ⟨s1, s2⟩ := s0
  obtain ⟨x1, x2⟩ := x0
  have E1 := hid ha
  have E2 := hid hb
  have E3 := hid hx
  have E4 := hid hy
  have E5 := hid hB
  clear hi ha hb hx hy hB g
  go_enter Try.func5, Try.ntmps5
  go_upto_region 6 with (first
      | (go_at_call 7; refine (known_any _).yields ?_; intro p0)
      | (go_at_call 8; (with_reducible refine (wide_to QA.out _ _ _ (HC.out.ext ext_by)).yields ?_); intro p1)
      | (go_at_call 18; (with_reducible refine (isConf_to HI.out _ _ _ (HC.out.ext ext_by) RA.out).yields ?_); intro p2))
  refine wp_forget (fun u => Ext w u ∧ u.cell? ⟨w.heap.size, 0, none⟩ = some (.int .i64 c.frame) ∧ u.cell? ⟨w.heap.size, 1, none⟩ = some (.int .i64 c.epoch) ∧ u.cell? ⟨w.heap.size, 2, none⟩ = some pv ∧ u.cell? ⟨w.heap.size, 3, none⟩ = some dv) ⟨ext_by, by simp [go_sem], by simp [go_sem], by simp [go_sem], by simp [go_sem]⟩ ?_
  rintro W3 ⟨X3, k0, k1, k2, k3⟩
  have VC3 := hid (HC.out.ext X3)
  have hb3 : w.heap.size < W3.heap.size := World.block_lt_of_cell? _ _ k0
  have m0 := more_cell k0
  have m1 := more_cell k1
  have m2 := more_cell k2
  have m3 := more_cell k3
  ((first | refine wp_region_more (by kernel_rfl) (by kernel_rfl) ?_ | refine wp_region_ext (by kernel_rfl) (by kernel_rfl) ?_); (try dsimp only [append_cons', append_nil']); (repeat (go_big_quiet_step ((first | (go_at_call 15; (with_reducible refine Calls.more_of (slot_to (VC3.out.ext (ext_more _ _)) W1.out E1.out))) | (go_at_call 15; (with_reducible refine Calls.more_of (slot_to (VC3.out.ext (ext_more _ _)) W2.out E2.out))))))); refine wpQuiet_nil ?_; rintro _ ⟨pq, rfl⟩)
  go_upto_region 7 with fail
  ((first | refine wp_region_more (by kernel_rfl) (by kernel_rfl) ?_ | refine wp_region_ext (by kernel_rfl) (by kernel_rfl) ?_); (try dsimp only [append_cons', append_nil']); (repeat (go_big_quiet_step ((first | (go_at_call 16; (with_reducible refine Calls.more_of (epoch_to (VC3.out.ext (ext_more _ _)) W1.out E3.out))) | (go_at_call 16; (with_reducible refine Calls.more_of (epoch_to (VC3.out.ext (ext_more _ _)) W2.out E4.out))))))); refine wpQuiet_nil ?_; rintro _ ⟨pq, rfl⟩)
  clear m0 m1 m2 m3 E1 E2 E3 E4
  rcases hst with ⟨hs1, hs2, hs3, hs4⟩ | ⟨hs1, hs2, hs3, hs4⟩ | ⟨hs1, hs2, hs3, hs4⟩
  · rw [hs1] at E5
    subst hs2 hs4
    have hfr : Hid (a = c.frame - 1) := hid hs3
    have n1 : ((0 : Int) == a + 1) = false := by simp; omega
    have n2 : (a == c.frame - 1) = true := by simpa using hs3
    have n3 : (x + 1 == x) = false := by simp; omega
    have n4 : x ≤ x + 1 := by omega
    clear hs1 hs3
    go_wp2_with (go_at_call 17; (with_reducible refine (begins_to (VC3.out.ext ext_by) W2.out E5.out).yields ?_); intro p7)
    go_returns
    exact ⟨by simp, ext_by⟩
  · rw [hs1] at E5
    subst hs2 hs4
    have n1 : ((0 : Int) == a + 1) = false := by simp; omega
    have n2 : (a == c.frame - 1) = true := by simpa using hs3
    have n3 : (y == y) = true := by simp
    have n4 : y ≤ y + 1 := by omega
    clear hs1 hs3
    go_wp2_with (go_at_call 17; (with_reducible refine (begins_to (VC3.out.ext ext_by) W2.out E5.out).yields ?_); intro p7)
    go_returns
    exact ⟨by simp, ext_by⟩
  · rw [hs1] at E5
    subst hs2 hs4
    have n1 : (a + 1 == a + 1) = true := by simp
    have n3 : (y == y) = true := by simp
    have n4 : y ≤ y + 1 := by omega
    clear hs1 hs3
    go_wp2_with (go_at_call 17; (with_reducible refine (begins_to (VC3.out.ext ext_by) W2.out E5.out).yields ?_); intro p7)
    go_returns
    exact ⟨by simp, ext_by⟩

set_option linter.unusedVariables false in
set_option maxRecDepth 100000 in
theorem lifted (os : Os) (started : os.Started) (H : Type) (enc : TypeId × Value → H) :
    ReturnsInHanded {} Try.checked os 5 .any (Rows.planTimeSpec.pre6 enc Try.prog Try.f5 Rows.planTimeRow.domain false) (Rows.planTimeSpec.post enc Try.prog Try.f5 false true false false) := by
  refine returnsInHanded_of_change (C := Try.checked) Own.own started (by kernel_rfl) Try.func5
    (ChangeSpec.witness6 (enc := enc) (C := Try.checked) false ⟨#[], #[.agg #[.int .i64 0, .int .i64 0, .slice none 0 0, .slice none 0 0], .int .u16 0], []⟩ 8 (by kernel_rfl) (by kernel_rfl) (by kernel_rfl) (by kernel_rfl)) ?_
  intro W base args ds gs before hval0 hW hcnd _
  have hval : ∀ (j : Nat) t v, Try.f5.params[j]? = some t → args[j]? = some v → Value.okWide Try.prog W .any base t v := hval0
  have hW' := hW
  obtain ⟨p, q, hA0, hV, rfl, hfz, hnd⟩ := hW
  have hA : DataW.TrodAll enc Try.prog W 0 (fun _ => true) true Try.f5.params.toList args.toList ds p := hA0
  rw [Try.params5] at hA hval
  obtain ⟨v0, vs0, d0, ds0, p0, q0, hargs, rfl, rfl, h0, r0⟩ := trodAll_cons hA
  obtain ⟨v1, vs1, d1, ds1, p1, q1, rfl, rfl, rfl, h1, r1⟩ := trodAll_cons r0
  obtain ⟨rfl, rfl, rfl⟩ := trodAll_nil r1
  obtain rfl : args = #[v0, v1] := by cases args; simp_all
  obtain ⟨rfl, rfl⟩ := trodVars_none hV
  have k0 := h0
  have lt0 : ∀ x ∈ p0, x.block < W.heap.size := by obtain ⟨m, hm⟩ := k0; exact DataW.trod_lt m _ _ _ hm
  have k1 := h1
  have lt1 : ∀ x ∈ p1, x.block < W.heap.size := by obtain ⟨m, hm⟩ := k1; exact DataW.trod_lt m _ _ _ hm
  obtain ⟨c, pv, dv, rfl, hc⟩ := Own.open_conf (hval 0 25 v0 rfl rfl) (by exact h0)
  obtain ⟨t, rfl, rfl, rfl, wt⟩ := open_int Try.underlying38 (hval 1 38 v1 rfl rfl) h1
  clear hA0 hval0
  refine (walk c t pv dv W hc (wf_bounds16 wt).1 (wf_bounds16 wt).2).mono fun e W' ⟨he, hx⟩ => ?_
  subst he
  exact ⟨_, rfl, _, _, _, [], _, [], hW', trodAll_mk1 (shut_bool Try.underlying4 _), (trodAll_cons_mk (Below.trod Own.laidOut (by kernel_rfl) (of_decide_eq_true (by kernel_rfl)) k0 hx.below lt0) (trodAll_cons_mk (Below.trod Own.laidOut (by kernel_rfl) (of_decide_eq_true (by kernel_rfl)) k1 hx.below lt1) trodAll_mk0)), rfl, hx.below.frame _, fun h => by cases h⟩

theorem proved : Rows.PlanTimeSaid :=
  OpenClaim.holds_of_wide 5 Try.f5 rfl rfl rfl rfl rfl rfl rfl ⟨rfl, rfl, rfl, rfl, rfl⟩ rfl rfl rfl rfl rfl (by kernel_rfl) Try.func5 (by kernel_rfl)
    (of_decide_eq_true (by kernel_rfl)) (by unfold Func.isWrapper; first | (rw [if_pos (by decide +kernel)]; kernel_rfl) | (rw [if_neg (by decide +kernel)]; exact ⟨rfl, rfl⟩))
    (fun os started H enc _ => lifted os started H enc)

end planTime
end Go.Proofs.Ytikecpgdacphjaa
