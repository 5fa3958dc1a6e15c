/- TreeSleeps: of every two weights, however long one slept, however often they run then: who slept has nothing owed to him: the law answers true. No conditions. -/
import Derived.Test.YtfccmdmfllicdaaTwo
import Derived.Test.YtfccmdmfllicdaaOwn2
namespace Go.Proofs.Ytfccmdmfllicdaa
open Go.ChangeShapes Go.WideShapes Go.ChangeAt Go.RowKit Go.Joins Go.Deep
set_option linter.unusedSimpArgs false

namespace treeSleeps
open two
set_option maxRecDepth 100000 in
set_option linter.unusedVariables false in
set_option maxHeartbeats 8000000 in
theorem walk (a b sl n : Int) (ha : 0 ≤ a ∧ a ≤ 255) (hb : 0 ≤ b ∧ b ≤ 255) (hs : 0 ≤ sl ∧ sl ≤ 65535) (hn : 0 ≤ n ∧ n ≤ 255) (w : World) :
    Calls Try.prog 8 #[.int .u8 a, .int .u8 b, .int .u16 sl, .int .u8 n] w (Yields w (.bool true)) := by
  have hnn := fun w => run_neq_nil_nil' (P := Try.prog) w Try.underlying29
  have hm1 : 0 ≤ a % 16 := by omega
  have hm2 : a % 16 < 16 := by omega
  have hm3 : 0 ≤ b % 16 := by omega
  have hm4 : b % 16 < 16 := by omega
  have hm5 : 0 ≤ sl % 2000 := by omega
  have hm6 : sl % 2000 < 2000 := by omega
  obtain ⟨hn1, hn2⟩ := hn
  obtain ⟨ha1, ha2⟩ := ha
  obtain ⟨hb1, hb2⟩ := hb
  obtain ⟨hs1, hs2⟩ := hs
  have HX : Hid (isW (a % 16 + 1) = true) := isW_iff.2 ⟨by omega, by omega⟩
  have HY : Hid (isW (b % 16 + 1) = true) := isW_iff.2 ⟨by omega, by omega⟩
  go_enter Try.func8, Try.ntmps8
  go_wp2_with fail
  refine (known_any _).yields ?_
  intro p0
  have hE0 := hid (ext_more w p0)
  generalize more w p0 = w0 at *
  go_wp2_with fail
  (with_reducible refine (ts_new w0).mono ?_)
  rintro e w1 ⟨x, rfl, s1⟩
  have S1 := hid s1
  clear s1
  go_wp2_with fail
  (with_reducible refine (add1 S1.out HX.out).mono ?_)
  rintro e w2 ⟨rfl, s2⟩
  have S2 := hid s2
  clear s2 S1
  go_wp2_with fail
  (with_reducible refine (add2 S2.out HX.out HY.out).mono ?_)
  rintro e w3 ⟨rfl, s3⟩
  have S3 := hid s3
  clear s3 S2
  go_wp2_with fail
  (with_reducible refine (rdy1 S3.out HX.out HY.out).mono ?_)
  rintro e w4 ⟨rfl, s4⟩
  have S4 := hid s4
  clear s4 S3
  go_wp2_with fail
  go_loopw [12] (fun v12 wr => ∃ i : Int, v12 = .int .i64 i ∧ 0 ≤ i ∧ i ≤ sl % 2000 ∧ Hid (InvF w0 x (a % 16 + 1) (b % 16 + 1) wr)) (fun v12 _ => (2000 - intOf v12).toNat)
  case atStart => exact ⟨0, rfl, by omega, by omega, S4⟩
  case round =>
    obtain ⟨i, rfl, h0, h1, hinv⟩ := hrel
    clear S4
    by_cases hlt : i < sl % 2000
    · go_wp2_with fail
      (with_reducible refine (run1 hinv.out).mono ?_)
      rintro e w5 ⟨rfl, s5⟩
      have S5 := hid s5
      clear s5 hinv
      go_wp2
      go_roundw
      case rel => exact ⟨i + 1, by go_num, by omega, by omega, S5⟩
      case measure => simp [intOf]; omega
    · go_wp2_with fail
      (with_reducible refine (rdy2 hinv.out).mono ?_)
      rintro e w5 ⟨rfl, s5⟩
      have S5 := hid s5
      clear s5 hinv
      go_wp2_with fail
      have hS : Try.prog.follows .mixedOrders = true := rfl
      have S6 : Hid (InvH w0 x w5.heap.size (a % 16 + 1) (b % 16 + 1) 0 0 0 0 (w5.alloc (.cells #[.int .i64 0, .int .i64 0, .int .i64 0] 48 (0, 0)))) := S5.out.had
      clear S5
      generalize w5.heap.size = B at *
      generalize w5.alloc (.cells #[.int .i64 0, .int .i64 0, .int .i64 0] 48 (0, 0)) = w6 at *
      go_wp2_with fail
      go_loopw [16] (fun v16 wr => ∃ i h k : Int, v16 = .int .i64 i ∧ 0 ≤ i ∧ i ≤ n ∧ 0 ≤ h ∧ h ≤ i ∧ 0 ≤ k ∧ k ≤ i ∧ Hid (InvH w0 x B (a % 16 + 1) (b % 16 + 1) h k h k wr)) (fun v16 _ => (2000 - intOf v16).toNat)
      case atStart => exact ⟨0, 0, 0, rfl, by omega, by omega, by omega, by omega, by omega, by omega, S6⟩
      case round =>
        obtain ⟨i, h, k, rfl, g0, g1, g2, g3, g4, g5, hinv⟩ := hrel
        clear S6
        by_cases hlt2 : i < n
        · go_wp2_with fail
          (with_reducible refine (run2 hinv.out).mono ?_)
          rintro e w7 ⟨id, rfl, ⟨rfl, s7⟩ | ⟨rfl, s7⟩⟩
          · obtain ⟨c1, c2, f1, f2, hB⟩ := s7.cells
            have HN := hid (s7.set1 (h + 1))
            have HF := hid (s7.fair (by omega) (by omega))
            clear s7 hinv
            go_wp2_with fail
            generalize w7.setCell ⟨B, 1, none⟩ (.int .i64 (h + 1)) = w8 at *
            clear c1 c2 f1 f2 hB
            refine (fair_to HF.out _).yields ?_
            intro p1
            go_wp2
            go_roundw
            case rel => exact ⟨i + 1, h + 1, k, by go_num, by omega, by omega, by omega, by omega, by omega, by omega, HN.out.ext (ext_more _ _)⟩
            case measure => simp [intOf]; omega
          · obtain ⟨c1, c2, f1, f2, hB⟩ := s7.cells
            have HN := hid (s7.set2 (k + 1))
            have HF := hid (s7.fair (by omega) (by omega))
            clear s7 hinv
            go_wp2_with fail
            generalize w7.setCell ⟨B, 2, none⟩ (.int .i64 (k + 1)) = w8 at *
            clear c1 c2 f1 f2 hB
            refine (fair_to HF.out _).yields ?_
            intro p1
            go_wp2
            go_roundw
            case rel => exact ⟨i + 1, h, k + 1, by go_num, by omega, by omega, by omega, by omega, by omega, by omega, HN.out.ext (ext_more _ _)⟩
            case measure => simp [intOf]; omega
        · have hx := hid hinv.out.xt
          go_wp2
          go_returns
          exact ⟨rfl, hE0.out.trans hx.out⟩

set_option linter.unusedVariables false in
set_option maxRecDepth 100000 in
theorem lifted (os : Os) (started : os.Started) (H : Type) (enc : TypeId × Value → H) :
    ReturnsInHanded {} Try.checked os 8 .any (Rows.treeSleepsSpec.pre6 enc Try.prog Try.f8 Rows.treeSleepsRow.domain false) (Rows.treeSleepsSpec.post enc Try.prog Try.f8 false true false false) := by
  refine returnsInHanded_of_change (C := Try.checked) Own.own started (by kernel_rfl) Try.func8
    (ChangeSpec.witness6 (enc := enc) (C := Try.checked) false ⟨#[], #[.int .u8 0, .int .u8 0, .int .u16 0, .int .u8 0], []⟩ 8 (by kernel_rfl) (by kernel_rfl) (by kernel_rfl) (by kernel_rfl)) ?_
  intro W base args ds gs before hval0 hW hcnd _
  have hval : ∀ (j : Nat) t v, Try.f8.params[j]? = some t → args[j]? = some v → Value.okWide Try.prog W .any base t v := hval0
  have hW' := hW
  obtain ⟨p, q, hA0, hV, rfl, hfz, hnd⟩ := hW
  have hA : DataW.TrodAll enc Try.prog W 0 (fun _ => true) true Try.f8.params.toList args.toList ds p := hA0
  rw [Try.params8] at hA hval
  obtain ⟨v0, vs0, d0, ds0, p0, q0, hargs, rfl, rfl, h0, r0⟩ := trodAll_cons hA
  obtain ⟨v1, vs1, d1, ds1, p1, q1, rfl, rfl, rfl, h1, r1⟩ := trodAll_cons r0
  obtain ⟨v2, vs2, d2, ds2, p2, q2, rfl, rfl, rfl, h2, r2⟩ := trodAll_cons r1
  obtain ⟨v3, vs3, d3, ds3, p3, q3, rfl, rfl, rfl, h3, r3⟩ := trodAll_cons r2
  obtain ⟨rfl, rfl, rfl⟩ := trodAll_nil r3
  obtain rfl : args = #[v0, v1, v2, v3] := by cases args; simp_all
  obtain ⟨rfl, rfl⟩ := trodVars_none hV
  have k0 := h0
  have lt0 : ∀ x ∈ p0, x.block < W.heap.size := by obtain ⟨m, hm⟩ := k0; exact DataW.trod_lt m _ _ _ hm
  have k1 := h1
  have lt1 : ∀ x ∈ p1, x.block < W.heap.size := by obtain ⟨m, hm⟩ := k1; exact DataW.trod_lt m _ _ _ hm
  have k2 := h2
  have lt2 : ∀ x ∈ p2, x.block < W.heap.size := by obtain ⟨m, hm⟩ := k2; exact DataW.trod_lt m _ _ _ hm
  have k3 := h3
  have lt3 : ∀ x ∈ p3, x.block < W.heap.size := by obtain ⟨m, hm⟩ := k3; exact DataW.trod_lt m _ _ _ hm
  obtain ⟨a, rfl, rfl, rfl, wa⟩ := open_int Try.underlying5 (hval 0 5 v0 rfl rfl) h0
  obtain ⟨b, rfl, rfl, rfl, wb⟩ := open_int Try.underlying5 (hval 1 5 v1 rfl rfl) h1
  obtain ⟨c, rfl, rfl, rfl, wc⟩ := open_int Try.underlying23 (hval 2 23 v2 rfl rfl) h2
  obtain ⟨n, rfl, rfl, rfl, wn⟩ := open_int Try.underlying5 (hval 3 5 v3 rfl rfl) h3
  have ba := bounds_u8 wa
  have bb := bounds_u8 wb
  have bc := bounds_u16 wc
  have bn := bounds_u8 wn
  clear hA0 hval0
  refine (walk a b c n (by omega) (by omega) (by omega) (by omega) W).mono fun e W' ⟨he, hx⟩ => ?_
  subst he
  exact ⟨_, rfl, _, _, _, [], _, [], hW', trodAll_mk1 (shut_bool Try.underlying4 _), (trodAll_cons_mk (Below.trod Own.laidOut (by kernel_rfl) (of_decide_eq_true (by kernel_rfl)) k0 hx.below lt0) (trodAll_cons_mk (Below.trod Own.laidOut (by kernel_rfl) (of_decide_eq_true (by kernel_rfl)) k1 hx.below lt1) (trodAll_cons_mk (Below.trod Own.laidOut (by kernel_rfl) (of_decide_eq_true (by kernel_rfl)) k2 hx.below lt2) (trodAll_cons_mk (Below.trod Own.laidOut (by kernel_rfl) (of_decide_eq_true (by kernel_rfl)) k3 hx.below lt3) trodAll_mk0)))), rfl, hx.below.frame _, fun h => by cases h⟩

theorem proved : Rows.TreeSleepsSaid :=
  OpenClaim.holds_of_wide 8 Try.f8 rfl rfl rfl rfl rfl rfl rfl ⟨rfl, rfl, rfl, rfl, rfl⟩ rfl rfl rfl rfl rfl (by kernel_rfl) Try.func8 (by kernel_rfl)
    (of_decide_eq_true (by kernel_rfl)) (by unfold Func.isWrapper; first | (rw [if_pos (by decide +kernel)]; kernel_rfl) | (rw [if_neg (by decide +kernel)]; exact ⟨rfl, rfl⟩))
    (fun os started H enc _ => lifted os started H enc)

end treeSleeps
end Go.Proofs.Ytfccmdmfllicdaa
