/- ObjectDrops: whoever of those who wait for an object leaves, he isn't woken; the others are, in their order: the law answers true. No conditions. -/
import Derived.Test.YtoimkocjfijlkaaObK
import Derived.Test.YtoimkocjfijlkaaOwn2
import Derived.WalkSpells
import Derived.WalkLawsBesides
import Derived.Deep.LoopGhost
namespace Go.Proofs.Ytoimkocjfijlkaa
open Go.ChangeShapes Go.WideShapes Go.ChangeAt Go.RowKit Go.Joins Go.Deep
set_option linter.unusedSimpArgs false

namespace objectDrops
open Ob
def up (k : Nat) : List Int := (List.range k).map fun t : Nat => (t : Int) + 5
/-- Those from i on, below k, but j. -/
def rest (k j i : Nat) : List Int := ((List.range' i (k - i)).filter (· != j)).map fun t : Nat => (t : Int) + 5
theorem up_succ (k : Nat) : up (k + 1) = up k ++ [(k : Int) + 5] := by simp [up, List.range_succ]
theorem up_len (k : Nat) : (up k).length = k := by simp [up]
theorem up_no (k : Nat) : ¬ ((k : Int) + 5) ∈ up k := by
  intro h
  obtain ⟨t, h1, h2⟩ := List.mem_map.1 h
  have := List.mem_range.1 h1
  omega
theorem up_drop (k j : Nat) : (up k).filter (· != (j : Int) + 5) = rest k j 0 := by
  unfold up rest
  rw [List.filter_map, Nat.sub_zero, ← List.range_eq_range']
  congr 1
  refine List.filter_congr fun t _ => ?_
  show ((t : Int) + 5 != (j : Int) + 5) = (t != j)
  by_cases h : t = j
  · simp [h]
  · rw [show (t != j) = true by simpa using h, bne_iff_ne]
    omega
theorem rest_same {k j : Nat} (h : j < k) : rest k j j = rest k j (j + 1) := by
  unfold rest
  rw [show k - j = (k - (j + 1)) + 1 by omega, List.range'_succ, List.filter_cons, if_neg (by simp)]
theorem rest_next {k j i : Nat} (h : i < k) (hij : i ≠ j) : rest k j i = ((i : Int) + 5) :: rest k j (i + 1) := by
  unfold rest
  rw [show k - i = (k - (i + 1)) + 1 by omega, List.range'_succ, List.filter_cons, if_pos (by simpa using hij)]
  rfl
theorem rest_end (k j : Nat) : rest k j k = [] := by simp [rest]
theorem rest_len {k j : Nat} (h : j < k) : (rest k j 0).length = k - 1 := by
  have key : ∀ n a, ((List.range' a n).filter (· != j)).length + (if a ≤ j ∧ j < a + n then 1 else 0) = n := by
    intro n
    induction n with
    | zero => intro a; rw [if_neg (by omega)]; rfl
    | succ n ih =>
      intro a
      have := ih (a + 1)
      rw [List.range'_succ, List.filter_cons]
      by_cases e : a = j
      · subst e
        rw [if_neg (by simp), if_pos ⟨by omega, by omega⟩]
        rw [if_neg (by omega)] at this
        omega
      · rw [if_pos (by simpa using e), List.length_cons]
        by_cases q : a ≤ j ∧ j < a + (n + 1)
        · rw [if_pos q]
          rw [if_pos ⟨by omega, by omega⟩] at this
          omega
        · rw [if_neg q]
          rw [if_neg (by omega)] at this
          omega
  have := key k 0
  rw [if_pos ⟨by omega, by omega⟩] at this
  unfold rest
  rw [List.length_map, Nat.sub_zero]
  omega
def Inv (w0 : World) (x : Nat) (l : List Int) (wr : World) : Prop := ∃ A, St w0 x (tab 0 0 0 0) (tab [] l [] []) A wr
theorem tab_told {w0 w : World} {x : Nat} {c : Nat → Int} {W : Nat → List Int} {A : Nat → Prop} {l : List Int} (h : St w0 x c W A w) (h0 : W 0 = []) (h1 : W 1 = l) (h2 : W 2 = []) (h3 : W 3 = []) : St w0 x c (tab [] l [] []) A w :=
  h.told fun j hj => by rcases four hj with rfl | rfl | rfl | rfl <;> assumption
theorem flat_tab (l : List Int) : flat (tab [] l [] []) = l := by simp [flat, tab]
section
variable {w0 w : World} {x : Nat}
theorem inv_wait {i : Nat} (h : Inv w0 x (up i) w) (hi : i ≤ 100) :
    Calls Try.prog 8 #[ptrV x, .int .i64 ((i : Int) + 5), .int .i64 1] w fun v w' => v = .returned (.tuple #[.bool false, .nilIface]) ∧ Inv w0 x (up (i + 1)) w' := by
  obtain ⟨A, s⟩ := h
  have e : waitR ((i : Int) + 5) 1 (tab 0 0 0 0) (tab [] (up i) [] []) = ⟨false, 0, tab 0 0 0 0, upd (tab [] (up i) [] []) 1 (up i ++ [(i : Int) + 5])⟩ := by
    unfold waitR
    rw [if_neg (by omega), if_neg (by unfold waits; rw [flat_tab, List.contains_iff_mem]; exact up_no i)]
    rfl
  refine (st_wait_to s _ _ (by unfold wf64; omega) (by rw [flat_tab, up_len]; omega) e).mono fun v w' ⟨a, B, s', _⟩ => ⟨a, B, tab_told s' rfl ?_ rfl rfl⟩
  rw [upd_same, up_succ]
theorem inv_drop {k j : Nat} (h : Inv w0 x (up k) w) (hj : j < k) (hk : k ≤ 100) :
    Calls Try.prog 12 #[ptrV x, .int .i64 ((j : Int) + 5)] w fun v w' => v = .returned (.bool true) ∧ Inv w0 x (rest k j 0) w' := by
  obtain ⟨A, s⟩ := h
  have e : waits ((j : Int) + 5) (tab [] (up k) [] []) = true := by
    unfold waits
    rw [flat_tab, List.contains_iff_mem]
    exact List.mem_map.2 ⟨j, List.mem_range.2 hj, rfl⟩
  exact (st_drop_to s _ (by unfold wf64; omega) e).mono fun v w' ⟨a, B, s', _⟩ => ⟨a, B, tab_told s' rfl (up_drop k j) rfl rfl⟩
theorem inv_row {l : List Int} (h : Inv w0 x l w) (hl : l.length ≤ 100) {m : Nat} (hm : l.length = m) :
    Calls Try.prog 11 #[ptrV x, .int .i64 1] w fun v w' => ∃ p cap, v = .returned (.slice p m cap) ∧ Inv w0 x l w' := by
  subst hm
  obtain ⟨A, s⟩ := h
  refine (st_row_to s (i := 1) (by decide) (o := 1) rfl (l := l) rfl (by omega)).mono fun v w' ⟨vd, a, b, o⟩ => ?_
  obtain ⟨p, cap, rfl, -, -⟩ := (ints_of_owns o).shape
  exact ⟨p, cap, a, A, s.ext b⟩
theorem inv_signal {k j i : Nat} (h : Inv w0 x (rest k j i) w) (hi : i < k) (hij : i ≠ j) :
    Calls Try.prog 9 #[ptrV x, .int .i64 1] w fun v w' => v = .returned (.tuple #[.int .i64 ((i : Int) + 5), .bool true, .nilIface]) ∧ Inv w0 x (rest k j (i + 1)) w' := by
  obtain ⟨A, s⟩ := h
  rw [rest_next hi hij] at s
  exact (st_signal_to s 1 (id := (i : Int) + 5) (met := true) (err := 0) rfl).mono fun v w' ⟨a, B, s', _⟩ => ⟨a, B, tab_told s' rfl (upd_same _ _ _) rfl rfl⟩
theorem inv_last (h : Inv w0 x [] w) :
    Calls Try.prog 9 #[ptrV x, .int .i64 1] w fun v w' => v = .returned (.tuple #[.int .i64 0, .bool false, .nilIface]) ∧ ∃ B, St w0 x (tab 0 1 0 0) (tab [] [] [] []) B w' := by
  obtain ⟨A, s⟩ := h
  exact (st_signal_to s 1 (id := 0) (met := false) (err := 0) rfl).mono fun v w' ⟨a, B, s', _⟩ => ⟨a, B, s'.counts fun j hj => by rcases four hj with rfl | rfl | rfl | rfl <;> rfl⟩
end

set_option maxRecDepth 100000 in
set_option maxHeartbeats 8000000 in
theorem walk (n at' : Int) (hn : 0 ≤ n) (hn' : n ≤ 255) (ha : 0 ≤ at') (ha' : at' ≤ 255) (w : World) :
    Calls Try.prog 5 #[.int .u8 n, .int .u8 at'] w (Yields w (.bool true)) := by
  go_enter Try.func5, Try.ntmps5
  go_wp2_with fail
  refine (known_any _).yields ?_
  intro p0
  have hE0 := hid (ext_more w p0)
  generalize more w p0 = w0 at *
  go_wp2_with fail
  obtain ⟨k, hk⟩ : ∃ k : Nat, n % 10 + 1 = k := ⟨(n % 10 + 1).toNat, by omega⟩
  obtain ⟨j, hj⟩ : ∃ j : Nat, at' % (k : Int) = j := ⟨(at' % (k : Int)).toNat, by have := Int.emod_nonneg at' (show (k : Int) ≠ 0 by omega); omega⟩
  have hjk : j < k := by have := Int.emod_lt_of_pos at' (show 0 < (k : Int) by omega); omega
  have hk10 : k ≤ 10 := by omega
  rw [hk, hj]
  clear hk hj hn hn' ha ha'
  (with_reducible refine (st_new (Ext.refl w0)).mono ?_)
  rintro e w1 ⟨rfl, A1, s1, -, -⟩
  have S1 : Hid (Inv w0 w0.heap.size (up 0) w1) := ⟨A1, (tab_told s1 rfl rfl rfl rfl).counts fun j hj => by rcases four hj with rfl | rfl | rfl | rfl <;> rfl⟩
  clear s1
  generalize w0.heap.size = X at *
  go_wp2_with fail
  go_loopw [8] (fun s wr => ∃ i : Nat, s = .int .i64 i ∧ i ≤ k ∧ Hid (Inv w0 X (up i) wr)) (fun s _ => (k - intOf s).toNat)
  case atStart => exact ⟨0, rfl, by omega, S1⟩
  case round =>
    obtain ⟨i, rfl, hi, hinv⟩ := hrel
    clear S1
    by_cases hlt : i < k
    · have i1 : (i : Int) < (k : Int) := by omega
      have CW := hid (inv_wait hinv.out (by omega))
      clear hinv
      go_wp2_with (go_at_call 8; (with_reducible refine CW.out.mono ?_); rintro e w2 ⟨rfl, s2⟩; have S2 := hid s2; clear s2)
      go_roundw
      case rel => exact ⟨i + 1, by go_num, by omega, S2⟩
      case measure => simp [intOf]; omega
    · obtain rfl : i = k := by omega
      have CD := hid (inv_drop hinv.out hjk (by omega))
      clear hinv
      go_wp2_with fail
      (with_reducible refine CD.out.mono ?_)
      rintro e w2 ⟨rfl, s2⟩
      have hlen : (rest i j 0).length = i - 1 := rest_len hjk
      obtain ⟨m, hm⟩ : ∃ m, m = i - 1 := ⟨_, rfl⟩
      rw [← hm] at hlen
      have CR := hid (inv_row s2 (by omega) hlen)
      have e1 : IntKind.i64.wrap ((i : Int) - 1) = (m : Int) := by rw [show (i : Int) - 1 = (m : Int) by omega]; exact IntWalk.i64_in _ (by omega)
      clear CD s2 hlen
      go_wp2_with (go_at_call 11; (with_reducible refine CR.out.mono ?_); rintro e w3 ⟨p3, c3, rfl, s3⟩; have S3 := hid s3; clear s3)
      clear CR e1 hm
      go_loopw [11] (fun s wr => ∃ t : Nat, s = .int .i64 t ∧ t ≤ i ∧ Hid (Inv w0 X (rest i j t) wr)) (fun s _ => (i - intOf s).toNat)
      case atStart => exact ⟨0, rfl, by omega, S3⟩
      case round =>
        obtain ⟨t, rfl, ht, hinv⟩ := hrel
        clear S3
        by_cases hlt : t < i
        · have i1 : (t : Int) < (i : Int) := by omega
          by_cases htj : t = j
          · have hinv' := hinv.out
            rw [show rest i j t = rest i j (t + 1) by rw [htj]; exact rest_same hjk] at hinv'
            have i2 : ((t : Int) == (j : Int)) = true := by rw [beq_iff_eq]; omega
            have S4 := hid hinv'
            clear hinv hinv' htj
            go_wp2
            go_roundw
            case rel => exact ⟨t + 1, by go_num, by omega, S4⟩
            case measure => simp [intOf]; omega
          · have i2 : ((t : Int) == (j : Int)) = false := by rw [beq_eq_false_iff_ne]; omega
            have CS := hid (inv_signal hinv.out hlt htj)
            clear hinv htj
            go_wp2_with (go_at_call 9; (with_reducible refine CS.out.mono ?_); rintro e w4 ⟨rfl, s4⟩; have S4 := hid s4; clear s4)
            go_roundw
            case rel => exact ⟨t + 1, by go_num, by omega, S4⟩
            case measure => simp [intOf]; omega
        · obtain rfl : t = i := by omega
          have hinv' := hinv.out
          rw [rest_end] at hinv'
          have CS := hid (inv_last hinv')
          clear hinv hinv'
          go_wp2_with fail
          (with_reducible refine CS.out.mono ?_)
          rintro e w4 ⟨rfl, B4, s4⟩
          have S4 := hid s4
          clear s4 CS
          go_wp2_with (go_at_call 10; (with_reducible refine (st_count_to S4.out (i := 1) (by decide) (o := 1) rfl (k := 1) rfl).mono ?_); rintro e w5 ⟨rfl, hw⟩; rw [hw]; clear hw; clear w5)
          go_returns
          exact ⟨rfl, hE0.out.trans S4.out.xt⟩
set_option linter.unusedVariables false in
set_option maxRecDepth 100000 in
theorem lifted (os : Os) (started : os.Started) (H : Type) (enc : TypeId × Value → H) :
    ReturnsInHanded {} Try.checked os 5 .any (Rows.objectDropsSpec.pre6 enc Try.prog Try.f5 Rows.objectDropsRow.domain false) (Rows.objectDropsSpec.post enc Try.prog Try.f5 false true false false) := by
  refine returnsInHanded_of_change (C := Try.checked) Own.own started (by kernel_rfl) Try.func5
    (ChangeSpec.witness6 (enc := enc) (C := Try.checked) false ⟨#[], #[.int .u8 0, .int .u8 0], []⟩ 8 (by kernel_rfl) (by kernel_rfl) (by kernel_rfl) (by kernel_rfl)) ?_
  intro W base args ds gs before hval0 hW hcnd _
  have hval : ∀ (j : Nat) t v, Try.f5.params[j]? = some t → args[j]? = some v → Value.okWide Try.prog W .any base t v := hval0
  have hW' := hW
  obtain ⟨p, q, hA0, hV, rfl, hfz, hnd⟩ := hW
  have hA : DataW.TrodAll enc Try.prog W 0 (fun _ => true) true Try.f5.params.toList args.toList ds p := hA0
  rw [Try.params5] at hA hval
  obtain ⟨v0, vs0, d0, ds0, p0, q0, hargs, rfl, rfl, h0, r0⟩ := trodAll_cons hA
  obtain ⟨v1, vs1, d1, ds1, p1, q1, rfl, rfl, rfl, h1, r1⟩ := trodAll_cons r0
  obtain ⟨rfl, rfl, rfl⟩ := trodAll_nil r1
  obtain rfl : args = #[v0, v1] := by cases args; simp_all
  obtain ⟨rfl, rfl⟩ := trodVars_none hV
  have k0 := h0
  have lt0 : ∀ x ∈ p0, x.block < W.heap.size := by obtain ⟨m, hm⟩ := k0; exact DataW.trod_lt m _ _ _ hm
  have k1 := h1
  have lt1 : ∀ x ∈ p1, x.block < W.heap.size := by obtain ⟨m, hm⟩ := k1; exact DataW.trod_lt m _ _ _ hm
  obtain ⟨n, rfl, rfl, rfl, wn⟩ := open_int Try.underlying5 (hval 0 5 v0 rfl rfl) h0
  obtain ⟨a, rfl, rfl, rfl, wa⟩ := open_int Try.underlying5 (hval 1 5 v1 rfl rfl) h1
  have bn := bounds_u8 wn
  have ba := bounds_u8 wa
  clear hA0 hval0
  refine (walk n a (by omega) (by omega) (by omega) (by omega) W).mono fun e W' ⟨he, hx⟩ => ?_
  subst he
  exact ⟨_, rfl, _, _, _, [], _, [], hW', trodAll_mk1 (shut_bool Try.underlying4 _), (trodAll_cons_mk (Below.trod Own.laidOut (by kernel_rfl) (of_decide_eq_true (by kernel_rfl)) k0 hx.below lt0) (trodAll_cons_mk (Below.trod Own.laidOut (by kernel_rfl) (of_decide_eq_true (by kernel_rfl)) k1 hx.below lt1) trodAll_mk0)), rfl, hx.below.frame _, fun h => by cases h⟩

theorem proved : Rows.ObjectDropsSaid :=
  OpenClaim.holds_of_wide 5 Try.f5 rfl rfl rfl rfl rfl rfl rfl ⟨rfl, rfl, rfl, rfl, rfl⟩ rfl rfl rfl rfl rfl (by kernel_rfl) Try.func5 (by kernel_rfl)
    (of_decide_eq_true (by kernel_rfl)) (by unfold Func.isWrapper; first | (rw [if_pos (by decide +kernel)]; kernel_rfl) | (rw [if_neg (by decide +kernel)]; exact ⟨rfl, rfl⟩))
    (fun os started H enc _ => lifted os started H enc)

end objectDrops
end Go.Proofs.Ytoimkocjfijlkaa
