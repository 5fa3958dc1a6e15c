/- ObjectOrder: who waits first is woken first; a signal that nobody waits for lets one more go on, as many as may be counted: the law answers true. No conditions. -/
import Derived.Test.YtoimkocjfijlkaaObK
import Derived.Test.YtoimkocjfijlkaaOwn2
import Derived.WalkSpells
import Derived.WalkLawsBesides
import Derived.Deep.LoopGhost
namespace Go.Proofs.Ytoimkocjfijlkaa
open Go.ChangeShapes Go.WideShapes Go.ChangeAt Go.RowKit Go.Joins Go.Deep
set_option linter.unusedSimpArgs false

namespace objectOrder
open Ob
/-- Those from i on, below k. -/
def fr (i k : Nat) : List Int := (List.range' i (k - i)).map fun t : Nat => (t : Int)
theorem fr_next {i k : Nat} (h : i < k) : fr i k = (i : Int) :: fr (i + 1) k := by
  unfold fr
  rw [show k - i = (k - (i + 1)) + 1 by omega, List.range'_succ]
  rfl
theorem fr_none {i k : Nat} (h : k ≤ i) : fr i k = [] := by
  unfold fr
  rw [show k - i = 0 by omega]
  rfl
theorem fr_snoc (k : Nat) : fr 0 (k + 1) = fr 0 k ++ [(k : Int)] := by simp [fr, ← List.range_eq_range', List.range_succ]
theorem fr_len (i k : Nat) : (fr i k).length = k - i := by simp [fr]
theorem fr_no {i k : Nat} {z : Int} (h : (k : Int) ≤ z) : ¬ z ∈ fr i k := by
  intro q
  obtain ⟨t, h1, h2⟩ := List.mem_map.1 q
  obtain ⟨u, h3, h4⟩ := List.mem_range'.1 h1
  omega
def one (o : Nat) (l : List Int) : Nat → List Int := upd (fun _ => []) o l
def cnt (o : Nat) (z : Int) : Nat → Int := upd (fun _ => 0) o z
theorem mem_one {o : Nat} {l : List Int} {z : Int} (h : ¬ z ∈ l) : waits z (one o l) = false := by
  cases q : waits z (one o l) with
  | false => rfl
  | true =>
    unfold waits at q
    rw [List.contains_iff_mem, mem_flat] at q
    obtain ⟨i, _, hi⟩ := q
    unfold one upd at hi
    split at hi
    · exact absurd hi h
    · cases hi
theorem one_len (o : Nat) (l : List Int) : (flat (one o l)).length ≤ 4 * l.length := by
  have : ∀ i, (one o l i).length ≤ l.length := fun i => by
    unfold one upd
    split
    · exact Nat.le_refl _
    · simp
  have h0 := this 0
  have h1 := this 1
  have h2 := this 2
  have h3 := this 3
  unfold flat
  simp only [List.length_append]
  omega
def Inv (w0 : World) (x o : Nat) (z : Int) (l : List Int) (wr : World) : Prop := ∃ A, St w0 x (cnt o z) (one o l) A wr
section
variable {w0 w : World} {x o : Nat}
theorem inv_wait {i : Nat} (h : Inv w0 x o 0 (fr 0 i) w) (ho : o < 4) (hi : i ≤ 100) :
    Calls Try.prog 8 #[ptrV x, .int .i64 i, .int .i64 o] w fun v w' => v = .returned (.tuple #[.bool false, .nilIface]) ∧ Inv w0 x o 0 (fr 0 (i + 1)) w' := by
  obtain ⟨A, s⟩ := h
  have e : waitR i o (cnt o 0) (one o (fr 0 i)) = ⟨false, 0, cnt o 0, one o (fr 0 (i + 1))⟩ := by
    unfold waitR
    rw [if_neg (by omega), mem_one (fr_no (by omega)), if_neg (by simp), show ((o : Nat) : Int).toNat = o by omega, show cnt o 0 o = 0 from upd_same _ _ _, if_neg (by omega), show one o (fr 0 i) o = fr 0 i from upd_same _ _ _, ← fr_snoc]
    unfold one
    rw [upd_upd]
  exact (st_wait_to s _ _ (by unfold wf64; omega) (by have := one_len o (fr 0 i); rw [fr_len] at this; omega) e).mono fun v w' ⟨a, B, s', _⟩ => ⟨a, B, s'⟩
theorem inv_sig {i k : Nat} (h : Inv w0 x o 0 (fr i k) w) (ho : o < 4) (hi : i < k) :
    Calls Try.prog 9 #[ptrV x, .int .i64 o] w fun v w' => v = .returned (.tuple #[.int .i64 i, .bool true, .nilIface]) ∧ Inv w0 x o 0 (fr (i + 1) k) w' := by
  obtain ⟨A, s⟩ := h
  have e : sigR o (cnt o 0) (one o (fr i k)) = ⟨i, true, 0, cnt o 0, one o (fr (i + 1) k)⟩ := by
    unfold sigR
    rw [if_neg (by omega), show ((o : Nat) : Int).toNat = o by omega, show one o (fr i k) o = fr i k from upd_same _ _ _, fr_next hi]
    simp only
    unfold one
    rw [upd_upd]
  exact (st_signal_to s _ e).mono fun v w' ⟨a, B, s', _⟩ => ⟨a, B, s'⟩
theorem inv_cnt {z : Int} (h : Inv w0 x o z [] w) (ho : o < 4) :
    Calls Try.prog 9 #[ptrV x, .int .i64 o] w fun v w' => v = .returned (.tuple #[.int .i64 0, .bool false, .nilIface]) ∧ Inv w0 x o (min (z + 1) 255) [] w' := by
  obtain ⟨A, s⟩ := h
  have e : sigR o (cnt o z) (one o []) = ⟨0, false, 0, cnt o (min (z + 1) 255), one o []⟩ := by
    unfold sigR
    rw [if_neg (by omega), show ((o : Nat) : Int).toNat = o by omega, show one o [] o = [] from upd_same _ _ _]
    simp only
    rw [show cnt o z o = z from upd_same _ _ _]
    unfold cnt
    rw [upd_upd]
  exact (st_signal_to s _ e).mono fun v w' ⟨a, B, s', _⟩ => ⟨a, B, s'⟩
theorem inv_count {z : Int} {l : List Int} (h : Inv w0 x o z l w) (ho : o < 4) :
    Calls Try.prog 10 #[ptrV x, .int .i64 o] w fun v w' => v = .returned (.int .i64 z) ∧ w' = w := by
  obtain ⟨A, s⟩ := h
  exact st_count_to s ho rfl (upd_same _ _ _)
theorem inv_row {z : Int} {l : List Int} (h : Inv w0 x o z l w) (ho : o < 4) (hl : l.length ≤ 100) {m : Nat} (hm : l.length = m) :
    Calls Try.prog 11 #[ptrV x, .int .i64 o] w fun v w' => ∃ p cap, v = .returned (.slice p m cap) ∧ Inv w0 x o z l w' := by
  subst hm
  obtain ⟨A, s⟩ := h
  refine (st_row_to s ho rfl (l := l) (upd_same _ _ _) (by omega)).mono fun v w' ⟨vd, a, b, r⟩ => ?_
  obtain ⟨p, cap, rfl, -, -⟩ := (ints_of_owns r).shape
  exact ⟨p, cap, a, A, s.ext b⟩
theorem inv_on {z : Int} (h : Inv w0 x o z [] w) (ho : o < 4) (hz : 0 < z) :
    Calls Try.prog 8 #[ptrV x, .int .i64 1000, .int .i64 o] w fun v w' => v = .returned (.tuple #[.bool true, .nilIface]) ∧ Ext w0 w' := by
  obtain ⟨A, s⟩ := h
  have e : waitR 1000 o (cnt o z) (one o []) = ⟨true, 0, cnt o (z - 1), one o []⟩ := by
    unfold waitR
    rw [if_neg (by omega), mem_one (by simp), if_neg (by simp), show ((o : Nat) : Int).toNat = o by omega, show cnt o z o = z from upd_same _ _ _, if_pos hz]
    unfold cnt
    rw [upd_upd]
  exact (st_wait_to s _ _ (by unfold wf64; omega) (by have := one_len o []; rw [List.length_nil] at this; omega) e).mono fun v w' ⟨a, B, s', _⟩ => ⟨a, s'.xt⟩
theorem inv_off {i k : Nat} (h : Inv w0 x o 0 (fr i k) w) (ho : o < 4) (hk : k ≤ 100) :
    Calls Try.prog 8 #[ptrV x, .int .i64 1000, .int .i64 o] w fun v w' => v = .returned (.tuple #[.bool false, .nilIface]) ∧ Ext w0 w' := by
  obtain ⟨A, s⟩ := h
  have e : waitR 1000 o (cnt o 0) (one o (fr i k)) = ⟨false, 0, cnt o 0, one o (fr i k ++ [1000])⟩ := by
    unfold waitR
    rw [if_neg (by omega), mem_one (fr_no (by omega)), if_neg (by simp), show ((o : Nat) : Int).toNat = o by omega, show cnt o 0 o = 0 from upd_same _ _ _, if_neg (by omega), show one o (fr i k) o = fr i k from upd_same _ _ _]
    unfold one
    rw [upd_upd]
  exact (st_wait_to s _ _ (by unfold wf64; omega) (by have := one_len o (fr i k); rw [fr_len] at this; omega) e).mono fun v w' ⟨a, B, s', _⟩ => ⟨a, s'.xt⟩
end
/-- Behind i signals: those who still wait; how many are counted. -/
def Sg (w0 : World) (x o k i : Nat) (wr : World) : Prop := (i ≤ k ∧ Inv w0 x o 0 (fr i k) wr) ∨ (k < i ∧ Inv w0 x o (min ((i : Int) - k) 255) [] wr)

set_option maxRecDepth 100000 in
set_option maxHeartbeats 8000000 in
theorem walk (n m ob : Int) (hn : 0 ≤ n) (hn' : n ≤ 255) (hm : 0 ≤ m) (hm' : m ≤ 65535) (ho : 0 ≤ ob) (ho' : ob ≤ 255) (w : World) :
    Calls Try.prog 3 #[.int .u8 n, .int .u16 m, .int .u8 ob] w (Yields w (.bool true)) := by
  go_enter Try.func3, Try.ntmps3
  go_wp2_with fail
  refine (known_any _).yields ?_
  intro p0
  have hE0 := hid (ext_more w p0)
  generalize more w p0 = w0 at *
  go_wp2_with fail
  obtain ⟨k, hk⟩ : ∃ k : Nat, n % 40 = k := ⟨(n % 40).toNat, by omega⟩
  obtain ⟨j, hj⟩ : ∃ j : Nat, m % 400 = j := ⟨(m % 400).toNat, by omega⟩
  obtain ⟨o, hoo⟩ : ∃ o : Nat, ob % 4 = o := ⟨(ob % 4).toNat, by omega⟩
  have hk40 : k ≤ 40 := by omega
  have hj400 : j ≤ 400 := by omega
  have HO : Hid (o < 4) := by show o < 4; omega
  rw [hk, hj, hoo]
  clear hk hj hoo hn hn' hm hm' ho ho'
  (with_reducible refine (st_new (Ext.refl w0)).mono ?_)
  rintro e w1 ⟨rfl, A1, s1, -, -⟩
  have S1 : Hid (Inv w0 w0.heap.size o 0 (fr 0 0) w1) := ⟨A1, (s1.told fun j _ => by unfold one upd; split <;> rfl).counts fun j _ => by unfold cnt upd; split <;> rfl⟩
  clear s1
  generalize w0.heap.size = X at *
  go_wp2_with fail
  go_loopw [11] (fun s wr => ∃ i : Nat, s = .int .i64 i ∧ i ≤ k ∧ Hid (Inv w0 X o 0 (fr 0 i) wr)) (fun s _ => (k - intOf s).toNat)
  case atStart => exact ⟨0, rfl, by omega, S1⟩
  case round =>
    obtain ⟨i, rfl, hi, hinv⟩ := hrel
    clear S1
    by_cases hlt : i < k
    · have i1 : (i : Int) < (k : Int) := by omega
      have CW := hid (inv_wait hinv.out HO.out (by omega))
      clear hinv
      go_wp2_with (go_at_call 8; (with_reducible refine CW.out.mono ?_); rintro e w2 ⟨rfl, s2⟩; have S2 := hid s2; clear s2)
      go_roundw
      case rel => exact ⟨i + 1, by go_num, by omega, S2⟩
      case measure => simp [intOf]; omega
    · obtain rfl : i = k := by omega
      have S3 : Hid (Sg w0 X o i 0 wr) := .inl ⟨by omega, hinv.out⟩
      clear hinv hlt
      go_wp2_with fail
      go_loopw [14] (fun s wr => ∃ t : Nat, s = .int .i64 t ∧ t ≤ j ∧ Hid (Sg w0 X o i t wr)) (fun s _ => (j - intOf s).toNat)
      case atStart => exact ⟨0, rfl, by omega, S3⟩
      case round =>
        obtain ⟨t, rfl, ht, hinv⟩ := hrel
        clear S3
        by_cases hlt : t < j
        · have i1 : (t : Int) < (j : Int) := by omega
          by_cases htk : t < i
          · have i2 : decide ((t : Int) < (i : Int)) = true := by rw [decide_eq_true_iff]; omega
            have CS : Hid (Calls Try.prog 9 #[ptrV X, .int .i64 o] wr fun v w' => v = .returned (.tuple #[.int .i64 t, .bool true, .nilIface]) ∧ Sg w0 X o i (t + 1) w') := by
              rcases hinv.out with ⟨_, h⟩ | ⟨h, _⟩
              · exact (inv_sig h HO.out htk).mono fun v w' ⟨a, b⟩ => ⟨a, .inl ⟨by omega, b⟩⟩
              · omega
            clear hinv
            go_wp2_with (go_at_call 9; (with_reducible refine CS.out.mono ?_); rintro e w4 ⟨rfl, s4⟩; have S4 := hid s4; clear s4)
            go_roundw
            case rel => exact ⟨t + 1, by go_num, by omega, S4⟩
            case measure => simp [intOf]; omega
          · have i2 : decide ((t : Int) < (i : Int)) = false := by rw [decide_eq_false_iff_not]; omega
            have CS : Hid (Calls Try.prog 9 #[ptrV X, .int .i64 o] wr fun v w' => v = .returned (.tuple #[.int .i64 0, .bool false, .nilIface]) ∧ Sg w0 X o i (t + 1) w') := by
              rcases hinv.out with ⟨h0, h⟩ | ⟨h0, h⟩
              · rw [fr_none (by omega)] at h
                exact (inv_cnt h HO.out).mono fun v w' ⟨a, b⟩ => ⟨a, .inr ⟨by omega, by rw [show min (((t + 1 : Nat) : Int) - i) 255 = min ((0 : Int) + 1) 255 by omega]; exact b⟩⟩
              · exact (inv_cnt h HO.out).mono fun v w' ⟨a, b⟩ => ⟨a, .inr ⟨by omega, by rw [show min (((t + 1 : Nat) : Int) - i) 255 = min (min ((t : Int) - i) 255 + 1) 255 by omega]; exact b⟩⟩
            clear hinv
            go_wp2_with (go_at_call 9; (with_reducible refine CS.out.mono ?_); rintro e w4 ⟨rfl, s4⟩; have S4 := hid s4; clear s4)
            go_roundw
            case rel => exact ⟨t + 1, by go_num, by omega, S4⟩
            case measure => simp [intOf]; omega
        · obtain rfl : t = j := by omega
          by_cases htk : t ≤ i
          · obtain ⟨m, hm⟩ : ∃ m, i = t + m := ⟨i - t, by omega⟩
            have e1 : IntKind.i64.wrap ((t : Int) - (i : Int)) = -(m : Int) := by rw [show (t : Int) - (i : Int) = -(m : Int) by omega]; exact IntWalk.i64_in _ (by omega)
            have e2 : IntKind.i64.wrap ((i : Int) - (t : Int)) = (m : Int) := by rw [show (i : Int) - (t : Int) = (m : Int) by omega]; exact IntWalk.i64_in _ (by omega)
            have hI : Inv w0 X o 0 (fr t i) wr := by
              rcases hinv.out with ⟨_, h⟩ | ⟨h, _⟩
              · exact h
              · omega
            have CC := hid (inv_count hI HO.out)
            have CR := hid (inv_row hI HO.out (by rw [fr_len]; omega) (m := m) (by rw [fr_len]; omega))
            have i3 : decide ((i : Int) < (t : Int)) = false := by rw [decide_eq_false_iff_not]; omega
            have i4 : decide (i < t) = false := by rw [decide_eq_false_iff_not]; omega
            have HK := hid hk40
            clear hI hinv hm htk hk40 hj400
            go_wp2_with (first | (go_at_call 10; (with_reducible refine CC.out.mono ?_); rintro e w5 ⟨rfl, hw⟩; rw [hw]; clear hw; clear w5) | (go_at_call 11; (with_reducible refine CR.out.mono ?_); rintro e w6 ⟨p6, c6, rfl, s6⟩; have CW := hid (inv_off s6 HO.out (by have := HK.out; omega)); clear s6) | (go_at_call 8; (with_reducible refine CW.out.mono ?_); rintro e w7 ⟨rfl, x7⟩; have X7 := hid x7; clear x7))
            all_goals
              go_returns
              exact ⟨rfl, hE0.out.trans X7.out⟩
          · obtain ⟨m, hm⟩ : ∃ m, t = i + m := ⟨t - i, by omega⟩
            have e1 : IntKind.i64.wrap ((t : Int) - (i : Int)) = (m : Int) := by rw [show (t : Int) - (i : Int) = (m : Int) by omega]; exact IntWalk.i64_in _ (by omega)
            have e2 : IntKind.i64.wrap ((i : Int) - (t : Int)) = -(m : Int) := by rw [show (i : Int) - (t : Int) = -(m : Int) by omega]; exact IntWalk.i64_in _ (by omega)
            have hI : Inv w0 X o (min (m : Int) 255) [] wr := by
              rcases hinv.out with ⟨h, _⟩ | ⟨_, h⟩
              · omega
              · rw [show (m : Int) = (t : Int) - i by omega]; exact h
            have CW := hid (fun (w' : World) (h : Inv w0 X o (min (m : Int) 255) [] w') => inv_on h HO.out (show 0 < min (m : Int) 255 by omega))
            have i3 : decide ((i : Int) < (t : Int)) = true := by rw [decide_eq_true_iff]; omega
            have i4 : decide (i < t) = true := by rw [decide_eq_true_iff]; omega
            have hm0 : 0 < m := by omega
            clear hinv hm htk hk40 hj400
            by_cases hb : (m : Int) ≤ 255
            · rw [show min (m : Int) 255 = (m : Int) by omega] at hI CW
              have CC := hid (inv_count hI HO.out)
              have CR := hid (inv_row hI HO.out (by simp) (m := 0) rfl)
              clear hI
              go_wp2_with (first | (go_at_call 10; (with_reducible refine CC.out.mono ?_); rintro e w5 ⟨rfl, hw⟩; rw [hw]; clear hw; clear w5) | (go_at_call 11; (with_reducible refine CR.out.mono ?_); rintro e w6 ⟨p6, c6, rfl, s6⟩; have CX := hid (CW.out _ s6); clear s6) | (go_at_call 8; (with_reducible refine CX.out.mono ?_); rintro e w7 ⟨rfl, x7⟩; have X7 := hid x7; clear x7))
              go_returns
              exact ⟨rfl, hE0.out.trans X7.out⟩
            · rw [show min (m : Int) 255 = 255 by omega] at hI CW
              have CC := hid (inv_count hI HO.out)
              have CR := hid (inv_row hI HO.out (by simp) (m := 0) rfl)
              clear hI
              go_wp2_with (first | (go_at_call 10; (with_reducible refine CC.out.mono ?_); rintro e w5 ⟨rfl, hw⟩; rw [hw]; clear hw; clear w5) | (go_at_call 11; (with_reducible refine CR.out.mono ?_); rintro e w6 ⟨p6, c6, rfl, s6⟩; have CX := hid (CW.out _ s6); clear s6) | (go_at_call 8; (with_reducible refine CX.out.mono ?_); rintro e w7 ⟨rfl, x7⟩; have X7 := hid x7; clear x7))
              go_returns
              exact ⟨rfl, hE0.out.trans X7.out⟩
set_option linter.unusedVariables false in
set_option maxRecDepth 100000 in
theorem lifted (os : Os) (started : os.Started) (H : Type) (enc : TypeId × Value → H) :
    ReturnsInHanded {} Try.checked os 3 .any (Rows.objectOrderSpec.pre6 enc Try.prog Try.f3 Rows.objectOrderRow.domain false) (Rows.objectOrderSpec.post enc Try.prog Try.f3 false true false false) := by
  refine returnsInHanded_of_change (C := Try.checked) Own.own started (by kernel_rfl) Try.func3
    (ChangeSpec.witness6 (enc := enc) (C := Try.checked) false ⟨#[], #[.int .u8 0, .int .u16 0, .int .u8 0], []⟩ 8 (by kernel_rfl) (by kernel_rfl) (by kernel_rfl) (by kernel_rfl)) ?_
  intro W base args ds gs before hval0 hW hcnd _
  have hval : ∀ (j : Nat) t v, Try.f3.params[j]? = some t → args[j]? = some v → Value.okWide Try.prog W .any base t v := hval0
  have hW' := hW
  obtain ⟨p, q, hA0, hV, rfl, hfz, hnd⟩ := hW
  have hA : DataW.TrodAll enc Try.prog W 0 (fun _ => true) true Try.f3.params.toList args.toList ds p := hA0
  rw [Try.params3] at hA hval
  obtain ⟨v0, vs0, d0, ds0, p0, q0, hargs, rfl, rfl, h0, r0⟩ := trodAll_cons hA
  obtain ⟨v1, vs1, d1, ds1, p1, q1, rfl, rfl, rfl, h1, r1⟩ := trodAll_cons r0
  obtain ⟨v2, vs2, d2, ds2, p2, q2, rfl, rfl, rfl, h2, r2⟩ := trodAll_cons r1
  obtain ⟨rfl, rfl, rfl⟩ := trodAll_nil r2
  obtain rfl : args = #[v0, v1, v2] := by cases args; simp_all
  obtain ⟨rfl, rfl⟩ := trodVars_none hV
  have k0 := h0
  have lt0 : ∀ x ∈ p0, x.block < W.heap.size := by obtain ⟨m, hm⟩ := k0; exact DataW.trod_lt m _ _ _ hm
  have k1 := h1
  have lt1 : ∀ x ∈ p1, x.block < W.heap.size := by obtain ⟨m, hm⟩ := k1; exact DataW.trod_lt m _ _ _ hm
  have k2 := h2
  have lt2 : ∀ x ∈ p2, x.block < W.heap.size := by obtain ⟨m, hm⟩ := k2; exact DataW.trod_lt m _ _ _ hm
  obtain ⟨n, rfl, rfl, rfl, wn⟩ := open_int Try.underlying5 (hval 0 5 v0 rfl rfl) h0
  obtain ⟨m, rfl, rfl, rfl, wm⟩ := open_int Try.underlying22 (hval 1 22 v1 rfl rfl) h1
  obtain ⟨o, rfl, rfl, rfl, wo⟩ := open_int Try.underlying5 (hval 2 5 v2 rfl rfl) h2
  have bn := bounds_u8 wn
  have bm := bounds_u16 wm
  have bo := bounds_u8 wo
  clear hA0 hval0
  refine (walk n m o (by omega) (by omega) (by omega) (by omega) (by omega) (by omega) W).mono fun e W' ⟨he, hx⟩ => ?_
  subst he
  exact ⟨_, rfl, _, _, _, [], _, [], hW', trodAll_mk1 (shut_bool Try.underlying4 _), (trodAll_cons_mk (Below.trod Own.laidOut (by kernel_rfl) (of_decide_eq_true (by kernel_rfl)) k0 hx.below lt0) (trodAll_cons_mk (Below.trod Own.laidOut (by kernel_rfl) (of_decide_eq_true (by kernel_rfl)) k1 hx.below lt1) (trodAll_cons_mk (Below.trod Own.laidOut (by kernel_rfl) (of_decide_eq_true (by kernel_rfl)) k2 hx.below lt2) trodAll_mk0))), rfl, hx.below.frame _, fun h => by cases h⟩

theorem proved : Rows.ObjectOrderSaid :=
  OpenClaim.holds_of_wide 3 Try.f3 rfl rfl rfl rfl rfl rfl rfl ⟨rfl, rfl, rfl, rfl, rfl⟩ rfl rfl rfl rfl rfl (by kernel_rfl) Try.func3 (by kernel_rfl)
    (of_decide_eq_true (by kernel_rfl)) (by unfold Func.isWrapper; first | (rw [if_pos (by decide +kernel)]; kernel_rfl) | (rw [if_neg (by decide +kernel)]; exact ⟨rfl, rfl⟩))
    (fun os started H enc _ => lifted os started H enc)

end objectOrder
end Go.Proofs.Ytoimkocjfijlkaa
