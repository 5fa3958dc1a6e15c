/- TimerOnce: of every row of times: who sleeps wakes once, at the first tick that isn't below his own, in the order of numbers: the law answers true. No conditions. -/
import Derived.Test.YtlpklkkjidaecaaTiK
import Derived.Test.YtlpklkkjidaecaaOwn2
import Derived.WalkSpells
import Derived.WalkLawsBesides
import Derived.Deep.LoopGhost
namespace Go.Proofs.Ytlpklkkjidaecaa
open Go.ChangeShapes Go.WideShapes Go.ChangeAt Go.RowKit Go.Joins Go.Deep

namespace timerOnce
open Ti Rw
/-- The first j have been set. -/
def InvS (w0 : World) (x : Nat) (l : List Int) (j : Nat) (wr : World) : Prop := ∃ M A, St w0 x M A wr ∧ M.length = j ∧ ∀ e ∈ M, ∃ i, i < j ∧ e = ((i : Int), l.getD i 0)
theorem invS_step {w0 : World} {x : Nat} {l : List Int} {j : Nat} {wr : World} (h : InvS w0 x l j wr) (hj : j ≤ 100) {P : Int} (hP : l.getD j 0 = P) :
    Calls Try.prog 9 #[.pointer (some ⟨x, 0, none⟩), .int .i64 j, .int .i64 P] wr fun e w' => e = .returned (.tuple #[]) ∧ InvS w0 x l (j + 1) w' := by
  obtain ⟨M, A, s, hl, hm⟩ := h
  refine (st_set s j P (by omega) (by unfold wf64; omega)).mono fun e w' ⟨a, B, s', _⟩ => ⟨a, _, B, s', ?_, ?_⟩
  · have : others (j : Int) M = M := others_self fun e he => by
      obtain ⟨i, h1, h2⟩ := hm e he
      rw [h2]
      show (i : Int) ≠ (j : Int)
      omega
    simp only [put, this, List.length_cons, hl]
  · intro e he
    rcases List.mem_cons.1 he with rfl | he
    · exact ⟨j, by omega, by rw [hP]⟩
    · obtain ⟨i, h1, h2⟩ := hm e (mem_others.1 he).1
      exact ⟨i, by omega, h2⟩
/-- Ahead of a tick: so many woke. -/
def InvT (w0 : World) (x : Nat) (l : List Int) (tick woke : Nat) (wr : World) : Prop := ∃ M A, St w0 x M A wr ∧ woke + M.length = l.length ∧ ∀ e ∈ M, (tick : Int) ≤ e.2 ∧ ∃ i, i < l.length ∧ e = ((i : Int), l.getD i 0)
theorem invT_start {w0 : World} {x : Nat} {l : List Int} {wr : World} (h : InvS w0 x l l.length wr) (hp : ∀ i, i < l.length → 0 ≤ l.getD i 0) : InvT w0 x l 0 0 wr := by
  obtain ⟨M, A, s, hl, hm⟩ := h
  refine ⟨M, A, s, by omega, fun e he => ?_⟩
  obtain ⟨i, h1, h2⟩ := hm e he
  exact ⟨by rw [h2]; exact hp i h1, i, h1, h2⟩
/-- The ids that are due at a tick. -/
structure Dues (l : List Int) (tick : Nat) (ds : List Int) : Prop where
  at' : ∀ (i : Nat) (d : Int), ds[i]? = some d → ∃ k : Nat, d = (k : Int) ∧ k < l.length ∧ l.getD k 0 = (tick : Int)
  rise : ∀ (i : Nat) (a b : Int), ds[i]? = some a → ds[i + 1]? = some b → a < b
theorem ask {w0 : World} {x : Nat} {l : List Int} {tick woke : Nat} {wr : World} (h : InvT w0 x l tick woke wr) (hl : l.length ≤ 100) :
    Calls Try.prog 14 #[.pointer (some ⟨x, 0, none⟩), .int .i64 tick] wr fun e w' => ∃ vd ds, e = .returned vd ∧ Ints w' vd ds ∧ ds.length ≤ 100 ∧ Dues l tick ds ∧ InvT w0 x l (tick + 1) (woke + ds.length) w' := by
  obtain ⟨M, A, s, hn, hm⟩ := h
  refine (st_due s tick (by omega)).mono fun e w' ⟨vd, B, a, s', _, o, _⟩ => ?_
  have hd := dueIds_length tick M
  refine ⟨vd, _, a, ints_of_owns o, by omega, ⟨fun i d hi => ?_, fun i a b ha hb => ?_⟩, _, B, s', by omega, fun e he => ?_⟩
  · obtain ⟨e, h1, h2, h3⟩ := mem_dueIds.1 (List.mem_of_getElem? hi)
    obtain ⟨h4, k, h5, h6⟩ := hm e h1
    rw [h6] at h2 h3 h4
    exact ⟨k, h3.symm, h5, by simp only at h2 h4; omega⟩
  · have hr := dueIds_rise (tick := tick) s.apart
    rw [List.pairwise_iff_getElem] at hr
    obtain ⟨h1, h2⟩ := List.getElem?_eq_some_iff.1 ha
    obtain ⟨h3, h4⟩ := List.getElem?_eq_some_iff.1 hb
    have := hr i (i + 1) h1 h3 (by omega)
    rw [h2, h4] at this
    exact this
  · obtain ⟨h1, h2⟩ := List.mem_filter.1 he
    obtain ⟨h3, h4⟩ := hm e h1
    refine ⟨?_, h4⟩
    simp at h2
    omega
theorem invT_ext {w0 : World} {x : Nat} {l : List Int} {tick woke : Nat} {wr w' : World} (h : InvT w0 x l tick woke wr) (k : Ext wr w') : InvT w0 x l tick woke w' := by
  obtain ⟨M, A, s, hn, hm⟩ := h
  exact ⟨M, A, s.ext k, hn, hm⟩
theorem invT_end {w0 : World} {x : Nat} {l : List Int} {woke : Nat} {wr : World} (h : InvT w0 x l 256 woke wr) (hp : ∀ i, i < l.length → l.getD i 0 ≤ 255) : woke = l.length ∧ ∃ A, St w0 x [] A wr := by
  obtain ⟨M, A, s, hn, hm⟩ := h
  cases M with
  | nil => exact ⟨by simpa using hn, A, s⟩
  | cons e M =>
    obtain ⟨h1, i, h2, h3⟩ := hm e (by simp)
    have := hp i h2
    rw [h3] at h1
    simp only at h1
    omega

set_option maxRecDepth 100000 in
set_option maxHeartbeats 8000000 in
theorem walk (v : Value) (l : List Int) (w : World) (hl : Nums .u8 w v l) :
    Calls Try.prog 4 #[v] w (Yields w (.bool true)) := by
  obtain ⟨p, cap, rfl, -, -⟩ := hl.shape
  by_cases h30 : 30 < l.length
  · have i1 : decide ((30 : Int) < (l.length : Int)) = true := by rw [decide_eq_true_iff]; omega
    go_enter Try.func4, Try.ntmps4
    go_wp2_with (go_at_call 7; (with_reducible refine (known_any _).yields ?_); intro p0)
    go_returns
    exact ⟨rfl, (by repeat (first | exact Ext.refl _ | assumption | refine Ext.more ?_ _ | refine Ext.drew ?_ | refine Ext.drewN ?_ _ | refine Ext.alloc ?_ _ | refine Ext.setCell ?_ (by simp; try omega) _ | refine Ext.trans ?_ (by assumption)))⟩
  have H30 := hid h30
  have i1 : decide ((30 : Int) < (l.length : Int)) = false := by rw [decide_eq_false_iff_not]; omega
  have HLV := hid hl
  clear hl h30
  go_enter Try.func4, Try.ntmps4
  go_wp2_with fail
  refine (known_any _).yields ?_
  intro p0
  have hE0 := hid (ext_more w p0)
  have HL := hid (Nums.ext hE0.out HLV.out)
  generalize more w p0 = w0 at *
  clear HLV
  have HP : Hid (∀ i, i < l.length → 0 ≤ l.getD i 0 ∧ l.getD i 0 ≤ 255) := fun i hi => by
    obtain ⟨g, off, _, c0, cw⟩ := HL.out.at i hi
    rw [List.getD_eq_getElem?_getD, List.getElem?_eq_getElem hi]
    exact bounds_u8 cw
  go_wp2_with fail
  (with_reducible refine (st_new (Ext.refl w0)).mono ?_)
  rintro e w1 ⟨rfl, A1, s1, -, -⟩
  have S1 : Hid (InvS w0 w0.heap.size l 0 w1) := ⟨[], A1, s1, rfl, fun e he => by cases he⟩
  clear s1
  generalize w0.heap.size = X at *
  go_wp2_with fail
  go_loopw [4] (fun s wr => ∃ j : Nat, s = .int .i64 j ∧ j ≤ l.length ∧ Hid (InvS w0 X l j wr)) (fun s _ => (l.length - intOf s).toNat)
  case atStart => exact ⟨0, rfl, by omega, S1⟩
  case round =>
    obtain ⟨j, rfl, hj, hinv⟩ := hrel
    have hb30 : l.length ≤ 30 := by have := H30.out; omega
    by_cases hlt : j < l.length
    · obtain ⟨g, off, rfl, c0, cw⟩ := HL.out.at j hlt
      simp only [Nat.mul_one] at c0
      have hu := bounds_u8 cw
      obtain ⟨M, A, s, hrest⟩ := hinv.out
      have c1 := s.xt.cell c0
      have i4 : (j : Int) < (l.length : Int) := by omega
      have hg : l.getD j 0 = l[j] := by rw [List.getD_eq_getElem?_getD, List.getElem?_eq_getElem hlt]; rfl
      have CS := hid (invS_step hinv.out (by omega) hg)
      clear hg
      generalize l[j] = P at *
      clear s hrest c0 cw S1
      go_wp2_with (go_at_call 9; (with_reducible refine CS.out.mono ?_); rintro e w4 ⟨rfl, s4⟩; have S4 := hid s4; clear s4)
      go_roundw
      case rel => exact ⟨j + 1, by go_num, by omega, S4⟩
      case measure => simp [intOf]; omega
    · obtain rfl : j = l.length := by omega
      have S5 := hid (invT_start hinv.out (fun i hi => (HP.out i hi).1))
      clear S1 hlt hinv
      go_wp2_with fail
      go_loopw [6, 5] (fun s k wr => ∃ t n : Nat, s = .int .i64 t ∧ k = .int .i64 n ∧ t ≤ 256 ∧ n ≤ l.length ∧ Hid (InvT w0 X l t n wr)) (fun s _ _ => (256 - intOf s).toNat)
      case atStart => exact ⟨0, 0, rfl, rfl, by omega, by omega, S5⟩
      case round =>
        obtain ⟨t, n, rfl, rfl, ht, hn, hinv⟩ := hrel
        by_cases hlt : t < 256
        · have CA := hid (ask hinv.out (by omega))
          clear S5 hinv
          go_wp2_with fail
          (with_reducible refine CA.out.mono ?_)
          rintro e w5 ⟨vd, ds, rfl, r5, hdl, hds, s5⟩
          have R5 := hid r5
          have DS := hid hds
          have T5 := hid s5
          have HDL := hid hdl
          have HT := hid hlt
          have hnn : n + ds.length ≤ l.length := by obtain ⟨M, A, _, h1, _⟩ := s5; omega
          have HNN := hid hnn
          clear CA r5 hds s5 hlt hdl
          obtain ⟨pd, cd, rfl, -, -⟩ := R5.out.shape
          go_wp2_with fail
          go_loopw [8, 5] (fun s k wz => ∃ i : Nat, s = .int .i64 i ∧ k = .int .i64 ((n : Int) + (i : Int)) ∧ i ≤ ds.length ∧ Ext w5 wz) (fun s _ _ => (ds.length - intOf s).toNat)
          case atStart => exact ⟨0, rfl, by go_num, by omega, Ext.refl _⟩
          case round =>
            obtain ⟨i, rfl, rfl, hi, hx⟩ := hrel
            have hdl := HDL.out
            by_cases hlt : i < ds.length
            · obtain ⟨gd, od, rfl, d0⟩ := R5.out.at i hlt
              simp only [Nat.mul_one] at d0
              obtain ⟨k, hk, hkl, hkt⟩ := DS.out.at' i ds[i] (List.getElem?_eq_getElem hlt)
              rw [hk] at d0
              obtain ⟨g, off, rfl, c0, -⟩ := HL.out.at k hkl
              simp only [Nat.mul_one] at c0
              rw [show l[k] = (t : Int) by rw [← hkt, List.getD_eq_getElem?_getD, List.getElem?_eq_getElem hkl]; rfl] at c0
              have d1 := hx.cell d0
              have c1 : wr.cell? ⟨g, off + k, none⟩ = some (.int .u8 (t : Int)) := by
                obtain ⟨M, A, s, _⟩ := T5.out
                exact (s.xt.trans hx).cell c0
              have l1 : gd < wr.heap.size := World.block_lt_of_cell? wr _ d1
              have l2 : g < wr.heap.size := World.block_lt_of_cell? wr _ c1
              have i4 : (i : Int) < (ds.length : Int) := by omega
              have i5 : (k : Int) < (l.length : Int) := by omega
              have i6 : decide ((l.length : Int) ≤ (k : Int)) = false := by rw [decide_eq_false_iff_not]; omega
              have i9 : decide (l.length ≤ k) = false := by rw [decide_eq_false_iff_not]; omega
              have i7 : (t : Int) ≤ 255 := by have := HT.out; omega
              have i8 : decide ((k : Int) < 0) = false := by rw [decide_eq_false_iff_not]; omega
              have HK := hid hk
              have HN2 := HNN.out
              clear d0 c0 hk hkt
              rcases Nat.eq_zero_or_pos i with rfl | hpos
              · simp only [Nat.add_zero] at d1
                go_wp2
                ((first | refine wp_region_more (by kernel_rfl) (by kernel_rfl) ?_ | refine wp_region_ext (by kernel_rfl) (by kernel_rfl) ?_); (try dsimp only [append_cons', append_nil']); (repeat (go_big_quiet_step ((fail)))); refine wpQuiet_nil ?_; rintro _ ⟨pq, rfl⟩)
                go_wp2
                go_roundw
                case rel => exact ⟨1, by go_num, by go_num, by omega, hx.trans (by repeat (first | exact Ext.refl _ | assumption | refine Ext.more ?_ _ | refine Ext.drew ?_ | refine Ext.drewN ?_ _ | refine Ext.alloc ?_ _ | refine Ext.setCell ?_ (by simp; try omega) _ | refine Ext.trans ?_ (by assumption)))⟩
                case measure => simp [intOf]; omega
              · obtain ⟨m, rfl⟩ : ∃ m, i = m + 1 := ⟨i - 1, by omega⟩
                obtain ⟨gd', od', he, e0⟩ := R5.out.at m (by omega)
                obtain ⟨q, hq, hql, -⟩ := DS.out.at' m ds[m] (List.getElem?_eq_getElem (by omega))
                have hrise := DS.out.rise m ds[m] ds[m + 1] (List.getElem?_eq_getElem (by omega)) (List.getElem?_eq_getElem hlt)
                rw [hq, HK.out] at hrise
                rw [hq] at e0
                injection he with he
                injection he with he1 he2 _
                subst he1 he2
                simp only [Nat.mul_one] at e0
                have e1 := hx.cell e0
                have e3 : IntKind.i64.wrap (m : Int) = (m : Int) := IntWalk.i64_in _ (by omega)
                have e4 : decide ((k : Int) ≤ (q : Int)) = false := by rw [decide_eq_false_iff_not]; omega
                have e5 : (m : Int) < (ds.length : Int) := by omega
                have e6 : decide (k ≤ q) = false := by rw [decide_eq_false_iff_not]; omega
                clear e0 hq hrise
                go_wp2
                ((first | refine wp_region_more (by kernel_rfl) (by kernel_rfl) ?_ | refine wp_region_ext (by kernel_rfl) (by kernel_rfl) ?_); (try dsimp only [append_cons', append_nil']); (repeat (go_big_quiet_step ((fail)))); refine wpQuiet_nil ?_; rintro _ ⟨pq, rfl⟩)
                go_wp2
                go_roundw
                case rel => exact ⟨m + 2, by go_num, by go_num, by omega, hx.trans (by repeat (first | exact Ext.refl _ | assumption | refine Ext.more ?_ _ | refine Ext.drew ?_ | refine Ext.drewN ?_ _ | refine Ext.alloc ?_ _ | refine Ext.setCell ?_ (by simp; try omega) _ | refine Ext.trans ?_ (by assumption)))⟩
                case measure => simp [intOf]; omega
            · obtain rfl : i = ds.length := by omega
              go_wp2
              go_roundw
              case rel => exact ⟨t + 1, n + ds.length, by go_num, by go_num, by have := HT.out; omega, HNN.out, invT_ext T5.out hx⟩
              case measure => have := HT.out; simp [intOf]; omega
        · obtain rfl : t = 256 := by omega
          obtain ⟨hw, A, s⟩ := invT_end hinv.out (fun i hi => (HP.out i hi).2)
          subst hw
          have S := hid s
          clear S5 hinv s
          go_wp2_with (go_at_call 18; (with_reducible refine (st_len S.out).mono ?_); rintro e w6 ⟨rfl, hw⟩; rw [hw]; clear hw; clear w6)
          go_returns
          exact ⟨rfl, hE0.out.trans S.out.xt⟩
set_option linter.unusedVariables false in
set_option maxRecDepth 100000 in
theorem lifted (os : Os) (started : os.Started) (H : Type) (enc : TypeId × Value → H) :
    ReturnsInHanded {} Try.checked os 4 .any (Rows.timerOnceSpec.pre6 enc Try.prog Try.f4 Rows.timerOnceRow.domain false) (Rows.timerOnceSpec.post enc Try.prog Try.f4 false true false false) := by
  refine returnsInHanded_of_change (C := Try.checked) Own.own started (by kernel_rfl) Try.func4
    (ChangeSpec.witness6 (enc := enc) (C := Try.checked) false ⟨#[], #[.slice none 0 0], []⟩ 8 (by kernel_rfl) (by kernel_rfl) (by kernel_rfl) (by kernel_rfl)) ?_
  intro W base args ds gs before hval0 hW hcnd _
  have hval : ∀ (j : Nat) t v, Try.f4.params[j]? = some t → args[j]? = some v → Value.okWide Try.prog W .any base t v := hval0
  have hW' := hW
  obtain ⟨p, q, hA0, hV, rfl, hfz, hnd⟩ := hW
  have hA : DataW.TrodAll enc Try.prog W 0 (fun _ => true) true Try.f4.params.toList args.toList ds p := hA0
  rw [Try.params4] at hA hval
  obtain ⟨v0, vs0, d0, ds0, p0, q0, hargs, rfl, rfl, h0, r0⟩ := trodAll_cons hA
  obtain ⟨rfl, rfl, rfl⟩ := trodAll_nil r0
  obtain rfl : args = #[v0] := by cases args; simp_all
  obtain ⟨rfl, rfl⟩ := trodVars_none hV
  have k0 := h0
  have lt0 : ∀ x ∈ p0, x.block < W.heap.size := by obtain ⟨m, hm⟩ := k0; exact DataW.trod_lt m _ _ _ hm
  obtain ⟨a0, len0, cap0, rfl⟩ := okWide_slice Try.underlying41 (hval 0 41 v0 rfl rfl)
  obtain ⟨l, hl⟩ := Own.open_nums Try.underlying41 Try.underlying5 (by kernel_rfl) h0
  clear hA0 hval0
  refine (walk _ l W hl).mono fun e W' ⟨he, hx⟩ => ?_
  subst he
  exact ⟨_, rfl, _, _, _, [], _, [], hW', trodAll_mk1 (shut_bool Try.underlying4 _), (trodAll_cons_mk (Below.trod Own.laidOut (by kernel_rfl) (of_decide_eq_true (by kernel_rfl)) k0 hx.below lt0) trodAll_mk0), rfl, hx.below.frame _, fun h => by cases h⟩

theorem proved : Rows.TimerOnceSaid :=
  OpenClaim.holds_of_wide 4 Try.f4 rfl rfl rfl rfl rfl rfl rfl ⟨rfl, rfl, rfl, rfl, rfl⟩ rfl rfl rfl rfl rfl (by kernel_rfl) Try.func4 (by kernel_rfl)
    (of_decide_eq_true (by kernel_rfl)) (by unfold Func.isWrapper; first | (rw [if_pos (by decide +kernel)]; kernel_rfl) | (rw [if_neg (by decide +kernel)]; exact ⟨rfl, rfl⟩))
    (fun os started H enc _ => lifted os started H enc)

end timerOnce
end Go.Proofs.Ytlpklkkjidaecaa
