/- TimerApart: of every two rows of sleepers, every one, every tick: whether one is due hangs on no other one's time: the law answers true. No conditions. -/
import Derived.Test.YtlpklkkjidaecaaTiH
import Derived.Test.YtlpklkkjidaecaaOwn2
import Derived.WalkSpells
import Derived.WalkLawsBesides
import Derived.Deep.LoopGhost
namespace Go.Proofs.Ytlpklkkjidaecaa
open Go.ChangeShapes Go.WideShapes Go.ChangeAt Go.RowKit Go.Joins Go.Deep

namespace timerApart
open Ti Rw
/-- Two Timers beside one another. -/
def Two (w0 : World) (x y : Nat) (i j : Nat) (wr : World) : Prop := ∃ M N A C, St w0 x M A wr ∧ St w0 y N C wr ∧ (∀ k, A k → ¬ C k) ∧ M.length ≤ i ∧ N.length ≤ j
theorem others_len (id : Int) (l : List En) : (others id l).length ≤ l.length := List.length_filter_le _ _
theorem put_len (id u : Int) (l : List En) : (put id u l).length ≤ l.length + 1 := by
  have := others_len id l
  simp only [put, List.length_cons]
  omega
theorem two_x {w0 : World} {x y i j : Nat} {wr : World} (h : Two w0 x y i j wr) (id u : Int) (hw : wf64 id) (hi : i ≤ 1000) :
    Calls Try.prog 9 #[.pointer (some ⟨x, 0, none⟩), .int .i64 id, .int .i64 u] wr fun e w' => e = .returned (.tuple #[]) ∧ Two w0 x y (i + 1) j w' := by
  obtain ⟨M, N, A, C, s, t, d, hm, hn⟩ := h
  refine (st_set s id u (by omega) hw).mono fun e w' ⟨a, B, s', m⟩ => ⟨a, ?_⟩
  obtain ⟨t', d'⟩ := t.keep m d (fun k hk => (s.own k hk).1)
  exact ⟨_, N, B, C, s', t', d', by have := put_len id u M; omega, hn⟩
theorem two_y {w0 : World} {x y i j : Nat} {wr : World} (h : Two w0 x y i j wr) (id u : Int) (hw : wf64 id) (hj : j ≤ 1000) :
    Calls Try.prog 9 #[.pointer (some ⟨y, 0, none⟩), .int .i64 id, .int .i64 u] wr fun e w' => e = .returned (.tuple #[]) ∧ Two w0 x y i (j + 1) w' := by
  obtain ⟨M, N, A, C, s, t, d, hm, hn⟩ := h
  refine (st_set t id u (by omega) hw).mono fun e w' ⟨a, B, t', m⟩ => ⟨a, ?_⟩
  obtain ⟨s', d'⟩ := s.keep m (fun k hc ha => d k ha hc) (fun k hk => (t.own k hk).1)
  exact ⟨M, _, A, B, s', t', fun k ha hb => d' k hb ha, hm, by have := put_len id u N; omega⟩
/-- Both have been set for the one. -/
def Both (w0 : World) (x y : Nat) (id : Int) (wr : World) : Prop := ∃ M N A C, St w0 x (put id 100 M) A wr ∧ St w0 y (put id 100 N) C wr ∧ (∀ k, A k → ¬ C k) ∧ M.length ≤ 100 ∧ N.length ≤ 100
def One (w0 : World) (x y : Nat) (id : Int) (wr : World) : Prop := ∃ M N A C, St w0 x (put id 100 M) A wr ∧ St w0 y N C wr ∧ (∀ k, A k → ¬ C k) ∧ M.length ≤ 100 ∧ N.length ≤ 100
theorem to_one {w0 : World} {x y i j : Nat} {wr : World} (h : Two w0 x y i j wr) (id : Int) (hw : wf64 id) (hi : i ≤ 100) (hj : j ≤ 100) :
    Calls Try.prog 9 #[.pointer (some ⟨x, 0, none⟩), .int .i64 id, .int .i64 100] wr fun e w' => e = .returned (.tuple #[]) ∧ One w0 x y id w' := by
  obtain ⟨M, N, A, C, s, t, d, hm, hn⟩ := h
  refine (st_set s id 100 (by omega) hw).mono fun e w' ⟨a, B, s', m⟩ => ⟨a, ?_⟩
  obtain ⟨t', d'⟩ := t.keep m d (fun k hk => (s.own k hk).1)
  exact ⟨M, N, B, C, s', t', d', by omega, by omega⟩
theorem to_both {w0 : World} {x y : Nat} {id : Int} {wr : World} (h : One w0 x y id wr) (hw : wf64 id) :
    Calls Try.prog 9 #[.pointer (some ⟨y, 0, none⟩), .int .i64 id, .int .i64 100] wr fun e w' => e = .returned (.tuple #[]) ∧ Both w0 x y id w' := by
  obtain ⟨M, N, A, C, s, t, d, hm, hn⟩ := h
  refine (st_set t id 100 (by omega) hw).mono fun e w' ⟨a, B, t', m⟩ => ⟨a, ?_⟩
  obtain ⟨s', d'⟩ := s.keep m (fun k hc ha => d k ha hc) (fun k hk => (t.own k hk).1)
  exact ⟨M, N, A, B, s', t', fun k ha hb => d' k hb ha, hm, hn⟩
theorem due_one {id tick : Int} (M : List En) : (dueIds tick (put id 100 M)).contains id = decide (100 ≤ tick) := by
  rw [Bool.eq_iff_iff, List.contains_iff_mem, mem_dueIds, decide_eq_true_iff]
  constructor
  · rintro ⟨e, h1, h2, h3⟩
    rcases List.mem_cons.1 h1 with rfl | h1
    · exact h2
    · exact absurd h3 (mem_others.1 h1).2
  · intro h
    exact ⟨(id, 100), by simp [put], h, rfl⟩
/-- One has been asked. -/
def Asked (w0 : World) (y : Nat) (id : Int) (ds : List Int) (vd : Value) (wr : World) : Prop := ∃ N C, St w0 y (put id 100 N) C wr ∧ N.length ≤ 100 ∧ Res w0 ds vd C wr
theorem ask_x {w0 : World} {x y : Nat} {id tick : Int} {wr : World} (h : Both w0 x y id wr) :
    Calls Try.prog 14 #[.pointer (some ⟨x, 0, none⟩), .int .i64 tick] wr fun e w' => ∃ vd ds, e = .returned vd ∧ Asked w0 y id ds vd w' ∧ ds.contains id = decide (100 ≤ tick) ∧ ds.length ≤ 1000 := by
  obtain ⟨M, N, A, C, s, t, d, hm, hn⟩ := h
  have hl : (put id 100 M).length ≤ 101 := Nat.le_trans (put_len _ _ _) (by omega)
  refine (st_due s tick (by omega)).mono fun e w' ⟨vd, B, a, s', m, o, f⟩ => ?_
  obtain ⟨t', d'⟩ := t.keep m d (fun k hk => (s.own k hk).1)
  refine ⟨vd, _, a, ⟨N, C, t', hn, owns_base o s.xt.size, fun k hk hc => ?_⟩, due_one M, ?_⟩
  · have := (owns_below o k hk).1
    have := (t.own k hc).2
    omega
  · have := dueIds_length tick (put id 100 M)
    omega
theorem ask_y {w0 : World} {y : Nat} {id tick : Int} {ds : List Int} {vd : Value} {wr : World} (h : Asked w0 y id ds vd wr) :
    Calls Try.prog 14 #[.pointer (some ⟨y, 0, none⟩), .int .i64 tick] wr fun e w' => ∃ ve es, e = .returned ve ∧ Ext w0 w' ∧ Ints w' vd ds ∧ Ints w' ve es ∧ es.contains id = decide (100 ≤ tick) ∧ es.length ≤ 1000 := by
  obtain ⟨N, C, t, hn, r⟩ := h
  have hl : (put id 100 N).length ≤ 101 := Nat.le_trans (put_len _ _ _) (by omega)
  refine (st_due t tick (by omega)).mono fun e w' ⟨ve, B, a, t', m, o, f⟩ => ?_
  refine ⟨ve, _, a, t'.xt, (r.keep m).ints, ints_of_owns o, due_one N, ?_⟩
  have := dueIds_length tick (put id 100 N)
  omega

set_option maxRecDepth 100000 in
set_option maxHeartbeats 8000000 in
theorem walk (va vb : Value) (a b : List Int) (id tick : Int) (hi : 0 ≤ id) (hi' : id ≤ 255) (ht : 0 ≤ tick) (ht' : tick ≤ 255) (w : World) (ha : Nums .u8 w va a) (hb : Nums .u8 w vb b) :
    Calls Try.prog 6 #[va, vb, .int .u8 id, .int .u8 tick] w (Yields w (.bool true)) := by
  obtain ⟨pa, capa, rfl, -, -⟩ := ha.shape
  obtain ⟨pb, capb, rfl, -, -⟩ := hb.shape
  by_cases ha20 : 20 < a.length
  · have i1 : decide ((20 : Int) < (a.length : Int)) = true := by rw [decide_eq_true_iff]; omega
    go_enter Try.func6, Try.ntmps6
    go_wp2_with (go_at_call 7; (with_reducible refine (known_any _).yields ?_); intro p0)
    go_returns
    exact ⟨rfl, (by repeat (first | exact Ext.refl _ | assumption | refine Ext.more ?_ _ | refine Ext.drew ?_ | refine Ext.drewN ?_ _ | refine Ext.alloc ?_ _ | refine Ext.setCell ?_ (by simp; try omega) _ | refine Ext.trans ?_ (by assumption)))⟩
  have i1 : decide ((20 : Int) < (a.length : Int)) = false := by rw [decide_eq_false_iff_not]; omega
  by_cases hb20 : 20 < b.length
  · have i2 : decide ((20 : Int) < (b.length : Int)) = true := by rw [decide_eq_true_iff]; omega
    go_enter Try.func6, Try.ntmps6
    go_wp2_with (go_at_call 7; (with_reducible refine (known_any _).yields ?_); intro p0)
    go_returns
    exact ⟨rfl, (by repeat (first | exact Ext.refl _ | assumption | refine Ext.more ?_ _ | refine Ext.drew ?_ | refine Ext.drewN ?_ _ | refine Ext.alloc ?_ _ | refine Ext.setCell ?_ (by simp; try omega) _ | refine Ext.trans ?_ (by assumption)))⟩
  have i2 : decide ((20 : Int) < (b.length : Int)) = false := by rw [decide_eq_false_iff_not]; omega
  have HA20 := hid ha20
  have HB20 := hid hb20
  have HAV := hid ha
  have HBV := hid hb
  clear ha hb ha20 hb20
  go_enter Try.func6, Try.ntmps6
  go_wp2_with fail
  refine (known_any _).yields ?_
  intro p0
  have hE0 := hid (ext_more w p0)
  have HA := hid (Nums.ext hE0.out HAV.out)
  have HB := hid (Nums.ext hE0.out HBV.out)
  generalize more w p0 = w0 at *
  clear HAV HBV
  go_wp2_with fail
  (with_reducible refine (st_new (Ext.refl w0)).mono ?_)
  rintro e w1 ⟨rfl, A1, s1, -, f1⟩
  go_wp2_with fail
  (with_reducible refine (st_new s1.xt).mono ?_)
  rintro e w2 ⟨rfl, A2, s2, x2, f2⟩
  have hy : w0.heap.size ≠ w1.heap.size := fun e => absurd s1.lt (by omega)
  have S2 : Hid (Two w0 w0.heap.size w1.heap.size 0 0 w2) := ⟨[], [], A1, A2, s1.ext x2, s2, fun k ha hc => by have := (s1.own k ha).2; have := f2 k hc; omega, by simp, by simp⟩
  clear s1 s2 f1 f2 x2
  have hK0 : 0 ≤ id % 20 := by omega
  have hK1 : id % 20 < 20 := by omega
  have hKt : IntKind.i64.wrap (id % 20) = id % 20 := IntWalk.i64_in _ (by omega)
  generalize w1.heap.size = Y at *
  generalize w0.heap.size = X at *
  generalize id % 20 = K at *
  go_wp2_with fail
  go_loopw [12] (fun s wr => ∃ j : Nat, s = .int .i64 j ∧ j ≤ a.length ∧ Hid (Two w0 X Y j 0 wr)) (fun s _ => (a.length - intOf s).toNat)
  case atStart => exact ⟨0, rfl, by omega, S2⟩
  case round =>
    obtain ⟨j, rfl, hj, hinv⟩ := hrel
    have hb20 : a.length ≤ 20 := by have := HA20.out; omega
    by_cases hlt : j < a.length
    · obtain ⟨g, off, rfl, c0, cw⟩ := HA.out.at j hlt
      simp only [Nat.mul_one] at c0
      have hu := bounds_u8 cw
      obtain ⟨M, N, A, C, s, hrest⟩ := hinv.out
      have c1 := s.xt.cell c0
      have i4 : (j : Int) < (a.length : Int) := by omega
      generalize a[j] = P at *
      have CS := hid (two_x hinv.out j P (by unfold wf64; omega) (by omega))
      clear s hrest c0 cw S2
      go_wp2_with (go_at_call 9; (with_reducible refine CS.out.mono ?_); rintro e w4 ⟨rfl, s4⟩; have S4 := hid s4; clear s4)
      go_roundw
      case rel => exact ⟨j + 1, by go_num, by omega, S4⟩
      case measure => simp [intOf]; omega
    · obtain rfl : j = a.length := by omega
      clear S2 hlt
      have HJ := hinv
      clear hinv
      go_wp2_with fail
      go_loopw [13] (fun s wr => ∃ j : Nat, s = .int .i64 j ∧ j ≤ b.length ∧ Hid (Two w0 X Y a.length j wr)) (fun s _ => (b.length - intOf s).toNat)
      case atStart => exact ⟨0, rfl, by omega, HJ⟩
      case round =>
        obtain ⟨j, rfl, hj, hinv⟩ := hrel
        have hb21 : b.length ≤ 20 := by have := HB20.out; omega
        by_cases hlt : j < b.length
        · obtain ⟨g, off, rfl, c0, cw⟩ := HB.out.at j hlt
          simp only [Nat.mul_one] at c0
          have hu := bounds_u8 cw
          obtain ⟨M, N, A, C, s, hrest⟩ := hinv.out
          have c1 := s.xt.cell c0
          have i4 : (j : Int) < (b.length : Int) := by omega
          generalize b[j] = P at *
          have CS := hid (two_y hinv.out j P (by unfold wf64; omega) (by omega))
          clear s hrest c0 cw HJ
          go_wp2_with (go_at_call 9; (with_reducible refine CS.out.mono ?_); rintro e w4 ⟨rfl, s4⟩; have S4 := hid s4; clear s4)
          go_roundw
          case rel => exact ⟨j + 1, by go_num, by omega, S4⟩
          case measure => simp [intOf]; omega
        · obtain rfl : j = b.length := by omega
          clear HJ hlt
          have CX := hid (to_one hinv.out K (by unfold wf64; omega) (by omega) (by omega))
          clear hinv
          go_wp2_with fail
          (with_reducible refine CX.out.mono ?_)
          rintro e w5 ⟨rfl, s5⟩
          have CY := hid (to_both s5 (by unfold wf64; omega))
          clear s5 CX
          go_wp2_with fail
          (with_reducible refine CY.out.mono ?_)
          rintro e w6 ⟨rfl, s6⟩
          have CA := hid (ask_x (tick := tick) s6)
          clear s6 CY
          go_wp2_with fail
          (with_reducible refine CA.out.mono ?_)
          rintro e w7 ⟨vd, ds, rfl, s7, hd, hdl⟩
          have CB := hid (ask_y (tick := tick) s7)
          have HD := hid hd
          clear s7 CA hd
          go_wp2_with fail
          (with_reducible refine CB.out.mono ?_)
          rintro e w8 ⟨ve, es, rfl, x8, r8, q8, he, hel⟩
          have X8 := hid x8
          have HE := hid he
          have R8 := hid r8
          have Q8 := hid q8
          clear CB he r8 q8 x8
          obtain ⟨pd, cd, rfl, -, -⟩ := R8.out.shape
          obtain ⟨pe, ce, rfl, -, -⟩ := Q8.out.shape
          have HDL := hid hdl
          have HEL := hid hel
          cases h100 : decide (100 ≤ tick) with
          | true =>
            rw [h100] at HD HE
            have CP := hid (has_to R8.out (by have := HDL.out; omega) HD.out)
            clear hdl hel
            go_wp2_with (first | (go_at_call 19; (with_reducible refine CP.out.yields ?_); intro p9; have CQ := hid (has_to (Ti.Ints.ext Q8.out (ext_more w8 p9)) (by have := HEL.out; omega) HE.out)) | (go_at_call 19; (with_reducible refine CQ.out.yields ?_); intro p10))
            go_returns
            exact ⟨rfl, (hE0.out.trans X8.out).trans (by repeat (first | exact Ext.refl _ | assumption | refine Ext.more ?_ _ | refine Ext.drew ?_ | refine Ext.drewN ?_ _ | refine Ext.alloc ?_ _ | refine Ext.setCell ?_ (by simp; try omega) _ | refine Ext.trans ?_ (by assumption)))⟩
          | false =>
            rw [h100] at HD HE
            have CP := hid (has_to R8.out (by have := HDL.out; omega) HD.out)
            clear hdl hel
            go_wp2_with (first | (go_at_call 19; (with_reducible refine CP.out.yields ?_); intro p9; have CQ := hid (has_to (Ti.Ints.ext Q8.out (ext_more w8 p9)) (by have := HEL.out; omega) HE.out)) | (go_at_call 19; (with_reducible refine CQ.out.yields ?_); intro p10))
            go_returns
            exact ⟨rfl, (hE0.out.trans X8.out).trans (by repeat (first | exact Ext.refl _ | assumption | refine Ext.more ?_ _ | refine Ext.drew ?_ | refine Ext.drewN ?_ _ | refine Ext.alloc ?_ _ | refine Ext.setCell ?_ (by simp; try omega) _ | refine Ext.trans ?_ (by assumption)))⟩
set_option linter.unusedVariables false in
set_option maxRecDepth 100000 in
theorem lifted (os : Os) (started : os.Started) (H : Type) (enc : TypeId × Value → H) :
    ReturnsInHanded {} Try.checked os 6 .any (Rows.timerApartSpec.pre6 enc Try.prog Try.f6 Rows.timerApartRow.domain false) (Rows.timerApartSpec.post enc Try.prog Try.f6 false true false false) := by
  refine returnsInHanded_of_change (C := Try.checked) Own.own started (by kernel_rfl) Try.func6
    (ChangeSpec.witness6 (enc := enc) (C := Try.checked) false ⟨#[], #[.slice none 0 0, .slice none 0 0, .int .u8 0, .int .u8 0], []⟩ 8 (by kernel_rfl) (by kernel_rfl) (by kernel_rfl) (by kernel_rfl)) ?_
  intro W base args ds gs before hval0 hW hcnd _
  have hval : ∀ (j : Nat) t v, Try.f6.params[j]? = some t → args[j]? = some v → Value.okWide Try.prog W .any base t v := hval0
  have hW' := hW
  obtain ⟨p, q, hA0, hV, rfl, hfz, hnd⟩ := hW
  have hA : DataW.TrodAll enc Try.prog W 0 (fun _ => true) true Try.f6.params.toList args.toList ds p := hA0
  rw [Try.params6] at hA hval
  obtain ⟨v0, vs0, d0, ds0, p0, q0, hargs, rfl, rfl, h0, r0⟩ := trodAll_cons hA
  obtain ⟨v1, vs1, d1, ds1, p1, q1, rfl, rfl, rfl, h1, r1⟩ := trodAll_cons r0
  obtain ⟨v2, vs2, d2, ds2, p2, q2, rfl, rfl, rfl, h2, r2⟩ := trodAll_cons r1
  obtain ⟨v3, vs3, d3, ds3, p3, q3, rfl, rfl, rfl, h3, r3⟩ := trodAll_cons r2
  obtain ⟨rfl, rfl, rfl⟩ := trodAll_nil r3
  obtain rfl : args = #[v0, v1, v2, v3] := by cases args; simp_all
  obtain ⟨rfl, rfl⟩ := trodVars_none hV
  have k0 := h0
  have lt0 : ∀ x ∈ p0, x.block < W.heap.size := by obtain ⟨m, hm⟩ := k0; exact DataW.trod_lt m _ _ _ hm
  have k1 := h1
  have lt1 : ∀ x ∈ p1, x.block < W.heap.size := by obtain ⟨m, hm⟩ := k1; exact DataW.trod_lt m _ _ _ hm
  have k2 := h2
  have lt2 : ∀ x ∈ p2, x.block < W.heap.size := by obtain ⟨m, hm⟩ := k2; exact DataW.trod_lt m _ _ _ hm
  have k3 := h3
  have lt3 : ∀ x ∈ p3, x.block < W.heap.size := by obtain ⟨m, hm⟩ := k3; exact DataW.trod_lt m _ _ _ hm
  obtain ⟨a0, len0, cap0, rfl⟩ := okWide_slice Try.underlying41 (hval 0 41 v0 rfl rfl)
  obtain ⟨a, ha⟩ := Own.open_nums Try.underlying41 Try.underlying5 (by kernel_rfl) h0
  obtain ⟨a1, len1, cap1, rfl⟩ := okWide_slice Try.underlying41 (hval 1 41 v1 rfl rfl)
  obtain ⟨b, hb⟩ := Own.open_nums Try.underlying41 Try.underlying5 (by kernel_rfl) h1
  obtain ⟨i, rfl, rfl, rfl, wi⟩ := open_int Try.underlying5 (hval 2 5 v2 rfl rfl) h2
  obtain ⟨n, rfl, rfl, rfl, wn⟩ := open_int Try.underlying5 (hval 3 5 v3 rfl rfl) h3
  have bi := bounds_u8 wi
  have bn := bounds_u8 wn
  clear hA0 hval0
  refine (walk _ _ a b i n (by omega) (by omega) (by omega) (by omega) W ha hb).mono fun e W' ⟨he, hx⟩ => ?_
  subst he
  exact ⟨_, rfl, _, _, _, [], _, [], hW', trodAll_mk1 (shut_bool Try.underlying4 _), (trodAll_cons_mk (Below.trod Own.laidOut (by kernel_rfl) (of_decide_eq_true (by kernel_rfl)) k0 hx.below lt0) (trodAll_cons_mk (Below.trod Own.laidOut (by kernel_rfl) (of_decide_eq_true (by kernel_rfl)) k1 hx.below lt1) (trodAll_cons_mk (Below.trod Own.laidOut (by kernel_rfl) (of_decide_eq_true (by kernel_rfl)) k2 hx.below lt2) (trodAll_cons_mk (Below.trod Own.laidOut (by kernel_rfl) (of_decide_eq_true (by kernel_rfl)) k3 hx.below lt3) trodAll_mk0)))), rfl, hx.below.frame _, fun h => by cases h⟩

theorem proved : Rows.TimerApartSaid :=
  OpenClaim.holds_of_wide 6 Try.f6 rfl rfl rfl rfl rfl rfl rfl ⟨rfl, rfl, rfl, rfl, rfl⟩ rfl rfl rfl rfl rfl (by kernel_rfl) Try.func6 (by kernel_rfl)
    (of_decide_eq_true (by kernel_rfl)) (by unfold Func.isWrapper; first | (rw [if_pos (by decide +kernel)]; kernel_rfl) | (rw [if_neg (by decide +kernel)]; exact ⟨rfl, rfl⟩))
    (fun os started H enc _ => lifted os started H enc)

end timerApart
end Go.Proofs.Ytlpklkkjidaecaa
