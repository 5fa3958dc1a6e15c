/- WireTells: of every number, every set of bits, every bytes and every row of steps, in whatever memory in which errors.errorType reads as the program's text lays it: the law answers true, and its arguments read as they did. -/
import Derived.Test.YtjldcchlnnfbgaaDoorWireKnown
import Derived.Test.YtjldcchlnnfbgaaDoorOwn2
import Derived.Test.YtjldcchlnnfbgaaDoorAs
import Derived.Test.YtjldcchlnnfbgaaDoorRef2
import Derived.Test.YtjldcchlnnfbgaaDoorRef3
import Derived.Deep.RegionWith
import Derived.Test.YtjldcchlnnfbgaaDoorTie
import Derived.Test.YtjldcchlnnfbgaaDoorCards
import Derived.SevenTiedAt
import Derived.ChangeMaps5
import Derived.ChangeSame
import Derived.ChangeVars
import Derived.JoinedOf
import Derived.RowKitTokens
import Derived.LaidLaws
import Derived.LaidHandle
import Derived.Stop.Joined
import Derived.SizedLaws
namespace Go.Proofs.YtjldcchlnnfbgaaDoor
open Go.ChangeShapes Go.WideShapes Go.ChangeAt Go.RowKit Go.Joins Go.Deep

namespace wireTells
theorem code_any (e : Nat) (w : World) (hg : w.cell? ⟨0, 0, none⟩ = some As.tAny) : Calls Tryd.prog 16 #[errV e] w (Yields w (.int .i64 e)) := by
  by_cases he : e = 0
  · subst he; exact As.code_nil w
  · rw [errV_pos he]; exact As.code_errno e w hg

theorem err_yields (b : Nat) (r : Rd) (w : World) (h : Rr b r w) : Calls Tryd.prog 17 #[.pointer (some ⟨b, 0, none⟩)] w (Yields w (errV r.e)) :=
  (err_any b r w h).mono fun _ _ ⟨he, hw⟩ => ⟨he, hw ▸ Ext.refl _⟩
theorem left_yields (b : Nat) (r : Rd) (w : World) (h : Rr b r w) : Calls Tryd.prog 18 #[.pointer (some ⟨b, 0, none⟩)] w (Yields w (.int .i64 r.s.length)) :=
  (left_any b r w h).mono fun _ _ ⟨he, hw⟩ => ⟨he, hw ▸ Ext.refl _⟩

set_option maxRecDepth 100000 in
set_option maxHeartbeats 8000000 in
theorem walk (n m : Int) (hm : 0 ≤ m) (hm' : m < 18446744073709551616) (s : List UInt8) (v : Value) (l : List (Int × Int)) (w : World) (hl : Steps w v l) (hsl : s.length ≤ 140737488355328) (hg : w.cell? ⟨0, 0, none⟩ = some As.tAny) :
    Calls Tryd.prog 3 #[.int .i64 n, .int .u64 m, .string (str s), v] w (Yields w (.bool true)) := by
  obtain ⟨p, cap, rfl, hcap, hmax, hc⟩ := hl
  have HC := hid hc
  have HM := hid hm'
  clear hc hm'
  unfold maxLen at hmax
  go_enter Tryd.func3, Tryd.ntmps3
  go_wp2_with fail
  refine (known_any _).yields ?_
  intro p0
  by_cases hls : 500 < s.length
  · go_wp2_with fail
    go_returns
    exact ⟨rfl, (by repeat (first | exact Ext.refl _ | assumption | refine Ext.more ?_ _ | refine Ext.drew ?_ | refine Ext.drewN ?_ _ | refine Ext.alloc ?_ _ | refine Ext.setCell ?_ (by simp; try omega) _ | refine Ext.trans ?_ (by assumption)))⟩
  have hls' : (s.length : Int) ≤ 500 := by omega
  have hlb : decide ((500 : Int) < (s.length : Int)) = false := by simpa using hls'
  by_cases hlen : 30 < l.length
  · go_wp2_with fail
    go_returns
    exact ⟨rfl, (by repeat (first | exact Ext.refl _ | assumption | refine Ext.more ?_ _ | refine Ext.drew ?_ | refine Ext.drewN ?_ _ | refine Ext.alloc ?_ _ | refine Ext.setCell ?_ (by simp; try omega) _ | refine Ext.trans ?_ (by assumption)))⟩
  have hlen' : (l.length : Int) ≤ 30 := by omega
  go_wp2_with fail
  have hE0 : Ext w (more w p0) := ext_more w p0
  generalize more w p0 = w0 at *
  refine (new_any _).mono ?_
  rintro e w1 ⟨rfl, rfl⟩
  have h1 := Wr.new w0
  have k1 : Below w0.heap.size w0 (w0.alloc (.cells #[.slice none 0 0] 51 (0, 0))) := (Below.refl _ _).alloc (Nat.le_refl _) _
  generalize w0.alloc (.cells #[.slice none 0 0] 51 (0, 0)) = w1 at *
  go_wp2_with fail
  refine (wnum_to _ _ _ (numB n) _ _ h1 (by simp) (by rfl)).mono ?_
  rintro e w2 ⟨rfl, b2, h2⟩
  go_wp2_with fail
  have hnl := numB_length n
  refine (wbits_to _ _ _ (numB n ++ bitsB m) _ hm HM.out _ h2 (by omega) (by rfl)).mono ?_
  rintro e w3 ⟨rfl, b3, h3⟩
  go_wp2_with fail
  refine (wstr_any _ _ _ _ h3).mono ?_
  rintro e w4 ⟨rfl, rfl⟩
  have hbl := bitsB_length m
  go_wp2_with (first
    | (go_at_call 9; refine (fnum_any _ _).yields ?_; intro pa)
    | (go_at_call 10; refine (fbits_any _ hm _).yields ?_; intro pb)
    | (go_at_call 11; refine (of_any _ _).mono ?_; rintro e w5 ⟨rfl, rfl⟩))
  have hsz : (more w4 (pa.then pb)).heap.size = w4.heap.size + (pa.then pb).os.size := more_size _ _
  generalize hw5 : more w4 (pa.then pb) = w5 at *
  rw [← hsz]
  have hr0 : Rr w5.heap.size ⟨s, 0⟩ ((w5.alloc (.cells #[.string (str s), .nilIface] 54 (0, 0))).alloc (.cells #[.string (str s), .int .i64 0] 36 (0, 0))) := (Rr.new s w5).ext (Ext.alloc (Ext.refl _) _)
  have hq0 : Rq (w5.heap.size + 1) ⟨s, 0⟩ ((w5.alloc (.cells #[.string (str s), .nilIface] 54 (0, 0))).alloc (.cells #[.string (str s), .int .i64 0] 36 (0, 0))) := by
    have := heap_alloc_new (w5.alloc (.cells #[.string (str s), .nilIface] 54 (0, 0))) (.cells #[.string (str s), .int .i64 0] 36 (0, 0))
    rw [World.size_alloc] at this
    exact this
  have hE5 : Below w.heap.size w w5 := by
    rw [← hw5]
    exact hE0.below.trans (((k1.trans (b2.trans b3)).mono hE0.size).trans ((ext_more w4 _).below.mono (by have := hE0.size; have := h1.lt; have := b2.size; have := b3.size; omega)))
  have hEb : Below w.heap.size w ((w5.alloc (.cells #[.string (str s), .nilIface] 54 (0, 0))).alloc (.cells #[.string (str s), .int .i64 0] 36 (0, 0))) := (hE5.alloc hE5.size _).alloc (by have := hE5.size; simp; omega) _
  have hsb : w.heap.size ≤ w5.heap.size := hE5.size
  generalize (w5.alloc (.cells #[.string (str s), .nilIface] 54 (0, 0))).alloc (.cells #[.string (str s), .int .i64 0] 36 (0, 0)) = w6 at *
  clear hE0 k1 h1 b2 h2 b3 h3 hsz hw5 hE5
  generalize w5.heap.size = b at *
  have hsl5 : s.length ≤ 500 := by omega
  go_loopw [12] (fun v wr => ∃ (k : Nat) (r : Rd), v = .int .i64 k ∧ k ≤ l.length ∧ r.s.length ≤ 500 ∧ Rr b r wr ∧ Rq (b + 1) r wr ∧ Below w.heap.size w wr) (fun v _ => (l.length - intOf v).toNat)
  case atStart => exact ⟨0, ⟨s, 0⟩, rfl, by omega, hsl5, hr0, hq0, hEb⟩
  case round =>
    obtain ⟨k, r, rfl, hk, hr5, hr, hq, hb⟩ := hrel
    by_cases hlt : k < l.length
    · obtain ⟨gb, off, rfl, hcells⟩ := HC.out (by omega)
      obtain ⟨c0, c1⟩ := hcells k l[k] (by simp)
      clear hcells
      have i1 : (k : Int) < (l.length : Int) := by omega
      have a0 := Ext.cell ⟨hb⟩ c0
      have a1 := Ext.cell ⟨hb⟩ c1
      have hA := r.afterNum_len l[k].2
      have hB := r.afterBits_len
      generalize l[k] = x at *
      obtain ⟨what, most⟩ := x
      simp only at c0 c1 a0 a1 hA
      have HA : Hid ((r.afterNum most).s.length ≤ 500) := by unfold Hid; omega
      have HB : Hid (r.afterBits.s.length ≤ 500) := by unfold Hid; omega
      have HR5 : Hid (r.s.length ≤ 140737488355328) := by unfold Hid; omega
      clear hA hB hr5
      by_cases hw : what = 0
      · subst hw
        go_wp2_with fail
        have hrd : Rr b r wr.drew := hr
        have hqd : Rq (b + 1) r wr.drew := hq
        have hbd := hb.drew
        go_region_with (first
          | (go_at_call 12; refine (rnum_any _ r most _ hrd HR5.out).mono ?_; rintro e w7 ⟨rfl, r7, o7⟩; have hd7 := hbd.trans (o7.below (base := w.heap.size) hsb hb.size); have d7 := Ext.cell ⟨hd7⟩ c1; have q7 := hqd.only o7 (by omega))
          | (go_at_call 13; refine (qnum_any _ r most _ (by assumption) HR5.out).mono ?_; rintro e w8 ⟨rfl, q8, o8⟩))
        all_goals
          simp only [Act.put, List.getElem_toArray, List.getElem_cons_zero, List.getElem_cons_succ, List.setIfInBounds_toArray, List.set_cons_zero, List.set_cons_succ]
          have r8 := r7.only o8 (by omega)
          have hd8 := hd7.trans (o8.below (base := w.heap.size) (by omega) hd7.size)
          clear d7 q7 r7 o7 o8 a0 a1 hr hq hrd hqd hbd hb
          have hcq := q8.cells
          go_wp2_with fail
          have hg8 := Ext.cell ⟨hd8⟩ hg
          have m0 := more_cell hcq.1
          have m1 := more_cell hcq.2.1
          ((first | refine wp_region_more (by kernel_rfl) (by kernel_rfl) ?_ | refine wp_region_ext (by kernel_rfl) (by kernel_rfl) ?_); (try dsimp only [append_cons', append_nil']); (repeat (go_big_quiet_step ((first | (go_at_call 17; refine Calls.more_of (err_yields _ _ _ (r8.ext (ext_more _ _)))) | (go_at_call 16; refine Calls.more_of (code_any _ _ (more_cell hg8 _))) | (go_at_call 18; refine Calls.more_of (left_yields _ _ _ (r8.ext (ext_more _ _)))))))); refine wpQuiet_nil ?_; rintro _ ⟨pq, rfl⟩)
          go_wp2
          go_roundw
          case rel => exact ⟨k + 1, r.afterNum most, by go_num, by omega, HA.out, r8.ext (ext_more _ _), q8.ext (ext_more _ _), (Ext.trans ⟨hd8⟩ (ext_more _ _)).below⟩
          case measure => simp [intOf]; omega
      · have hw' : (what == 0) = false := by simpa using hw
        go_wp2_with fail
        refine (rbits_any _ r _ hr HR5.out).mono ?_
        rintro e w7 ⟨rfl, r7, o7⟩
        have hd7 := hb.trans (o7.below (base := w.heap.size) hsb hb.size)
        have q7 := hq.only o7 (by omega)
        go_wp2_with fail
        refine (qbits_any _ r _ q7 HR5.out).mono ?_
        rintro e w8 ⟨rfl, q8, o8⟩
        have r8 := r7.only o8 (by omega)
        have hd8 := hd7.trans (o8.below (base := w.heap.size) (by omega) hd7.size)
        clear q7 r7 o7 o8 a0 a1 hr hq hb
        have hcq := q8.cells
        go_wp2_with fail
        have hg8 := Ext.cell ⟨hd8⟩ hg
        have m0 := more_cell hcq.1
        have m1 := more_cell hcq.2.1
        ((first | refine wp_region_more (by kernel_rfl) (by kernel_rfl) ?_ | refine wp_region_ext (by kernel_rfl) (by kernel_rfl) ?_); (try dsimp only [append_cons', append_nil']); (repeat (go_big_quiet_step ((first | (go_at_call 17; refine Calls.more_of (err_yields _ _ _ (r8.ext (ext_more _ _)))) | (go_at_call 16; refine Calls.more_of (code_any _ _ (more_cell hg8 _))) | (go_at_call 18; refine Calls.more_of (left_yields _ _ _ (r8.ext (ext_more _ _)))))))); refine wpQuiet_nil ?_; rintro _ ⟨pq, rfl⟩)
        go_wp2
        go_roundw
        case rel => exact ⟨k + 1, r.afterBits, by go_num, by omega, HB.out, r8.ext (ext_more _ _), q8.ext (ext_more _ _), (Ext.trans ⟨hd8⟩ (ext_more _ _)).below⟩
        case measure => simp [intOf]; omega
    · go_wp2
      go_returns
      exact ⟨rfl, ⟨hb⟩⟩

set_option linter.unusedVariables false in
theorem et : Tryd.prog.globalNamed "errors.errorType" = some 0 := by kernel_rfl
theorem rt : (Tryd.prog.cutTypes.find? (·.1 == "internal/reflectlite.rtype")).map (·.2) = some 72 := by kernel_rfl
theorem oneRow : ((List.range 114).filter fun t => Tryd.prog.rowNamed t [101, 114, 114, 111, 114]) = [43] := by kernel_rfl
theorem tsize : Tryd.prog.types.size = 114 := by kernel_rfl
theorem handle_of_laid {W : World} (h : laidMetH Tryd.prog Rows.wireTellsRow.laid W) : W.cell? ⟨0, 0, none⟩ = some As.tAny := by
  have h' : laidMet Tryd.prog [] W ∧ handlesMet Tryd.prog Rows.wireTellsRow.laid W := h
  obtain ⟨name, u, ty, e1, e2, e3, e4, e5⟩ := h'.2 _ (List.mem_singleton.2 rfl)
  have en : name = [101, 114, 114, 111, 114] := (Option.some.inj e1).symm
  subst en
  obtain rfl := Option.some.inj (rt.symm.trans e2)
  have hm : ty ∈ (List.range 114).filter fun t => Tryd.prog.rowNamed t [101, 114, 114, 111, 114] := List.mem_filter.2 ⟨List.mem_range.2 (by rw [← tsize]; exact e3), e4⟩
  rw [oneRow] at hm
  obtain rfl := List.mem_singleton.1 hm
  have hh : typeHandle Tryd.prog 43 = .pointer (some ⟨1, 43, none⟩) := by kernel_rfl
  rw [hh] at e5
  simpa using World.var?_cell et e5 0
/-- A world that meets the condition: the settled one, the variable's cell laid. -/
noncomputable def laidWorld (os : Os) : World :=
  let w0 := World.holding Tryd.prog os ⟨#[], #[], []⟩
  { w0 with heap := w0.heap.modify 0 fun
      | .cells _ t frozen => .cells #[.iface 72 (.agg #[.pointer (some ⟨1, 43, none⟩)])] t frozen
      | o => o }
theorem laidWorld_met (os : Os) (args : Array Value) : laidMetH Tryd.prog Rows.wireTellsRow.laid ((laidWorld os).forCall (fun _ _ => 0) ⟨#[], args, []⟩).memory :=
  laidMetH_of_parts (laidMet_nil _ _) (by kernel_rfl)
set_option maxRecDepth 100000 in
theorem lifted (os : Os) (started : os.Started) (H : Type) (enc : TypeId × Value → H) :
    ReturnsInHanded {} Tryd.checked os 3 .any (fun w args => (Rows.wireTellsSpec.pre enc Tryd.prog Tryd.f3 [] false w args ∧ laidMetH Tryd.prog Rows.wireTellsRow.laid w) ∧ sizedMet enc Tryd.prog Tryd.f3 (OpenSpec.ofChange Rows.wireTellsSpec) false w args)
      (Rows.wireTellsSpec.post enc Tryd.prog Tryd.f3 false true false false) := by
  refine returnsInHanded_of_change_and (C := Tryd.checked) (X := fun w _ => laidMetH Tryd.prog Rows.wireTellsRow.laid w) (fun _ _ _ hh h => h.of_heap hh) Own.own started (by kernel_rfl) Tryd.func3
    (ChangeSpec.witness_at (enc := enc) (C := Tryd.checked) (os := os) (X := fun w _ => laidMetH Tryd.prog Rows.wireTellsRow.laid w) false (laidWorld os) #[.int .i64 0, .int .u64 0, .string ByteArray.empty, .slice none 0 0] 8 rfl (by kernel_rfl) (by kernel_rfl) (by kernel_rfl) (by kernel_rfl) (by kernel_rfl) (laidWorld_met os _)) ?_
  intro W base args ds gs before hval0 hW _ hsz0 hL _
  have hval : ∀ (j : Nat) t v, Tryd.f3.params[j]? = some t → args[j]? = some v → Value.okWide Tryd.prog W .any base t v := hval0
  have hW' := hW
  obtain ⟨p, q, hA0, hV0, rfl, hfz, hnd⟩ := hW
  have hA : DataW.TrodAll enc Tryd.prog W 0 (fun _ => true) true Tryd.f3.params.toList args.toList ds p := hA0
  have hV : DataW.TrodVars enc Tryd.prog W (fun _ => true) [] gs q := hV0
  rw [Tryd.params3] at hA hval
  obtain ⟨rfl, rfl⟩ := trodVars_none hV
  have hsz : (DataW.weightsEach Tryd.prog [3, 22, 9, 23] ds).all (· ≤ reachBytes) = true := by rw [List.append_nil] at hsz0; exact hsz0
  have hg := handle_of_laid hL
  obtain ⟨v0, vs0, d0, ds0, p0, q0, hargs, rfl, rfl, h0, r0⟩ := trodAll_cons hA
  obtain ⟨v1, vs1, d1, ds1, p1, q1, rfl, rfl, rfl, h1, r1⟩ := trodAll_cons r0
  obtain ⟨v2, vs2, d2, ds2, p2, q2, rfl, rfl, rfl, h2, r2⟩ := trodAll_cons r1
  obtain ⟨v3, vs3, d3, ds3, p3, q3, rfl, rfl, rfl, h3, r3⟩ := trodAll_cons r2
  obtain ⟨rfl, rfl, rfl⟩ := trodAll_nil r3
  obtain rfl : args = #[v0, v1, v2, v3] := by cases args; simp_all
  have k0 := h0
  have lt0 : ∀ x ∈ p0, x.block < W.heap.size := by obtain ⟨m, hm⟩ := k0; exact DataW.trod_lt m _ _ _ hm
  have k1 := h1
  have lt1 : ∀ x ∈ p1, x.block < W.heap.size := by obtain ⟨m, hm⟩ := k1; exact DataW.trod_lt m _ _ _ hm
  have k2 := h2
  have lt2 : ∀ x ∈ p2, x.block < W.heap.size := by obtain ⟨m, hm⟩ := k2; exact DataW.trod_lt m _ _ _ hm
  have k3 := h3
  have lt3 : ∀ x ∈ p3, x.block < W.heap.size := by obtain ⟨m, hm⟩ := k3; exact DataW.trod_lt m _ _ _ hm
  obtain ⟨n, rfl, rfl, rfl, wn⟩ := open_int Tryd.underlying3 (hval 0 3 v0 rfl rfl) h0
  obtain ⟨m, rfl, rfl, rfl, wm⟩ := open_int Tryd.underlying22 (hval 1 22 v1 rfl rfl) h1
  obtain ⟨s, rfl, rfl, rfl, ws⟩ := Go.ChangeMaps.open_string Tryd.underlying9 (hval 2 9 v2 rfl rfl) h2
  obtain ⟨a0, len0, cap0, rfl⟩ := okWide_slice Tryd.underlying23 (hval 3 23 v3 rfl rfl)
  obtain ⟨l, hl⟩ := Own.open_steps h3
  have bm := bounds_u64 wm
  have bs := sized_string hsz (j := 2) rfl rfl
  obtain ⟨sl, rfl⟩ : ∃ sl, s = str sl := ⟨s.data.toList, (str_data s).symm⟩
  simp only [reachBytes] at bs
  clear hA0 hval0 hsz0 hV0
  refine (walk n m (by omega) (by omega) sl _ l W hl (by simp [str] at bs; omega) hg).mono fun e W' ⟨he, hx⟩ => ?_
  subst he
  exact ⟨_, rfl, _, _, _, [], _, [], hW', trodAll_mk1 (shut_bool Tryd.underlying4 _), (trodAll_cons_mk (Below.trod Own.laidOut (by kernel_rfl) (of_decide_eq_true (by kernel_rfl)) k0 hx.below lt0) (trodAll_cons_mk (Below.trod Own.laidOut (by kernel_rfl) (of_decide_eq_true (by kernel_rfl)) k1 hx.below lt1) (trodAll_cons_mk (Below.trod Own.laidOut (by kernel_rfl) (of_decide_eq_true (by kernel_rfl)) k2 hx.below lt2) (trodAll_cons_mk (Below.trod Own.laidOut (by kernel_rfl) (of_decide_eq_true (by kernel_rfl)) k3 hx.below lt3) trodAll_mk0)))), rfl, hx.below.frame _, fun h => by cases h⟩

theorem plain : Rows.WireTellsSaid :=
  OpenClaim.holds_of_wide 3 Tryd.f3 rfl rfl rfl rfl rfl rfl rfl ⟨rfl, rfl, rfl, rfl, rfl⟩ rfl rfl rfl rfl rfl (by kernel_rfl) Tryd.func3 (by kernel_rfl)
    (of_decide_eq_true (by kernel_rfl)) (by unfold Func.isWrapper; first | (rw [if_pos (by decide +kernel)]; kernel_rfl) | (rw [if_neg (by decide +kernel)]; exact ⟨rfl, rfl⟩))
    (fun os started H enc _ => lifted os started H enc)

theorem proved : Rows.WireTellsCardSaid :=
  Claim7.holds_tied_plain_at .later [] [.handle] true _ true
    plain (fun _ h => by cases h) (by kernel_rfl) (fun _ h => by cases h) wireTells_row_tie rfl ⟨rfl, rfl⟩ (by kernel_rfl) rfl
    (fun f fn hf hfn => by
      obtain rfl : f = 3 := Option.some.inj ((show Tryd.prog.funcNamed "tontine/tontinelaw2.WireTells" = some 3 by kernel_rfl).symm.trans hf) |>.symm
      obtain rfl : fn = Tryd.f3 := (Option.some.inj (Tryd.func3.symm.trans hfn)).symm
      exact ⟨by kernel_rfl, fun j t ht => by
        rw [Tryd.params3] at ht
        match j, ht with
        | 0, ht => simp at ht; subst ht; exact (show Tryd.prog.wantsStandIn 3 = false by kernel_rfl)
        | 1, ht => simp at ht; subst ht; exact (show Tryd.prog.wantsStandIn 22 = false by kernel_rfl)
        | 2, ht => simp at ht; subst ht; exact (show Tryd.prog.wantsStandIn 9 = false by kernel_rfl)
        | 3, ht => simp at ht; subst ht; exact (show Tryd.prog.wantsStandIn 23 = false by kernel_rfl)
        | j + 4, ht => simp at ht⟩)
    (by kernel_rfl)

end wireTells
end Go.Proofs.YtjldcchlnnfbgaaDoor
