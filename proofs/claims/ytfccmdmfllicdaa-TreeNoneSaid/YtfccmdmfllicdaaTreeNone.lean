/- TreeNone: of every weight, however deep, however often: where none is ready none runs and nothing changes; one alone that is ready runs always: the law answers true. No conditions. -/
import Derived.Test.YtfccmdmfllicdaaTm3
import Derived.Test.YtfccmdmfllicdaaTk
import Derived.Test.YtfccmdmfllicdaaOwn2
namespace Go.Proofs.Ytfccmdmfllicdaa
open Go.ChangeShapes Go.WideShapes Go.ChangeAt Go.RowKit Go.Joins Go.Deep
set_option linter.unusedSimpArgs false

namespace treeNone
/-- Behind k groups, each in the one ahead of it. -/
def Inv1 (w0 : World) (x : Nat) (k : Nat) (wr : World) : Prop := ∃ l, TSt w0 x l [] wr ∧ Wf l ∧ l.length = k + 1 ∧ (∀ n ∈ l, n.id ≤ k ∧ n.thr = false) ∧ Up l (k + 1) k
/-- Thread 9 alone, ready or not. -/
structure One (l : List Nd) (r : Bool) : Prop where
  wf : Wf l
  only : ∀ n ∈ l, n.thr = true → n.id = 9
  thr : ∃ t ∈ l, t.id = 9 ∧ t.thr = true ∧ 0 ≤ t.par ∧ t.rdy = r
def Inv2 (w0 : World) (x : Nat) (r : Bool) (wr : World) : Prop := ∃ l, TSt w0 x l [] wr ∧ One l r
theorem One.uniq {l : List Nd} {r : Bool} (h : One l r) {m : Nd} (hm : m ∈ l) (ht : m.thr = true) : m.rdy = r := by
  obtain ⟨hw, h1, t, ht1, e1, e2, e3, e4⟩ := h
  rw [uniqU hw.sk.ids hm ht1 ((h1 m hm ht).trans e1.symm)]; exact e4
theorem One.run {l : List Nd} (h : One l true) : ∃ r R, r ∈ l ∧ r.id = 0 ∧ r.rdy = true ∧ runU 6 l 0 = some R ∧ R.1 = 9 ∧ One (upR 6 R.2 R.1) true := by
  have h' := h
  obtain ⟨hw, h1, t, ht1, e1, e2, e3, e4⟩ := h
  obtain ⟨r, R, a1, a2, a3, a4, a5, a6, m, hm, b1, b2, b3⟩ := hw.quantum ht1 e4
  refine ⟨r, R, a1, a2, a3, a4, b1.symm.trans (h1 m hm b2), a5, fun n hn ht => ?_, ?_⟩
  · obtain ⟨n0, hn0, ek⟩ := a6.back hn
    obtain ⟨k1, k2, k3, k4, k5⟩ := keyR_eq ek
    rw [← k1]; exact h1 n0 hn0 (k3.trans ht)
  · obtain ⟨t', ht', ek⟩ := a6.fwd ht1
    obtain ⟨k1, k2, k3, k4, k5⟩ := keyR_eq ek
    exact ⟨t', ht', k1.trans e1, k3.trans e2, by rw [k2]; exact e3, k5.trans e4⟩
theorem One.turn {l : List Nd} {r0 : Bool} (h : One l r0) (r : Bool) : One (rdyU r l 9) r := by
  obtain ⟨hw, h1, t, ht1, e1, e2, e3, e4⟩ := h
  have hw2 : Wf (rdyU r l 9) := by rw [← e1]; exact hw.rdyU ht1 e2 r
  refine ⟨hw2, fun n hn ht => ?_, ?_⟩
  · obtain ⟨n0, hn0, ek⟩ := (rdyU_sim r l 9).back hn
    obtain ⟨k1, k2, k3, k4⟩ := keyS_eq ek
    rw [← k1]; exact h1 n0 hn0 (k3.trans ht)
  · cases r with
    | true =>
      obtain ⟨p, hp, he, hpt⟩ := (hw.sk.clo t ht1).2.2 e3
      cases r0 with
      | true =>
        have : rdyU true l 9 = l := by
          show wakeU 5 l 9 = l
          rw [← e1]; exact wakeU_rdy hw.sk.ids ht1 e4
        rw [this]; exact ⟨t, ht1, e1, e2, e3, e4⟩
      | false =>
        have := wake_self (f := 4) hw.sk.ids hw.sk.clo ht1 e2 e3 hp he hpt e4
        rw [e1] at this
        exact ⟨_, this, e1, e2, e3, rfl⟩
    | false =>
      have := rest_self (f := 4) hw.sk.ids hw.sk.clo ht1 e2 e3
      rw [e1] at this
      exact ⟨_, this, e1, e2, e3, rfl⟩
theorem nodesV_keep {w w' : World} {g n c : Nat} {l : List Nn} (h : NodesV w (.slice (some ⟨g, 0, none⟩) n c) l) (k : w'.heap[g]? = w.heap[g]?) : NodesV w' (.slice (some ⟨g, 0, none⟩) n c) l := by
  obtain ⟨p, c', e, h1, h2, h3⟩ := h
  refine ⟨p, c', e, h1, h2, fun h0 => ?_⟩
  obtain ⟨b, off, hp, h4⟩ := h3 h0
  injection e with e1 e2 e3
  rw [hp] at e1
  injection e1 with e1
  injection e1 with e1 _ _
  subst e1
  have hc : ∀ j, w'.cell? ⟨g, j, none⟩ = w.cell? ⟨g, j, none⟩ := fun j => by simp [World.cell?, k]
  refine ⟨g, off, hp, fun i x hx => ?_⟩
  obtain ⟨f0, f1, f2, f3, f4, f5⟩ := h4 i x hx
  exact ⟨by rw [hc]; exact f0, by rw [hc]; exact f1, by rw [hc]; exact f2, by rw [hc]; exact f3, by rw [hc]; exact f4, by rw [hc]; exact f5⟩

theorem inv1_start {w0 : World} {x : Nat} {wr : World} (h : TSt w0 x [rootN] [] wr) : Inv1 w0 x 0 wr :=
  ⟨[rootN], h, rootN_wf, rfl, fun n hn => by rw [List.mem_singleton.1 hn]; exact ⟨Int.le_refl 0, rfl⟩, rootN_wf.up0⟩
theorem inv1_add {l : List Nd} {k : Nat} {wt id : Int} {thr : Bool} (hw : Wf l) (hl : l.length = k + 1) (hids : ∀ n ∈ l, n.id ≤ k ∧ n.thr = false) (hu : Up l (k + 1) k) (hk : k ≤ 2) (hi : isW wt = true) (hid : (k : Int) < id) (hth : thr = false → k < 2) : addC l (k + 1) k id wt thr = 0 := by
  obtain ⟨p, hp, hpe, -⟩ := hu
  refine addC_zero hi (by omega) hw.sk.ids hp hpe (hids p hp).2 (getU_none.2 fun n hn e => ?_) (fun h => by have := hth h; omega) (by omega)
  have := (hids n hn).1
  omega

set_option maxRecDepth 100000 in
set_option linter.unusedVariables false in
set_option maxHeartbeats 8000000 in
theorem walk (wt deep n : Int) (hw1 : 0 ≤ wt) (hw2 : wt ≤ 255) (hd1 : 0 ≤ deep) (hd2 : deep ≤ 255) (hn : 0 ≤ n) (hn' : n ≤ 255) (w : World) :
    Calls Try.prog 9 #[.int .u8 wt, .int .u8 deep, .int .u8 n] w (Yields w (.bool true)) := by
  have hnn := fun w => run_neq_nil_nil' (P := Try.prog) w Try.underlying29
  have hen := fun w => run_eql_nil_nil' (P := Try.prog) w Try.underlying29
  have hm1 : 0 ≤ wt % 16 := by omega
  have hm2 : wt % 16 < 16 := by omega
  have hm3 : 0 ≤ deep % 3 := by omega
  have hm4 : deep % 3 < 3 := by omega
  have HIW : Hid (isW (wt % 16 + 1) = true) := isW_iff.2 ⟨by omega, by omega⟩
  go_enter Try.func9, Try.ntmps9
  go_wp2_with fail
  refine (known_any _).yields ?_
  intro p0
  have hE0 := hid (ext_more w p0)
  generalize more w p0 = w0 at *
  go_wp2_with fail
  (with_reducible refine (ts_new w0).mono ?_)
  rintro e w1 ⟨x, rfl, s1⟩
  have S1 := hid (inv1_start s1)
  clear s1
  go_wp2_with fail
  go_loopw [8, 9] (fun v8 v9 wr => ∃ k : Nat, v8 = .int .i64 k ∧ v9 = .int .i64 k ∧ (k : Int) ≤ deep % 3 ∧ Hid (Inv1 w0 x k wr)) (fun _ v9 _ => (3 - intOf v9).toNat)
  case atStart => exact ⟨0, rfl, rfl, by simpa using hm3, S1⟩
  case round =>
    obtain ⟨k, rfl, rfl, hk, hinv⟩ := hrel
    by_cases hlt : (k : Int) < deep % 3
    · go_wp2_with fail
      obtain ⟨l, s, hwf, hlen, hids, hup⟩ := hinv.out
      have hac := inv1_add (id := (k : Int) + 1) (thr := false) hwf hlen hids hup (by omega) HIW.out (by omega) (fun _ => by omega)
      have hwf2 := hwf.add hac hup
      (with_reducible refine (ts_add s hwf (k + 1) k ((k : Int) + 1) (wt % 16 + 1) false (by omega) hup hac).mono ?_)
      rintro e w2 ⟨rfl, s2⟩
      have HN : Hid (Inv1 w0 x (k + 1) w2) := by
        obtain ⟨hc1, hc2, ⟨p, hp, hpe, hpt⟩, hc4, -, -⟩ := addC_ok hac
        refine ⟨_, s2, hwf2, by rw [insT_length, hlen], fun m hm => ?_, ?_⟩
        · rcases mem_insT.1 hm with rfl | hm
          · exact ⟨by show (k : Int) + 1 ≤ ((k + 1 : Nat) : Int); omega, rfl⟩
          · have := hids m hm; exact ⟨by omega, this.2⟩
        · refine ⟨_, mem_insT.2 (.inl rfl), by show (k : Int) + 1 = ((k + 1 : Nat) : Int); omega, ?_⟩
          have := up_ins (d := newN l k ((k : Int) + 1) (wt % 16 + 1) false) hwf.sk.clo (by show (0 : Int) ≤ (k : Int) + 1; omega) hc4 k p hp (by rw [hpe]; exact hup) hwf.sk.ids
          rw [hpe] at this
          exact this
      clear s s2 hwf hlen hids hup hac hwf2
      go_wp2
      go_roundw
      case rel => exact ⟨k + 1, by go_num, by go_num, by omega, HN⟩
      case measure => simp [intOf]; omega
    · go_wp2_with fail
      obtain ⟨l, s, hwf, hlen, hids, hup⟩ := hinv.out
      have hac := inv1_add (id := 9) (thr := true) (wt := 3) hwf hlen hids hup (by omega) rfl (by omega) (fun h => by cases h)
      have hwf2 := hwf.add hac hup
      (with_reducible refine (ts_add s hwf (k + 1) k 9 3 true (by omega) hup hac).mono ?_)
      rintro e w2 ⟨rfl, s2⟩
      have HONE : Hid (One (insT (newN l k 9 3 true) l) false) := ⟨hwf2, (fun m hm ht => by
        rcases mem_insT.1 hm with rfl | hm
        · rfl
        · exact absurd ht (by rw [(hids m hm).2]; simp)), _, mem_insT.2 (.inl rfl), rfl, rfl, by show (0 : Int) ≤ (k : Int); omega, rfl⟩
      have S2 := hid s2
      have HNE : Hid (insT (newN l k 9 3 true) l ≠ []) := fun e => by have := congrArg List.length e; rw [insT_length] at this; simp at this
      clear s s2 hwf hlen hids hup hac hwf2 hinv
      generalize insT (newN l k 9 3 true) l = l2 at *
      go_wp2_with fail
      (with_reducible refine (ts_nodes S2.out HONE.out.wf HNE.out).mono ?_)
      rintro e w3 ⟨g, c, cur, rfl, hc1, hc2, s3, hv3⟩
      have S3 := hid s3
      have HV3 := hid hv3
      clear s3 hv3 S2
      obtain ⟨r, hr1, hr2, hr3⟩ := HONE.out.wf.quiet (fun m hm ht => HONE.out.uniq hm ht)
      go_wp2_with fail
      (with_reducible refine (ts_idle S3.out HONE.out.wf hr1 hr2 hr3).mono ?_)
      rintro e w4 ⟨rfl, s4⟩
      have hb3 := S3.out.blk List.mem_cons_self
      have hb4 := s4.blk List.mem_cons_self
      have HV4 := hid (nodesV_keep HV3.out (hb4.trans hb3.symm))
      have S4 := hid s4
      clear s4 hb3 hb4 S3 HV3 hr1 hr2 hr3
      go_wp2_with fail
      (with_reducible refine (ts_nodes S4.out HONE.out.wf HNE.out).mono ?_)
      rintro e w5 ⟨g2, c2, cur2, rfl, hd1', hd2', s5, hv5⟩
      have hb4 := S4.out.blk List.mem_cons_self
      have hb5 := s5.blk (p := (g, .cells cur 45 (0, 0))) (by simp)
      have HV5a := hid (nodesV_keep HV4.out (hb5.trans hb4.symm))
      have HV5b := hid hv5
      have S5 := hid s5
      clear s5 hb4 hb5 hv5 HV4 S4
      have hsame := sameNodes_any HV5a.out HV5b.out
      rw [decide_eq_true rfl] at hsame
      have HSAME := hid hsame
      clear hsame
      go_wp2_with fail
      (with_reducible refine HSAME.out.mono ?_)
      rintro e w6 ⟨rfl, hx6⟩
      have S6 := hid ((S5.out.ext hx6).fewer (fr' := []) fun p hp => by cases hp)
      clear hx6 S5 HSAME HV5a HV5b
      obtain ⟨t, ht1, ht2, ht3, ht4, ht5⟩ := HONE.out.thr
      go_wp2_with fail
      (with_reducible refine (ts_readyI S6.out HONE.out.wf ht1 ht3 true ht2).mono ?_)
      rintro e w7 ⟨rfl, s7⟩
      have S7 : Hid (Inv2 w0 x true w7) := ⟨_, s7, HONE.out.turn true⟩
      clear s7 S6 ht1 ht2 ht3 ht4 ht5 HONE HNE
      go_wp2_with fail
      go_loopw [13] (fun v13 wr => ∃ j : Nat, v13 = .int .i64 j ∧ (j : Int) ≤ n ∧ Hid (Inv2 w0 x true wr)) (fun v13 _ => (n - intOf v13).toNat)
      case atStart => exact ⟨0, rfl, by simpa using hn, S7⟩
      case round =>
        obtain ⟨j, rfl, hj, hinv⟩ := hrel
        clear S7
        obtain ⟨l3, s, hone⟩ := hinv.out
        by_cases hlt2 : (j : Int) < n
        · obtain ⟨r', R, b1, b2, b3, b4, b5, b6⟩ := hone.run
          go_wp2_with fail
          (with_reducible refine (ts_run s hone.wf b1 b2 b3 b4).mono ?_)
          rintro e w8 ⟨rfl, s8⟩
          have HN : Hid (Inv2 w0 x true w8) := ⟨_, s8, b6⟩
          rw [b5]
          clear s s8 hone b1 b2 b3 b4 b5 b6 hinv
          go_wp2
          go_roundw
          case rel => exact ⟨j + 1, by go_num, by omega, HN⟩
          case measure => simp [intOf]; omega
        · obtain ⟨t', ht1, ht2, ht3, ht4, ht5⟩ := hone.thr
          go_wp2_with fail
          (with_reducible refine (ts_readyI s hone.wf ht1 ht3 false ht2).mono ?_)
          rintro e w8 ⟨rfl, s8⟩
          have hone2 := hone.turn false
          obtain ⟨r', b1, b2, b3⟩ := hone2.wf.quiet (fun m hm ht => hone2.uniq hm ht)
          have HID := hid (ts_idle s8 hone2.wf b1 b2 b3)
          clear s s8 hone hone2 b1 b2 b3 ht1 ht2 ht3 ht4 ht5 hinv
          go_wp2_with fail
          (with_reducible refine HID.out.mono ?_)
          rintro e w9 ⟨rfl, s9⟩
          have hx9 := hid s9.xt
          clear s9 HID
          go_wp2
          go_returns
          exact ⟨rfl, hE0.out.trans hx9.out⟩

set_option linter.unusedVariables false in
set_option maxRecDepth 100000 in
theorem lifted (os : Os) (started : os.Started) (H : Type) (enc : TypeId × Value → H) :
    ReturnsInHanded {} Try.checked os 9 .any (Rows.treeNoneSpec.pre6 enc Try.prog Try.f9 Rows.treeNoneRow.domain false) (Rows.treeNoneSpec.post enc Try.prog Try.f9 false true false false) := by
  refine returnsInHanded_of_change (C := Try.checked) Own.own started (by kernel_rfl) Try.func9
    (ChangeSpec.witness6 (enc := enc) (C := Try.checked) false ⟨#[], #[.int .u8 0, .int .u8 0, .int .u8 0], []⟩ 8 (by kernel_rfl) (by kernel_rfl) (by kernel_rfl) (by kernel_rfl)) ?_
  intro W base args ds gs before hval0 hW hcnd _
  have hval : ∀ (j : Nat) t v, Try.f9.params[j]? = some t → args[j]? = some v → Value.okWide Try.prog W .any base t v := hval0
  have hW' := hW
  obtain ⟨p, q, hA0, hV, rfl, hfz, hnd⟩ := hW
  have hA : DataW.TrodAll enc Try.prog W 0 (fun _ => true) true Try.f9.params.toList args.toList ds p := hA0
  rw [Try.params9] at hA hval
  obtain ⟨v0, vs0, d0, ds0, p0, q0, hargs, rfl, rfl, h0, r0⟩ := trodAll_cons hA
  obtain ⟨v1, vs1, d1, ds1, p1, q1, rfl, rfl, rfl, h1, r1⟩ := trodAll_cons r0
  obtain ⟨v2, vs2, d2, ds2, p2, q2, rfl, rfl, rfl, h2, r2⟩ := trodAll_cons r1
  obtain ⟨rfl, rfl, rfl⟩ := trodAll_nil r2
  obtain rfl : args = #[v0, v1, v2] := by cases args; simp_all
  obtain ⟨rfl, rfl⟩ := trodVars_none hV
  have k0 := h0
  have lt0 : ∀ x ∈ p0, x.block < W.heap.size := by obtain ⟨m, hm⟩ := k0; exact DataW.trod_lt m _ _ _ hm
  have k1 := h1
  have lt1 : ∀ x ∈ p1, x.block < W.heap.size := by obtain ⟨m, hm⟩ := k1; exact DataW.trod_lt m _ _ _ hm
  have k2 := h2
  have lt2 : ∀ x ∈ p2, x.block < W.heap.size := by obtain ⟨m, hm⟩ := k2; exact DataW.trod_lt m _ _ _ hm
  obtain ⟨a, rfl, rfl, rfl, wa⟩ := open_int Try.underlying5 (hval 0 5 v0 rfl rfl) h0
  obtain ⟨b, rfl, rfl, rfl, wb⟩ := open_int Try.underlying5 (hval 1 5 v1 rfl rfl) h1
  obtain ⟨n, rfl, rfl, rfl, wn⟩ := open_int Try.underlying5 (hval 2 5 v2 rfl rfl) h2
  have ba := bounds_u8 wa
  have bb := bounds_u8 wb
  have bn := bounds_u8 wn
  clear hA0 hval0
  refine (walk a b n (by omega) (by omega) (by omega) (by omega) (by omega) (by omega) W).mono fun e W' ⟨he, hx⟩ => ?_
  subst he
  exact ⟨_, rfl, _, _, _, [], _, [], hW', trodAll_mk1 (shut_bool Try.underlying4 _), (trodAll_cons_mk (Below.trod Own.laidOut (by kernel_rfl) (of_decide_eq_true (by kernel_rfl)) k0 hx.below lt0) (trodAll_cons_mk (Below.trod Own.laidOut (by kernel_rfl) (of_decide_eq_true (by kernel_rfl)) k1 hx.below lt1) (trodAll_cons_mk (Below.trod Own.laidOut (by kernel_rfl) (of_decide_eq_true (by kernel_rfl)) k2 hx.below lt2) trodAll_mk0))), rfl, hx.below.frame _, fun h => by cases h⟩

theorem proved : Rows.TreeNoneSaid :=
  OpenClaim.holds_of_wide 9 Try.f9 rfl rfl rfl rfl rfl rfl rfl ⟨rfl, rfl, rfl, rfl, rfl⟩ rfl rfl rfl rfl rfl (by kernel_rfl) Try.func9 (by kernel_rfl)
    (of_decide_eq_true (by kernel_rfl)) (by unfold Func.isWrapper; first | (rw [if_pos (by decide +kernel)]; kernel_rfl) | (rw [if_neg (by decide +kernel)]; exact ⟨rfl, rfl⟩))
    (fun os started H enc _ => lifted os started H enc)

end treeNone
end Go.Proofs.Ytfccmdmfllicdaa
