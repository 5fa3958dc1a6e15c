/- TreeLong: of every row of weights, in whatever many rounds: between whole rounds each had just as many quanta as it weighs: the law answers true. No conditions. -/
import Derived.Test.YtfccmdmfllicdaaTm6
import Derived.Test.YtfccmdmfllicdaaTk
import Derived.Test.YtfccmdmfllicdaaOwn2
import Derived.IntWalk
namespace Go.Proofs.Ytfccmdmfllicdaa
open Go.ChangeShapes Go.WideShapes Go.ChangeAt Go.RowKit Go.Joins Go.Deep
set_option linter.unusedSimpArgs false

namespace treeLong
def had8 (h : Nat → Int) : Obj := .cells #[.int .i64 (h 0), .int .i64 (h 1), .int .i64 (h 2), .int .i64 (h 3), .int .i64 (h 4), .int .i64 (h 5), .int .i64 (h 6), .int .i64 (h 7)] 27 (0, 0)
def put1 (h : Nat → Int) (q : Nat) : Nat → Int := fun j => if j = q then h j + 1 else h j
def InvG (w0 : World) (x : Nat) (L : List Int) (i : Nat) (wr : World) : Prop := ∃ l, TSt w0 x l [] wr ∧ Grw l L i
def InvA (w0 : World) (x : Nat) (L : List Int) (i : Nat) (wr : World) : Prop := ∃ l, TSt w0 x (insT (newN l 0 ((i : Int) + 1) (wtL L i) true) l) [] wr ∧ Grw l L i
def InvR (w0 : World) (x : Nat) (L : List Int) (k : Nat) (P : Int) (wr : World) : Prop := ∃ l, TSt w0 x l [] wr ∧ Rnd l L k (fun _ => 0) P
def InvH (w0 : World) (x B : Nat) (L : List Int) (k : Nat) (P : Int) (h h' : Nat → Int) (wr : World) : Prop := ∃ l, TSt w0 x l [(B, had8 h')] wr ∧ Rnd l L k h P
section
variable {w0 w w' : World} {x B k : Nat} {L : List Int} {P : Int} {h h' : Nat → Int}
theorem InvH.blk (i : InvH w0 x B L k P h h' w) : w.heap[B]? = some (had8 h') := by
  obtain ⟨l, s, t⟩ := i
  exact s.blk List.mem_cons_self
theorem InvH.cell (i : InvH w0 x B L k P h h' w) (q : Nat) (hq : q < 8) : w.cell? ⟨B, q, none⟩ = some (.int .i64 (h' q)) ∧ w.frozen? ⟨B, q, none⟩ = false ∧ B < w.heap.size := by
  have b := i.blk
  refine ⟨?_, ?_, lt_blk b⟩
  · have : q = 0 ∨ q = 1 ∨ q = 2 ∨ q = 3 ∨ q = 4 ∨ q = 5 ∨ q = 6 ∨ q = 7 := by omega
    rcases this with rfl | rfl | rfl | rfl | rfl | rfl | rfl | rfl <;> simp [World.cell?, b, had8]
  · simp [World.frozen?, b, had8]
theorem InvH.set (i : InvH w0 x B L k P h h' w) (q : Nat) (hq : q < 8) : InvH w0 x B L k P h (put1 h' q) (w.setCell ⟨B, q, none⟩ (.int .i64 (h' q + 1))) := by
  obtain ⟨l, s, t⟩ := i
  have := s.poke (j := q) (.int .i64 (h' q + 1))
  refine ⟨l, ?_, t⟩
  have hq : q = 0 ∨ q = 1 ∨ q = 2 ∨ q = 3 ∨ q = 4 ∨ q = 5 ∨ q = 6 ∨ q = 7 := by omega
  rcases hq with rfl | rfl | rfl | rfl | rfl | rfl | rfl | rfl <;> simpa [had8, put1] using this
theorem InvR.had (i : InvR w0 x L k P w) : InvH w0 x w.heap.size L k P (fun _ => 0) (fun _ => 0) (w.alloc (had8 fun _ => 0)) := by
  obtain ⟨l, s, t⟩ := i
  exact ⟨l, s.alloc _, t⟩
theorem InvR.xt (i : InvR w0 x L k P w) : Ext w0 w := by
  obtain ⟨l, s, -⟩ := i
  exact s.xt
theorem InvH.xt (i : InvH w0 x B L k P h h' w) : Ext w0 w := by
  obtain ⟨l, s, -⟩ := i
  exact s.xt
theorem InvG.xt {i : Nat} (g : InvG w0 x L i w) : Ext w0 w := by
  obtain ⟨l, s, -⟩ := g
  exact s.xt
theorem InvG.rnd (i : InvG w0 x L k w) : InvR w0 x L k 0 w := by
  obtain ⟨l, s, t⟩ := i
  exact ⟨l, s, t.rnd⟩
theorem InvH.le (i : InvH w0 x B L k P h h' w) (j : Nat) (hj : j < k) : 0 ≤ h (j + 1) ∧ h (j + 1) ≤ wtL L j := by
  obtain ⟨l, s, t⟩ := i
  exact t.le j hj
theorem InvH.whole (i : InvH w0 x B L k P h h' w) (hs : sumF (fun j => h (j + 1)) k = sumF (wtL L) k) : ∀ j, j < k → h (j + 1) = wtL L j := by
  obtain ⟨l, s, t⟩ := i
  exact (t.whole hs).1
theorem InvH.over (i : InvH w0 x B L k P h h' w) (hs : sumF (fun j => h (j + 1)) k = sumF (wtL L) k) : InvR w0 x L k (P + 720720) w := by
  obtain ⟨l, s, t⟩ := i
  exact ⟨l, s.fewer (fun p hp => by cases hp), (t.whole hs).2⟩
theorem InvH.ext (i : InvH w0 x B L k P h h' w) (e : Ext w w') : InvH w0 x B L k P h h' w' := by
  obtain ⟨l, s, t⟩ := i
  exact ⟨l, s.ext e, t⟩
theorem addG {i : Nat} (g : InvG w0 x L i w) (hi : i < 59) (a b : Int) (ha : a = (i : Int) + 1) (hb : b = wtL L i) :
    Calls Try.prog 13 #[.pointer (some ⟨x, 0, none⟩), .int .i64 0, .int .i64 a, .int .i64 b, .bool true] w fun e w' => e = .returned .nilIface ∧ InvA w0 x L i w' := by
  subst ha hb
  obtain ⟨l, s, t⟩ := g
  exact (ts_add s t.wf 1 0 ((i : Int) + 1) (wtL L i) true (by decide) t.wf.up0 (t.add hi)).mono fun e w' h => ⟨h.1, l, h.2, t⟩
theorem rdyG {i : Nat} (g : InvA w0 x L i w) (hi : i < 59) (a : Int) (ha : a = (i : Int) + 1) :
    Calls Try.prog 14 #[.pointer (some ⟨x, 0, none⟩), .int .i64 a, .bool true] w fun e w' => e = .returned .nilIface ∧ InvG w0 x L (i + 1) w' := by
  subst ha
  obtain ⟨l, s, t⟩ := g
  obtain ⟨hw, ⟨n, hn, e1, e2⟩, hg⟩ := t.next hi
  exact (ts_readyI s hw hn e2 true e1).mono fun e w' h => ⟨h.1, _, h.2, hg⟩
theorem runG (g : InvH w0 x B L k P h h' w) (hk : 0 < k) (hs : sumF (fun j => h (j + 1)) k < sumF (wtL L) k) :
    Calls Try.prog 16 #[.pointer (some ⟨x, 0, none⟩)] w fun e w' => ∃ q : Nat, 1 ≤ q ∧ q ≤ k ∧ e = .returned (.tuple #[.int .i64 q, .bool true]) ∧ InvH w0 x B L k P (put1 h q) h' w' ∧ sumF (fun j => put1 h q (j + 1)) k = sumF (fun j => h (j + 1)) k + 1 := by
  obtain ⟨l, s, t⟩ := g
  obtain ⟨r, R, a1, a2, a3, a4, i, hi, hR, t', hsum⟩ := t.run hk hs
  exact (ts_run s t.wf a1 a2 a3 a4).mono fun e w' h => ⟨i + 1, by omega, by omega, by rw [h.1, hR], ⟨_, h.2, t'⟩, hsum⟩
end

theorem sumF_zero : ∀ k : Nat, sumF (fun _ => 0) k = 0
  | 0 => rfl
  | k + 1 => by simp only [sumF]; rw [sumF_zero k]; rfl
theorem u8_bounds {n : Int} (h : (Lit.int .u8 n).wf = true) : 0 ≤ n ∧ n ≤ 255 := by
  have e1 : IntKind.u8.min = 0 := by decide
  have e2 : IntKind.u8.max = 255 := by decide
  simpa [Lit.wf, e1, e2] using h

set_option maxRecDepth 100000 in
set_option linter.unusedVariables false in
set_option maxHeartbeats 8000000 in
theorem walk (v : Value) (L : List Int) (n : Int) (hn0 : 0 ≤ n) (hn1 : n ≤ 255) (w : World) (hL : Nums .u8 w v L) :
    Calls Try.prog 7 #[v, .int .u8 n] w (Yields w (.bool true)) := by
  have hnn := fun w => run_neq_nil_nil' (P := Try.prog) w Try.underlying29
  obtain ⟨p, cap, rfl, hcap, hmax⟩ := hL.shape
  unfold maxLen at hmax
  have HL := hid hL
  clear hL
  have hm1 : 0 ≤ n % 20 := by omega
  have hm2 : n % 20 < 20 := by omega
  go_enter Try.func7, Try.ntmps7
  go_wp2_with fail
  refine (known_any _).yields ?_
  intro p0
  have hE0 := hid (ext_more w p0)
  generalize more w p0 = w0 at *
  by_cases hz : L.length < 1
  · have i1 : (L.length : Int) < 1 := by omega
    go_wp2
    go_returns
    exact ⟨rfl, hE0.out⟩
  by_cases hf : 5 < L.length
  · have i1 : ¬ (L.length : Int) < 1 := by omega
    have i2 : (5 : Int) < (L.length : Int) := by omega
    go_wp2
    go_returns
    exact ⟨rfl, hE0.out⟩
  have i1 : ¬ (L.length : Int) < 1 := by omega
  have i2 : (L.length : Int) ≤ 5 := by omega
  have HLEN : Hid (1 ≤ L.length ∧ L.length ≤ 5) := ⟨by omega, by omega⟩
  clear hz hf
  go_wp2_with fail
  (with_reducible refine (ts_new w0).mono ?_)
  rintro e w1 ⟨x, rfl, s1⟩
  have S1 : Hid (InvG w0 x L 0 w1) := ⟨_, s1, grw_start L⟩
  clear s1
  go_wp2_with fail
  go_loopw [6, 7] (fun v6 v7 wr => ∃ i : Nat, v6 = .int .i64 (sumF (wtL L) i) ∧ v7 = .int .i64 i ∧ i ≤ L.length ∧ Hid (InvG w0 x L i wr)) (fun _ v7 _ => (5 - intOf v7).toNat)
  case atStart => exact ⟨0, rfl, rfl, by omega, S1⟩
  case round =>
    obtain ⟨i, rfl, rfl, hi, hinv⟩ := hrel
    clear S1
    by_cases hlt : i < L.length
    · have j1 : (i : Int) < (L.length : Int) := by omega
      obtain ⟨g, off, rfl, c0, cw⟩ := HL.out.at i hlt
      simp only [Nat.mul_one] at c0
      have c1 := hinv.out.xt.cell (hE0.out.cell c0)
      have hu := u8_bounds cw
      have HW : Hid (L[i] % 16 + 1 = wtL L i) := (wtL_get hlt).symm
      have HS : Hid (sumF (wtL L) i + (L[i] % 16 + 1) = sumF (wtL L) (i + 1)) := by rw [wtL_get hlt |>.symm]; rfl
      have hsb := sumW_bounds L i
      have hub1 := hu.1
      have hub2 := hu.2
      clear c0 cw hu
      generalize L[i] = a at *
      generalize sumF (wtL L) i = sm at *
      go_wp2_with fail
      (with_reducible refine (addG hinv.out (by have := HLEN.out; omega) _ _ rfl HW.out).mono ?_)
      rintro e w2 ⟨rfl, s2⟩
      have S2 := hid s2
      clear s2 hinv c1
      go_wp2_with fail
      (with_reducible refine (rdyG S2.out (by have := HLEN.out; omega) _ rfl).mono ?_)
      rintro e w3 ⟨rfl, s3⟩
      have S3 := hid s3
      clear s3 S2
      go_wp2
      go_roundw
      case rel => exact ⟨i + 1, by rw [HS.out], by go_num, by omega, S3⟩
      case measure => simp [intOf]; omega
    · obtain rfl : i = L.length := by omega
      have S4 : Hid (InvR w0 x L L.length 0 wr) := hinv.out.rnd
      have hsb := sumW_bounds L L.length
      obtain ⟨sm, hsm⟩ : ∃ sm, sm = sumF (wtL L) L.length := ⟨_, rfl⟩
      rw [← hsm] at hsb ⊢
      obtain ⟨M, hM⟩ : ∃ M : Nat, sm = (M : Int) := ⟨sm.toNat, by omega⟩
      subst hM
      have HSM := hid hsm
      clear hinv hlt hsm
      go_wp2_with fail
      go_loopw [9] (fun v9 wr => ∃ (r : Int) (P : Int), v9 = .int .i64 r ∧ 0 ≤ r ∧ r ≤ n % 20 ∧ Hid (InvR w0 x L L.length P wr)) (fun v9 _ => (20 - intOf v9).toNat)
      case atStart => exact ⟨0, 0, rfl, by omega, by omega, S4⟩
      case round =>
        obtain ⟨r, P, rfl, r0, r1, hinv⟩ := hrel
        clear S4
        by_cases hlt : r < n % 20
        · go_wp2_with fail
          have S5 : Hid (InvH w0 x _ L L.length P (fun _ => 0) (fun _ => 0) _) := hinv.out.had
          simp only [had8] at S5
          clear hinv
          generalize wr.heap.size = B at *
          generalize wr.alloc (.cells #[.int .i64 0, .int .i64 0, .int .i64 0, .int .i64 0, .int .i64 0, .int .i64 0, .int .i64 0, .int .i64 0] 27 (0, 0)) = w6 at *
          go_loopw [11] (fun v11 wr => ∃ (i : Nat) (h : Nat → Int), v11 = .int .i64 i ∧ i ≤ M ∧ Hid (InvH w0 x B L L.length P h h wr) ∧ Hid (sumF (fun j => h (j + 1)) L.length = i)) (fun v11 _ => (M - intOf v11).toNat)
          case atStart => exact ⟨0, fun _ => 0, rfl, by omega, S5, (sumF_zero L.length : sumF (fun _ => 0) L.length = _)⟩
          case round =>
            obtain ⟨i, h, rfl, hi, hinv, hsum⟩ := hrel
            clear S5
            by_cases hlt2 : i < M
            · have j1 : (i : Int) < (M : Int) := by omega
              go_wp2_with fail
              (with_reducible refine (runG hinv.out (by have := HLEN.out; omega) (by rw [hsum.out, ← HSM.out]; exact j1)).mono ?_)
              rintro e w7 ⟨q, hq1, hq2, rfl, s7, hs7⟩
              have q1 : ¬ (q : Int) < 1 := by omega
              have q2 : ¬ (L.length : Int) < (q : Int) := by omega
              have q3 : (q : Int) < 8 := by omega
              have hq8 : q < 8 := by omega
              obtain ⟨c1, f1, hB⟩ := s7.cell q hq8
              have hle := s7.le (q - 1) (by omega)
              have hqe : q - 1 + 1 = q := by omega
              rw [hqe] at hle
              have hwb := wtL_bounds L (q - 1)
              simp only [put1, if_true] at hle
              have hh0 : 0 ≤ h q + 1 := hle.1
              have hh1 : h q + 1 ≤ 16 := by omega
              have HN := hid (s7.set q hq8)
              have HS : Hid (sumF (fun j => put1 h q (j + 1)) L.length = ((i + 1 : Nat) : Int)) := by rw [Hid, hs7, hsum.out]; omega
              clear s7 hinv hs7 hle hwb hqe
              generalize h q = hq at *
              go_wp2_with fail
              go_roundw
              case rel => exact ⟨i + 1, put1 h q, by go_num, by omega, HN, HS⟩
              case measure => simp [intOf]; omega
            · obtain rfl : i = M := by omega
              have HEQ : Hid (sumF (fun j => h (j + 1)) L.length = sumF (wtL L) L.length) := by rw [Hid, hsum.out, HSM.out]
              have HV := hid (hinv.out.whole HEQ.out)
              go_wp2_with fail
              go_loopw [14] (fun v14 wr => ∃ (j : Nat), v14 = .int .i64 j ∧ j ≤ L.length ∧ Hid (InvH w0 x B L L.length P h h wr)) (fun v14 _ => (5 - intOf v14).toNat)
              case atStart => exact ⟨0, rfl, by omega, hinv⟩
              case round =>
                obtain ⟨j, rfl, hj, hinv⟩ := hrel
                by_cases hlt3 : j < L.length
                · have j1 : (j : Int) < (L.length : Int) := by omega
                  obtain ⟨g, off, rfl, c0, cw⟩ := HL.out.at j hlt3
                  simp only [Nat.mul_one] at c0
                  have c1 := more_cell (hinv.out.xt.cell (hE0.out.cell c0))
                  obtain ⟨d1, -, hB⟩ := hinv.out.cell (j + 1) (by omega)
                  rw [HV.out j hlt3, wtL_get hlt3] at d1
                  have d2 := more_cell d1
                  have hu := u8_bounds cw
                  have hub1 := hu.1
                  have hub2 := hu.2
                  have k1 : ((j : Int) + 1).toNat = j + 1 := by omega
                  have k2 : (j : Int) + 1 < 8 := by omega
                  have HI := hid hinv
                  clear c0 cw hu hinv d1
                  generalize L[j] = a at *
                  go_wp2_with fail
                  ((first | refine wp_region_more (by kernel_rfl) (by kernel_rfl) ?_ | refine wp_region_ext (by kernel_rfl) (by kernel_rfl) ?_); (try dsimp only [append_cons', append_nil']); (repeat (go_big_quiet_step ((fail)))); refine wpQuiet_nil ?_; rintro _ ⟨pq, rfl⟩)
                  go_wp2
                  go_roundw
                  case rel => exact ⟨j + 1, by go_num, by omega, HI.out.out.ext (ext_more _ _)⟩
                  case measure => simp [intOf]; omega
                · have HO := hid (hinv.out.over HEQ.out)
                  go_wp2
                  go_roundw
                  case rel => exact ⟨r + 1, P + 720720, by go_num, by omega, by omega, HO⟩
                  case measure => simp [intOf]; omega
        · have hx := hid hinv.out.xt
          go_wp2
          go_returns
          exact ⟨rfl, hE0.out.trans hx.out⟩

set_option linter.unusedVariables false in
set_option maxRecDepth 100000 in
theorem lifted (os : Os) (started : os.Started) (H : Type) (enc : TypeId × Value → H) :
    ReturnsInHanded {} Try.checked os 7 .any (Rows.treeLongSpec.pre6 enc Try.prog Try.f7 Rows.treeLongRow.domain false) (Rows.treeLongSpec.post enc Try.prog Try.f7 false true false false) := by
  refine returnsInHanded_of_change (C := Try.checked) Own.own started (by kernel_rfl) Try.func7
    (ChangeSpec.witness6 (enc := enc) (C := Try.checked) false ⟨#[], #[.slice none 0 0, .int .u8 0], []⟩ 8 (by kernel_rfl) (by kernel_rfl) (by kernel_rfl) (by kernel_rfl)) ?_
  intro W base args ds gs before hval0 hW hcnd _
  have hval : ∀ (j : Nat) t v, Try.f7.params[j]? = some t → args[j]? = some v → Value.okWide Try.prog W .any base t v := hval0
  have hW' := hW
  obtain ⟨p, q, hA0, hV, rfl, hfz, hnd⟩ := hW
  have hA : DataW.TrodAll enc Try.prog W 0 (fun _ => true) true Try.f7.params.toList args.toList ds p := hA0
  rw [Try.params7] at hA hval
  obtain ⟨v0, vs0, d0, ds0, p0, q0, hargs, rfl, rfl, h0, r0⟩ := trodAll_cons hA
  obtain ⟨v1, vs1, d1, ds1, p1, q1, rfl, rfl, rfl, h1, r1⟩ := trodAll_cons r0
  obtain ⟨rfl, rfl, rfl⟩ := trodAll_nil r1
  obtain rfl : args = #[v0, v1] := by cases args; simp_all
  obtain ⟨rfl, rfl⟩ := trodVars_none hV
  have k0 := h0
  have lt0 : ∀ x ∈ p0, x.block < W.heap.size := by obtain ⟨m, hm⟩ := k0; exact DataW.trod_lt m _ _ _ hm
  have k1 := h1
  have lt1 : ∀ x ∈ p1, x.block < W.heap.size := by obtain ⟨m, hm⟩ := k1; exact DataW.trod_lt m _ _ _ hm
  obtain ⟨a0, len0, cap0, rfl⟩ := okWide_slice Try.underlying22 (hval 0 22 v0 rfl rfl)
  obtain ⟨l, hl⟩ := Own.open_nums Try.underlying22 Try.underlying5 (by kernel_rfl) h0
  obtain ⟨n, rfl, rfl, rfl, wn⟩ := open_int Try.underlying5 (hval 1 5 v1 rfl rfl) h1
  have bn := bounds_u8 wn
  clear hA0 hval0
  refine (walk _ l n (by omega) (by omega) W hl).mono fun e W' ⟨he, hx⟩ => ?_
  subst he
  exact ⟨_, rfl, _, _, _, [], _, [], hW', trodAll_mk1 (shut_bool Try.underlying4 _), (trodAll_cons_mk (Below.trod Own.laidOut (by kernel_rfl) (of_decide_eq_true (by kernel_rfl)) k0 hx.below lt0) (trodAll_cons_mk (Below.trod Own.laidOut (by kernel_rfl) (of_decide_eq_true (by kernel_rfl)) k1 hx.below lt1) trodAll_mk0)), rfl, hx.below.frame _, fun h => by cases h⟩

theorem proved : Rows.TreeLongSaid :=
  OpenClaim.holds_of_wide 7 Try.f7 rfl rfl rfl rfl rfl rfl rfl ⟨rfl, rfl, rfl, rfl, rfl⟩ rfl rfl rfl rfl rfl (by kernel_rfl) Try.func7 (by kernel_rfl)
    (of_decide_eq_true (by kernel_rfl)) (by unfold Func.isWrapper; first | (rw [if_pos (by decide +kernel)]; kernel_rfl) | (rw [if_neg (by decide +kernel)]; exact ⟨rfl, rfl⟩))
    (fun os started H enc _ => lifted os started H enc)

end treeLong
end Go.Proofs.Ytfccmdmfllicdaa
