/- TreeShares: of every two weights of groups, with whatever threads in them: the groups are parted as threads are: the law answers true. No conditions. -/
import Derived.Test.YtfccmdmfllicdaaTm7
import Derived.Test.YtfccmdmfllicdaaTk
import Derived.Test.YtfccmdmfllicdaaOwn2
import Derived.IntWalk
namespace Go.Proofs.Ytfccmdmfllicdaa
open Go.ChangeShapes Go.WideShapes Go.ChangeAt Go.RowKit Go.Joins Go.Deep
set_option linter.unusedSimpArgs false

namespace treeShares
def hadV (h k : Int) : Obj := .cells #[.int .i64 0, .int .i64 h, .int .i64 k] 48 (0, 0)
def InvG (w0 : World) (tx : Nat) (x y : Int) (i : Nat) (wr : World) : Prop := ∃ l, TSt w0 tx l [] wr ∧ Gs l x y i
def InvA (w0 : World) (tx : Nat) (x y : Int) (i : Nat) (wt : Int) (wr : World) : Prop := ∃ l, TSt w0 tx (insT (newN l (1 + (i : Int) % 2) (10 + (i : Int)) wt true) l) [] wr ∧ Gs l x y i
def InvT (w0 : World) (tx : Nat) (x y : Int) (N : Nat) (wr : World) : Prop := ∃ l P Q, TSt w0 tx l [] wr ∧ Shr l x y N P Q 0 0
def InvH (w0 : World) (tx B : Nat) (x y : Int) (N : Nat) (h k h' k' : Int) (wr : World) : Prop := ∃ l P Q, TSt w0 tx l [(B, hadV h' k')] wr ∧ Shr l x y N P Q h k
section
variable {w0 w w' : World} {tx B N : Nat} {x y h k h' k' : Int}
theorem InvG.xt {i : Nat} (g : InvG w0 tx x y i w) : Ext w0 w := by
  obtain ⟨l, s, -⟩ := g
  exact s.xt
theorem InvG.all (g : InvG w0 tx x y N w) (hN : 2 ≤ N) : InvT w0 tx x y N w := by
  obtain ⟨l, s, t⟩ := g
  obtain ⟨P, Q, t⟩ := t.shr hN
  exact ⟨l, P, Q, s, t⟩
theorem InvH.xt (i : InvH w0 tx B x y N h k h' k' w) : Ext w0 w := by
  obtain ⟨l, P, Q, s, -⟩ := i
  exact s.xt
theorem InvH.ext (i : InvH w0 tx B x y N h k h' k' w) (e : Ext w w') : InvH w0 tx B x y N h k h' k' w' := by
  obtain ⟨l, P, Q, s, t⟩ := i
  exact ⟨l, P, Q, s.ext e, t⟩
theorem InvH.fair (i : InvH w0 tx B x y N h k h' k' w) (hh : 0 ≤ h ∧ h ≤ 1048576) (hk : 0 ≤ k ∧ k ≤ 1048576) : fairW h x k y = true := by
  obtain ⟨l, P, Q, -, t⟩ := i
  exact t.fair hh hk
theorem InvH.blk (i : InvH w0 tx B x y N h k h' k' w) : w.heap[B]? = some (hadV h' k') := by
  obtain ⟨l, P, Q, s, t⟩ := i
  exact s.blk List.mem_cons_self
theorem InvH.cells (i : InvH w0 tx B x y N h k h' k' w) : w.cell? ⟨B, 1, none⟩ = some (.int .i64 h') ∧ w.cell? ⟨B, 2, none⟩ = some (.int .i64 k') ∧ w.frozen? ⟨B, 1, none⟩ = false ∧ w.frozen? ⟨B, 2, none⟩ = false ∧ B < w.heap.size := by
  have b := i.blk
  unfold hadV at b
  exact ⟨by simp [World.cell?, b], by simp [World.cell?, b], by simp [World.frozen?, b], by simp [World.frozen?, b], lt_blk b⟩
theorem InvH.set1 (i : InvH w0 tx B x y N h k h' k' w) (u : Int) : InvH w0 tx B x y N h k u k' (w.setCell ⟨B, 1, none⟩ (.int .i64 u)) := by
  obtain ⟨l, P, Q, s, t⟩ := i
  exact ⟨l, P, Q, s.poke (j := 1) (.int .i64 u), t⟩
theorem InvH.set2 (i : InvH w0 tx B x y N h k h' k' w) (u : Int) : InvH w0 tx B x y N h k h' u (w.setCell ⟨B, 2, none⟩ (.int .i64 u)) := by
  obtain ⟨l, P, Q, s, t⟩ := i
  exact ⟨l, P, Q, s.poke (j := 2) (.int .i64 u), t⟩
theorem InvT.had (i : InvT w0 tx x y N w) : InvH w0 tx w.heap.size x y N 0 0 0 0 (w.alloc (hadV 0 0)) := by
  obtain ⟨l, P, Q, s, t⟩ := i
  exact ⟨l, P, Q, s.alloc _, t⟩
theorem addS1 (h : TSt w0 tx [rootN] [] w) (hx : isW x = true) :
    Calls Try.prog 13 #[.pointer (some ⟨tx, 0, none⟩), .int .i64 0, .int .i64 1, .int .i64 x, .bool false] w fun e w' => e = .returned .nilIface ∧ TSt w0 tx [rt0, grN 1 x] [] w' := by
  obtain ⟨a, b, c⟩ := gs_add1 hx
  exact (ts_add h rootN_wf 1 0 1 x false (by decide) c a).mono fun e w' h => ⟨h.1, by rw [← b]; exact h.2⟩
theorem addS2 (h : TSt w0 tx [rt0, grN 1 x] [] w) (hx : isW x = true) (hy : isW y = true) :
    Calls Try.prog 13 #[.pointer (some ⟨tx, 0, none⟩), .int .i64 0, .int .i64 2, .int .i64 y, .bool false] w fun e w' => e = .returned .nilIface ∧ InvG w0 tx x y 0 w' := by
  obtain ⟨a, b⟩ := gs_add2 hx hy
  exact (ts_add h (gs_wf1 hx) 1 0 2 y false (by decide) (gs_wf1 hx).up0 a).mono fun e w' h => ⟨h.1, _, h.2, by rw [b]; exact gs_start hx hy⟩
theorem addS {i : Nat} (g : InvG w0 tx x y i w) (hi : i < 50) (p a b : Int) (hp : p = 1 + (i : Int) % 2) (ha : a = 10 + (i : Int)) (hb : isW b = true) :
    Calls Try.prog 13 #[.pointer (some ⟨tx, 0, none⟩), .int .i64 p, .int .i64 a, .int .i64 b, .bool true] w fun e w' => e = .returned .nilIface ∧ InvA w0 tx x y i b w' := by
  subst ha hp
  obtain ⟨l, s, t⟩ := g
  exact (ts_add s t.wf 2 (1 + (i : Int) % 2) (10 + (i : Int)) b true (by decide) (t.up _ (by omega)).1 (t.add hi hb)).mono fun e w' h => ⟨h.1, l, h.2, t⟩
theorem rdyS {i : Nat} {b : Int} (g : InvA w0 tx x y i b w) (hi : i < 50) (a : Int) (ha : a = 10 + (i : Int)) (hb : isW b = true) :
    Calls Try.prog 14 #[.pointer (some ⟨tx, 0, none⟩), .int .i64 a, .bool true] w fun e w' => e = .returned .nilIface ∧ InvG w0 tx x y (i + 1) w' := by
  subst ha
  obtain ⟨l, s, t⟩ := g
  obtain ⟨hw, ⟨n, hn, e1, e2⟩, hg⟩ := t.next hi hb
  exact (ts_readyI s hw hn e2 true e1).mono fun e w' h => ⟨h.1, _, h.2, hg⟩
theorem runS (i : InvH w0 tx B x y N h k h' k' w) :
    Calls Try.prog 16 #[.pointer (some ⟨tx, 0, none⟩)] w fun e w' => ∃ id : Int, 10 ≤ id ∧ id < 10 + N ∧ e = .returned (.tuple #[.int .i64 id, .bool true]) ∧ ((id - 10) % 2 = 0 ∧ InvH w0 tx B x y N (h + 1) k h' k' w' ∨ (id - 10) % 2 = 1 ∧ InvH w0 tx B x y N h (k + 1) h' k' w') := by
  obtain ⟨l, P, Q, s, t⟩ := i
  obtain ⟨r, R, a1, a2, a3, a4, j, hj, e1, a5⟩ := t.run
  refine (ts_run s t.wf a1 a2 a3 a4).mono fun e w' h => ⟨R.1, by omega, by omega, h.1, ?_⟩
  rcases a5 with ⟨e2, a5⟩ | ⟨e2, a5⟩
  · exact .inl ⟨by omega, _, P, Q, h.2, a5⟩
  · exact .inr ⟨by omega, _, P, Q, h.2, a5⟩
end
theorem fair_to {n a m b : Int} {r : Bool} (e : fairW n a m b = r) (w : World) : Calls Try.prog 17 #[.int .i64 n, .int .i64 a, .int .i64 m, .int .i64 b] w (Yields w (.bool r)) := e ▸ rfair_any n a m b w
theorem u8_bounds {n : Int} (h : (Lit.int .u8 n).wf = true) : 0 ≤ n ∧ n ≤ 255 := by
  have e1 : IntKind.u8.min = 0 := by decide
  have e2 : IntKind.u8.max = 255 := by decide
  simpa [Lit.wf, e1, e2] using h

set_option maxRecDepth 100000 in
set_option linter.unusedVariables false in
set_option maxHeartbeats 8000000 in
theorem walk (a b : Int) (v : Value) (L : List Int) (n : Int) (ha1 : 0 ≤ a) (ha2 : a ≤ 255) (hb1 : 0 ≤ b) (hb2 : b ≤ 255) (hn0 : 0 ≤ n) (hn1 : n ≤ 65535) (w : World) (hL : Nums .u8 w v L) :
    Calls Try.prog 5 #[.int .u8 a, .int .u8 b, v, .int .u16 n] w (Yields w (.bool true)) := by
  have hnn := fun w => run_neq_nil_nil' (P := Try.prog) w Try.underlying29
  obtain ⟨p, cap, rfl, hcap, hmax⟩ := hL.shape
  unfold maxLen at hmax
  have HL := hid hL
  clear hL
  have hm1 : 0 ≤ a % 16 := by omega
  have hm2 : a % 16 < 16 := by omega
  have hm3 : 0 ≤ b % 16 := by omega
  have hm4 : b % 16 < 16 := by omega
  have hm5 : 0 ≤ n % 300 := by omega
  have hm6 : n % 300 < 300 := by omega
  have HX : Hid (isW (a % 16 + 1) = true) := isW_iff.2 ⟨by omega, by omega⟩
  have HY : Hid (isW (b % 16 + 1) = true) := isW_iff.2 ⟨by omega, by omega⟩
  go_enter Try.func5, Try.ntmps5
  go_wp2_with fail
  refine (known_any _).yields ?_
  intro p0
  have hE0 := hid (ext_more w p0)
  generalize more w p0 = w0 at *
  by_cases hz : L.length < 2
  · have i1 : (L.length : Int) < 2 := by omega
    go_wp2
    go_returns
    exact ⟨rfl, hE0.out⟩
  by_cases hf : 8 < L.length
  · have i1 : ¬ (L.length : Int) < 2 := by omega
    have i2 : (8 : Int) < (L.length : Int) := by omega
    go_wp2
    go_returns
    exact ⟨rfl, hE0.out⟩
  have i1 : ¬ (L.length : Int) < 2 := by omega
  have i2 : (L.length : Int) ≤ 8 := by omega
  have HLEN : Hid (2 ≤ L.length ∧ L.length ≤ 8) := ⟨by omega, by omega⟩
  clear hz hf
  go_wp2_with fail
  (with_reducible refine (ts_new w0).mono ?_)
  rintro e w1 ⟨x, rfl, s1⟩
  have S1 := hid s1
  clear s1
  go_wp2_with fail
  (with_reducible refine (addS1 S1.out HX.out).mono ?_)
  rintro e w2 ⟨rfl, s2⟩
  have S2 := hid s2
  clear s2 S1
  go_wp2_with fail
  (with_reducible refine (addS2 S2.out HX.out HY.out).mono ?_)
  rintro e w3 ⟨rfl, s3⟩
  have S3 := hid s3
  clear s3 S2
  go_wp2_with fail
  go_loopw [12] (fun v12 wr => ∃ i : Nat, v12 = .int .i64 i ∧ i ≤ L.length ∧ Hid (InvG w0 x (a % 16 + 1) (b % 16 + 1) i wr)) (fun v12 _ => (8 - intOf v12).toNat)
  case atStart => exact ⟨0, rfl, by omega, S3⟩
  case round =>
    obtain ⟨i, rfl, hi, hinv⟩ := hrel
    clear S3
    by_cases hlt : i < L.length
    · have j1 : (i : Int) < (L.length : Int) := by omega
      obtain ⟨g, off, rfl, c0, cw⟩ := HL.out.at i hlt
      simp only [Nat.mul_one] at c0
      have c1 := hinv.out.xt.cell (hE0.out.cell c0)
      have hu := u8_bounds cw
      have hub1 := hu.1
      have hub2 := hu.2
      have HW : Hid (isW (L[i] % 16 + 1) = true) := isW_iff.2 ⟨by omega, by omega⟩
      clear c0 cw hu
      generalize L[i] = c at *
      go_wp2_with fail
      (with_reducible refine (addS hinv.out (by have := HLEN.out; omega) _ _ _ rfl rfl HW.out).mono ?_)
      rintro e w4 ⟨rfl, s4⟩
      have S4 := hid s4
      clear s4 hinv c1
      go_wp2_with fail
      (with_reducible refine (rdyS S4.out (by have := HLEN.out; omega) _ rfl HW.out).mono ?_)
      rintro e w5 ⟨rfl, s5⟩
      have S5 := hid s5
      clear s5 S4
      go_wp2
      go_roundw
      case rel => exact ⟨i + 1, by go_num, by omega, S5⟩
      case measure => simp [intOf]; omega
    · obtain rfl : i = L.length := by omega
      have S5 := hid (hinv.out.all HLEN.out.1)
      clear hinv hlt
      go_wp2_with fail
      have S6 : Hid (InvH w0 x wr.heap.size (a % 16 + 1) (b % 16 + 1) L.length 0 0 0 0 (wr.alloc (.cells #[.int .i64 0, .int .i64 0, .int .i64 0] 48 (0, 0)))) := S5.out.had
      clear S5
      generalize wr.heap.size = B at *
      generalize wr.alloc (.cells #[.int .i64 0, .int .i64 0, .int .i64 0] 48 (0, 0)) = w6 at *
      go_wp2_with fail
      go_loopw [15] (fun v15 wr => ∃ i h k : Int, v15 = .int .i64 i ∧ 0 ≤ i ∧ i ≤ n % 300 ∧ 0 ≤ h ∧ h ≤ i ∧ 0 ≤ k ∧ k ≤ i ∧ Hid (InvH w0 x B (a % 16 + 1) (b % 16 + 1) L.length h k h k wr)) (fun v15 _ => (2000 - intOf v15).toNat)
      case atStart => exact ⟨0, 0, 0, rfl, by omega, by omega, by omega, by omega, by omega, by omega, S6⟩
      case round =>
        obtain ⟨i, h, k, rfl, g0, g1, g2, g3, g4, g5, hinv⟩ := hrel
        clear S6
        by_cases hlt2 : i < n % 300
        · go_wp2_with fail
          (with_reducible refine (runS hinv.out).mono ?_)
          rintro e w7 ⟨id, hd1, hd2, rfl, ⟨hd3, s7⟩ | ⟨hd3, s7⟩⟩
          · obtain ⟨c1, c2, f1, f2, hB⟩ := s7.cells
            have hd4 : ¬ 10 + (L.length : Int) ≤ id := by omega
            have hd5 : ¬ id < 10 := by omega
            have hd6 : 0 ≤ id - 10 := by omega
            have HN := hid (s7.set1 (h + 1))
            have HF := hid (s7.fair (by omega) (by omega))
            clear s7 hinv
            go_wp2_with fail
            generalize w7.setCell ⟨B, 1, none⟩ (.int .i64 (h + 1)) = w8 at *
            clear c1 c2 f1 f2 hB
            refine (fair_to HF.out _).yields ?_
            intro p1
            go_wp2
            go_roundw
            case rel => exact ⟨i + 1, h + 1, k, by go_num, by omega, by omega, by omega, by omega, by omega, by omega, HN.out.ext (ext_more _ _)⟩
            case measure => simp [intOf]; omega
          · obtain ⟨c1, c2, f1, f2, hB⟩ := s7.cells
            have hd4 : ¬ 10 + (L.length : Int) ≤ id := by omega
            have hd5 : ¬ id < 10 := by omega
            have hd6 : 0 ≤ id - 10 := by omega
            have HN := hid (s7.set2 (k + 1))
            have HF := hid (s7.fair (by omega) (by omega))
            clear s7 hinv
            go_wp2_with fail
            generalize w7.setCell ⟨B, 2, none⟩ (.int .i64 (k + 1)) = w8 at *
            clear c1 c2 f1 f2 hB
            refine (fair_to HF.out _).yields ?_
            intro p1
            go_wp2
            go_roundw
            case rel => exact ⟨i + 1, h, k + 1, by go_num, by omega, by omega, by omega, by omega, by omega, by omega, HN.out.ext (ext_more _ _)⟩
            case measure => simp [intOf]; omega
        · have hx := hid hinv.out.xt
          go_wp2
          go_returns
          exact ⟨rfl, hE0.out.trans hx.out⟩

set_option linter.unusedVariables false in
set_option maxRecDepth 100000 in
theorem lifted (os : Os) (started : os.Started) (H : Type) (enc : TypeId × Value → H) :
    ReturnsInHanded {} Try.checked os 5 .any (Rows.treeSharesSpec.pre6 enc Try.prog Try.f5 Rows.treeSharesRow.domain false) (Rows.treeSharesSpec.post enc Try.prog Try.f5 false true false false) := by
  refine returnsInHanded_of_change (C := Try.checked) Own.own started (by kernel_rfl) Try.func5
    (ChangeSpec.witness6 (enc := enc) (C := Try.checked) false ⟨#[], #[.int .u8 0, .int .u8 0, .slice none 0 0, .int .u16 0], []⟩ 8 (by kernel_rfl) (by kernel_rfl) (by kernel_rfl) (by kernel_rfl)) ?_
  intro W base args ds gs before hval0 hW hcnd _
  have hval : ∀ (j : Nat) t v, Try.f5.params[j]? = some t → args[j]? = some v → Value.okWide Try.prog W .any base t v := hval0
  have hW' := hW
  obtain ⟨p, q, hA0, hV, rfl, hfz, hnd⟩ := hW
  have hA : DataW.TrodAll enc Try.prog W 0 (fun _ => true) true Try.f5.params.toList args.toList ds p := hA0
  rw [Try.params5] at hA hval
  obtain ⟨v0, vs0, d0, ds0, p0, q0, hargs, rfl, rfl, h0, r0⟩ := trodAll_cons hA
  obtain ⟨v1, vs1, d1, ds1, p1, q1, rfl, rfl, rfl, h1, r1⟩ := trodAll_cons r0
  obtain ⟨v2, vs2, d2, ds2, p2, q2, rfl, rfl, rfl, h2, r2⟩ := trodAll_cons r1
  obtain ⟨v3, vs3, d3, ds3, p3, q3, rfl, rfl, rfl, h3, r3⟩ := trodAll_cons r2
  obtain ⟨rfl, rfl, rfl⟩ := trodAll_nil r3
  obtain rfl : args = #[v0, v1, v2, v3] := by cases args; simp_all
  obtain ⟨rfl, rfl⟩ := trodVars_none hV
  have k0 := h0
  have lt0 : ∀ x ∈ p0, x.block < W.heap.size := by obtain ⟨m, hm⟩ := k0; exact DataW.trod_lt m _ _ _ hm
  have k1 := h1
  have lt1 : ∀ x ∈ p1, x.block < W.heap.size := by obtain ⟨m, hm⟩ := k1; exact DataW.trod_lt m _ _ _ hm
  have k2 := h2
  have lt2 : ∀ x ∈ p2, x.block < W.heap.size := by obtain ⟨m, hm⟩ := k2; exact DataW.trod_lt m _ _ _ hm
  have k3 := h3
  have lt3 : ∀ x ∈ p3, x.block < W.heap.size := by obtain ⟨m, hm⟩ := k3; exact DataW.trod_lt m _ _ _ hm
  obtain ⟨a, rfl, rfl, rfl, wa⟩ := open_int Try.underlying5 (hval 0 5 v0 rfl rfl) h0
  obtain ⟨b, rfl, rfl, rfl, wb⟩ := open_int Try.underlying5 (hval 1 5 v1 rfl rfl) h1
  obtain ⟨a0, len0, cap0, rfl⟩ := okWide_slice Try.underlying22 (hval 2 22 v2 rfl rfl)
  obtain ⟨l, hl⟩ := Own.open_nums Try.underlying22 Try.underlying5 (by kernel_rfl) h2
  obtain ⟨n, rfl, rfl, rfl, wn⟩ := open_int Try.underlying23 (hval 3 23 v3 rfl rfl) h3
  have ba := bounds_u8 wa
  have bb := bounds_u8 wb
  have bn := bounds_u16 wn
  clear hA0 hval0
  refine (walk a b _ l n (by omega) (by omega) (by omega) (by omega) (by omega) (by omega) W hl).mono fun e W' ⟨he, hx⟩ => ?_
  subst he
  exact ⟨_, rfl, _, _, _, [], _, [], hW', trodAll_mk1 (shut_bool Try.underlying4 _), (trodAll_cons_mk (Below.trod Own.laidOut (by kernel_rfl) (of_decide_eq_true (by kernel_rfl)) k0 hx.below lt0) (trodAll_cons_mk (Below.trod Own.laidOut (by kernel_rfl) (of_decide_eq_true (by kernel_rfl)) k1 hx.below lt1) (trodAll_cons_mk (Below.trod Own.laidOut (by kernel_rfl) (of_decide_eq_true (by kernel_rfl)) k2 hx.below lt2) (trodAll_cons_mk (Below.trod Own.laidOut (by kernel_rfl) (of_decide_eq_true (by kernel_rfl)) k3 hx.below lt3) trodAll_mk0)))), rfl, hx.below.frame _, fun h => by cases h⟩

theorem proved : Rows.TreeSharesSaid :=
  OpenClaim.holds_of_wide 5 Try.f5 rfl rfl rfl rfl rfl rfl rfl ⟨rfl, rfl, rfl, rfl, rfl⟩ rfl rfl rfl rfl rfl (by kernel_rfl) Try.func5 (by kernel_rfl)
    (of_decide_eq_true (by kernel_rfl)) (by unfold Func.isWrapper; first | (rw [if_pos (by decide +kernel)]; kernel_rfl) | (rw [if_neg (by decide +kernel)]; exact ⟨rfl, rfl⟩))
    (fun os started H enc _ => lifted os started H enc)

end treeShares
end Go.Proofs.Ytfccmdmfllicdaa
