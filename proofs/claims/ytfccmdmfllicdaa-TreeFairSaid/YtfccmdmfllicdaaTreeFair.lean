/- TreeFair: of every row of weights, whatever others beside them do, however often: each two have had their shares at each time: the law answers true. No conditions. -/
import Derived.Test.YtfccmdmfllicdaaTm7
import Derived.Test.YtfccmdmfllicdaaTk
import Derived.Test.YtfccmdmfllicdaaOwn2
import Derived.IntWalk
import Derived.Laws.Closers25b
namespace Go.Proofs.Ytfccmdmfllicdaa
open Go.ChangeShapes Go.WideShapes Go.ChangeAt Go.RowKit Go.Joins Go.Deep
set_option linter.unusedSimpArgs false

namespace treeFair
def had8 (h : Nat → Int) : Obj := .cells #[.int .i64 (h 0), .int .i64 (h 1), .int .i64 (h 2), .int .i64 (h 3), .int .i64 (h 4), .int .i64 (h 5), .int .i64 (h 6), .int .i64 (h 7)] 27 (0, 0)
def put1 (h : Nat → Int) (q : Nat) : Nat → Int := fun j => if j = q then h j + 1 else h j
def InvG (w0 : World) (x B : Nat) (L : List Int) (i : Nat) (wr : World) : Prop := ∃ l, TSt w0 x l [(B, had8 fun _ => 0)] wr ∧ Grw l L i
def InvA (w0 : World) (x B : Nat) (L : List Int) (i : Nat) (wr : World) : Prop := ∃ l, TSt w0 x (insT (newN l 0 ((i : Int) + 1) (wtL L i) true) l) [(B, had8 fun _ => 0)] wr ∧ Grw l L i
def InvB (w0 : World) (x B : Nat) (L : List Int) (k : Nat) (wr : World) : Prop := ∃ l, TSt w0 x l [(B, had8 fun _ => 0)] wr ∧ Far l L k (fun _ => 0) ∧ l.length = k + 2 ∧ ∀ n ∈ l, n.id ≤ 20
def InvC (w0 : World) (x B : Nat) (L : List Int) (k : Nat) (wr : World) : Prop := ∃ l, TSt w0 x l [(B, had8 fun _ => 0)] wr ∧ Far l L k (fun _ => 0) ∧ l.length = k + 3 ∧ (∀ n ∈ l, n.id ≤ 21) ∧ Up l 2 21 ∧ ∃ p ∈ l, p.id = 21 ∧ p.thr = false
def InvF (w0 : World) (x B : Nat) (L : List Int) (k : Nat) (h h' : Nat → Int) (wr : World) : Prop := ∃ l, TSt w0 x l [(B, had8 h')] wr ∧ Far l L k h
section
variable {w0 w w' : World} {x B k : Nat} {L : List Int} {h h' : Nat → Int}
theorem start (s : TSt w0 x [rootN] [] w) (L : List Int) : InvG w0 x w.heap.size L 0 (w.alloc (had8 fun _ => 0)) := ⟨_, s.alloc _, grw_start L⟩
theorem InvG.xt {i : Nat} (g : InvG w0 x B L i w) : Ext w0 w := by
  obtain ⟨l, s, -⟩ := g
  exact s.xt
theorem InvF.xt (g : InvF w0 x B L k h h' w) : Ext w0 w := by
  obtain ⟨l, s, -⟩ := g
  exact s.xt
theorem InvF.ext (g : InvF w0 x B L k h h' w) (e : Ext w w') : InvF w0 x B L k h h' w' := by
  obtain ⟨l, s, t⟩ := g
  exact ⟨l, s.ext e, t⟩
theorem InvF.blk (i : InvF w0 x B L k h h' w) : w.heap[B]? = some (had8 h') := by
  obtain ⟨l, s, t⟩ := i
  exact s.blk List.mem_cons_self
theorem InvF.cell (i : InvF w0 x B L k h h' w) (q : Nat) (hq : q < 8) : w.cell? ⟨B, q, none⟩ = some (.int .i64 (h' q)) ∧ w.frozen? ⟨B, q, none⟩ = false ∧ B < w.heap.size := by
  have b := i.blk
  refine ⟨?_, ?_, lt_blk b⟩
  · have : q = 0 ∨ q = 1 ∨ q = 2 ∨ q = 3 ∨ q = 4 ∨ q = 5 ∨ q = 6 ∨ q = 7 := by omega
    rcases this with rfl | rfl | rfl | rfl | rfl | rfl | rfl | rfl <;> simp [World.cell?, b, had8]
  · simp [World.frozen?, b, had8]
theorem InvF.set (i : InvF w0 x B L k h h' w) (q : Nat) (hq : q < 8) : InvF w0 x B L k h (put1 h' q) (w.setCell ⟨B, q, none⟩ (.int .i64 (h' q + 1))) := by
  obtain ⟨l, s, t⟩ := i
  have := s.poke (j := q) (.int .i64 (h' q + 1))
  refine ⟨l, ?_, t⟩
  have hq : q = 0 ∨ q = 1 ∨ q = 2 ∨ q = 3 ∨ q = 4 ∨ q = 5 ∨ q = 6 ∨ q = 7 := by omega
  rcases hq with rfl | rfl | rfl | rfl | rfl | rfl | rfl | rfl <;> simpa [had8, put1] using this
theorem InvF.fair (i : InvF w0 x B L k h h' w) {a b : Nat} (ha : a < k) (hb : b < k) (h1 : 0 ≤ h (a + 1) ∧ h (a + 1) ≤ 1048576) (h2 : 0 ≤ h (b + 1) ∧ h (b + 1) ≤ 1048576) : fairW (h (a + 1)) (wtL L a) (h (b + 1)) (wtL L b) = true := by
  obtain ⟨l, s, t⟩ := i
  exact t.fair ha hb h1 h2
theorem InvF.other {k' : Nat} (i : InvF w0 x B L k (put1 h k') h' w) (hk : k < k') : InvF w0 x B L k h h' w := by
  obtain ⟨l, s, t⟩ := i
  obtain ⟨hw, B', hc⟩ := t
  refine ⟨l, s, hw, B', fun j hj => ?_⟩
  have := hc j hj
  simp only [put1] at this
  rwa [if_neg (by omega)] at this
theorem addG {i : Nat} (g : InvG w0 x B L i w) (hi : i < 59) (a b : Int) (ha : a = (i : Int) + 1) (hb : b = wtL L i) :
    Calls Try.prog 13 #[.pointer (some ⟨x, 0, none⟩), .int .i64 0, .int .i64 a, .int .i64 b, .bool true] w fun e w' => e = .returned .nilIface ∧ InvA w0 x B L i w' := by
  subst ha hb
  obtain ⟨l, s, t⟩ := g
  exact (ts_add s t.wf 1 0 ((i : Int) + 1) (wtL L i) true (by decide) t.wf.up0 (t.add hi)).mono fun e w' h => ⟨h.1, l, h.2, t⟩
theorem rdyG {i : Nat} (g : InvA w0 x B L i w) (hi : i < 59) (a : Int) (ha : a = (i : Int) + 1) :
    Calls Try.prog 14 #[.pointer (some ⟨x, 0, none⟩), .int .i64 a, .bool true] w fun e w' => e = .returned .nilIface ∧ InvG w0 x B L (i + 1) w' := by
  subst ha
  obtain ⟨l, s, t⟩ := g
  obtain ⟨hw, ⟨n, hn, e1, e2⟩, hg⟩ := t.next hi
  exact (ts_readyI s hw hn e2 true e1).mono fun e w' h => ⟨h.1, _, h.2, hg⟩
theorem add20 (g : InvG w0 x B L k w) (hk : k ≤ 6) :
    Calls Try.prog 13 #[.pointer (some ⟨x, 0, none⟩), .int .i64 0, .int .i64 20, .int .i64 7, .bool true] w fun e w' => e = .returned .nilIface ∧ InvB w0 x B L k w' := by
  obtain ⟨l, s, t⟩ := g
  obtain ⟨r, hr, hr0, -, hrt⟩ := t.wf.root
  have hac : addC l 1 0 20 7 true = 0 := addC_zero rfl (by omega) t.wf.sk.ids hr hr0 hrt (getU_none.2 fun n hn e => by have := t.ids n hn; omega) (fun h => by cases h) (by have := t.len; omega)
  refine (ts_add s t.wf 1 0 20 7 true (by decide) t.wf.up0 hac).mono fun e w' h => ⟨h.1, _, h.2, t.far.ins hac t.wf.up0, by rw [insT_length, t.len], fun n hn => ?_⟩
  rcases mem_insT.1 hn with rfl | hn
  · exact Int.le_refl 20
  · have := t.ids n hn; omega
theorem add21 (g : InvB w0 x B L k w) (hk : k ≤ 6) :
    Calls Try.prog 13 #[.pointer (some ⟨x, 0, none⟩), .int .i64 0, .int .i64 21, .int .i64 3, .bool false] w fun e w' => e = .returned .nilIface ∧ InvC w0 x B L k w' := by
  obtain ⟨l, s, t, hlen, hids⟩ := g
  obtain ⟨r, hr, hr0, -, hrt⟩ := t.wf.root
  have hac : addC l 1 0 21 3 false = 0 := addC_zero rfl (by omega) t.wf.sk.ids hr hr0 hrt (getU_none.2 fun n hn e => by have := hids n hn; omega) (fun _ => by decide) (by omega)
  have hf := t.ins hac t.wf.up0
  refine (ts_add s t.wf 1 0 21 3 false (by decide) t.wf.up0 hac).mono fun e w' h => ⟨h.1, _, h.2, hf, by rw [insT_length, hlen], fun n hn => ?_, ⟨_, mem_insT.2 (.inl rfl), rfl, hf.wf.up0⟩, _, mem_insT.2 (.inl rfl), rfl, rfl⟩
  rcases mem_insT.1 hn with rfl | hn
  · exact Int.le_refl 21
  · have := hids n hn; omega
theorem add22 (g : InvC w0 x B L k w) (hk : k ≤ 6) :
    Calls Try.prog 13 #[.pointer (some ⟨x, 0, none⟩), .int .i64 21, .int .i64 22, .int .i64 5, .bool true] w fun e w' => e = .returned .nilIface ∧ InvF w0 x B L k (fun _ => 0) (fun _ => 0) w' := by
  obtain ⟨l, s, t, hlen, hids, hu, p, hp, hp1, hp2⟩ := g
  have hac : addC l 2 21 22 5 true = 0 := addC_zero rfl (by omega) t.wf.sk.ids hp hp1 hp2 (getU_none.2 fun n hn e => by have := hids n hn; omega) (fun h => by cases h) (by omega)
  exact (ts_add s t.wf 2 21 22 5 true (by decide) hu hac).mono fun e w' h => ⟨h.1, _, h.2, t.ins hac hu⟩
/-- Whoever else is called for. -/
theorem rdyO (g : InvF w0 x B L k h h' w) (id : Int) (hid : (k : Int) < id) (r : Bool) :
    Calls Try.prog 14 #[.pointer (some ⟨x, 0, none⟩), .int .i64 id, .bool r] w fun e w' => (∃ v, e = .returned v) ∧ InvF w0 x B L k h h' w' := by
  obtain ⟨l, s, t⟩ := g
  cases hg : getU l id with
  | none => exact (ts_readye s t.wf id r fun n hn => by rw [hg] at hn; cases hn).mono fun e w' h => ⟨⟨_, h.1⟩, l, h.2, t⟩
  | some n =>
    obtain ⟨hn, hi⟩ := getU_mem hg
    cases ht : n.thr with
    | false => exact (ts_readye s t.wf id r fun m hm => by rw [hg] at hm; obtain rfl := Option.some.inj hm; exact ht).mono fun e w' h => ⟨⟨_, h.1⟩, l, h.2, t⟩
    | true => exact (ts_readyI s t.wf hn ht r hi).mono fun e w' h => ⟨⟨_, h.1⟩, _, h.2, by rw [← hi]; exact t.rdy hn ht (by omega) r⟩
theorem wtO (g : InvF w0 x B L k h h' w) (id : Int) (hid : (k : Int) < id) (wt : Int) :
    Calls Try.prog 15 #[.pointer (some ⟨x, 0, none⟩), .int .i64 id, .int .i64 wt] w fun e w' => (∃ v, e = .returned v) ∧ InvF w0 x B L k h h' w' := by
  obtain ⟨l, s, t⟩ := g
  cases hw : isW wt with
  | false => exact (ts_weight10 s t.wf id wt hw).mono fun e w' h => ⟨⟨_, h.1⟩, l, h.2, t⟩
  | true =>
    by_cases hc : ∃ n ∈ l, n.id = id ∧ 0 ≤ n.par
    · obtain ⟨n, hn, hi, h0⟩ := hc
      obtain ⟨p, hp, he, -⟩ := (t.wf.sk.clo n hn).2.2 h0
      exact (ts_weightI s t.wf wt hw hn h0 hp he hi).mono fun e w' h => ⟨⟨_, h.1⟩, _, h.2, by rw [← hi]; exact t.weigh hn h0 hp he (by omega) hw⟩
    · refine (ts_weight13 s t.wf id wt hw fun n hn => ?_).mono fun e w' h => ⟨⟨_, h.1⟩, l, h.2, t⟩
      obtain ⟨hn, hi⟩ := getU_mem hn
      apply Decidable.byContradiction
      intro h0
      exact hc ⟨n, hn, hi, by omega⟩
theorem runG (g : InvF w0 x B L k h h' w) (hk : 0 < k) :
    Calls Try.prog 16 #[.pointer (some ⟨x, 0, none⟩)] w fun e w' => ∃ q : Nat, 1 ≤ q ∧ e = .returned (.tuple #[.int .i64 q, .bool true]) ∧ InvF w0 x B L k (put1 h q) h' w' := by
  obtain ⟨l, s, t⟩ := g
  obtain ⟨r, R, a1, a2, a3, a4, q, hq, hR, t'⟩ := t.run hk
  exact (ts_run s t.wf a1 a2 a3 a4).mono fun e w' h => ⟨q, hq, by rw [h.1, hR], _, h.2, t'⟩
end
theorem fair_to {n a m b : Int} {r : Bool} (e : fairW n a m b = r) (w : World) : Calls Try.prog 17 #[.int .i64 n, .int .i64 a, .int .i64 m, .int .i64 b] w (Yields w (.bool r)) := e ▸ rfair_any n a m b w
theorem u8_bounds {n : Int} (h : (Lit.int .u8 n).wf = true) : 0 ≤ n ∧ n ≤ 255 := by
  have e1 : IntKind.u8.min = 0 := by decide
  have e2 : IntKind.u8.max = 255 := by decide
  simpa [Lit.wf, e1, e2] using h


/-- Each two of them are looked at: from any world in which they have had their shares. -/
structure Loop (w0 : World) (x B : Nat) (L : List Int) (h : Nat → Int) (i : Int) (wr : World) : Prop where
  inv : InvF w0 x B L L.length h h wr
  bnd : ∀ j, 0 ≤ h j ∧ h j ≤ i

set_option maxRecDepth 100000 in
set_option linter.unusedVariables false in
set_option maxHeartbeats 40000000 in
theorem walk (v v2 : Value) (L L2 : List Int) (n : Int) (hn0 : 0 ≤ n) (hn1 : n ≤ 65535) (w : World) (hL : Nums .u8 w v L) (hL2 : Nums .u8 w v2 L2) :
    Calls Try.prog 3 #[v, v2, .int .u16 n] w (Yields w (.bool true)) := by
  have hnn := fun w => run_neq_nil_nil' (P := Try.prog) w Try.underlying29
  obtain ⟨p, cap, rfl, hcap, hmax⟩ := hL.shape
  obtain ⟨p2, cap2, rfl, hcap2, hmax2⟩ := hL2.shape
  unfold maxLen at hmax hmax2
  have HL := hid hL
  have HL2 := hid hL2
  clear hL hL2
  have hm1 : 0 ≤ n % 400 := by omega
  have hm2 : n % 400 < 400 := by omega
  go_enter Try.func3, Try.ntmps3
  go_wp2_with fail
  refine (known_any _).yields ?_
  intro p0
  have hE0 := hid (ext_more w p0)
  generalize more w p0 = w0 at *
  by_cases hz : L.length < 1
  · have i1 : (L.length : Int) < 1 := by omega
    go_wp2
    go_returns
    exact ⟨rfl, hE0.out⟩
  by_cases hf : 6 < L.length
  · have i1 : ¬ (L.length : Int) < 1 := by omega
    have i2 : (6 : Int) < (L.length : Int) := by omega
    go_wp2
    go_returns
    exact ⟨rfl, hE0.out⟩
  by_cases hg : 60 < L2.length
  · have i1 : ¬ (L.length : Int) < 1 := by omega
    have i2 : ¬ (6 : Int) < (L.length : Int) := by omega
    have i3 : (60 : Int) < (L2.length : Int) := by omega
    go_wp2
    go_returns
    exact ⟨rfl, hE0.out⟩
  have i1 : ¬ (L.length : Int) < 1 := by omega
  have i2 : (L.length : Int) ≤ 6 := by omega
  have i3 : (L2.length : Int) ≤ 60 := by omega
  have HLEN : Hid (1 ≤ L.length ∧ L.length ≤ 6) := ⟨by omega, by omega⟩
  clear hz hf hg
  go_wp2_with fail
  (with_reducible refine (ts_new w0).mono ?_)
  rintro e w1 ⟨x, rfl, s1⟩
  have S1 := hid (start s1 L)
  simp only [had8] at S1
  clear s1
  go_wp2_with fail
  generalize w1.heap.size = B at *
  generalize w1.alloc (.cells #[.int .i64 0, .int .i64 0, .int .i64 0, .int .i64 0, .int .i64 0, .int .i64 0, .int .i64 0, .int .i64 0] 27 (0, 0)) = w2 at *
  go_loopw [10] (fun v10 wr => ∃ i : Nat, v10 = .int .i64 i ∧ i ≤ L.length ∧ Hid (InvG w0 x B L i wr)) (fun v10 _ => (6 - intOf v10).toNat)
  case atStart => exact ⟨0, rfl, by omega, S1⟩
  case round =>
    obtain ⟨i, rfl, hi, hinv⟩ := hrel
    clear S1
    by_cases hlt : i < L.length
    · have j1 : (i : Int) < (L.length : Int) := by omega
      obtain ⟨g, off, rfl, c0, cw⟩ := HL.out.at i hlt
      simp only [Nat.mul_one] at c0
      have c1 := hinv.out.xt.cell (hE0.out.cell c0)
      have hu := u8_bounds cw
      have HW : Hid (L[i] % 16 + 1 = wtL L i) := (wtL_get hlt).symm
      have hub1 := hu.1
      have hub2 := hu.2
      clear c0 cw hu
      generalize L[i] = a at *
      go_wp2_with fail
      (with_reducible refine (addG hinv.out (by have := HLEN.out; omega) _ _ rfl HW.out).mono ?_)
      rintro e w3 ⟨rfl, s3⟩
      have S3 := hid s3
      clear s3 hinv c1
      go_wp2_with fail
      (with_reducible refine (rdyG S3.out (by have := HLEN.out; omega) _ rfl).mono ?_)
      rintro e w4 ⟨rfl, s4⟩
      have S4 := hid s4
      clear s4 S3
      go_wp2
      go_roundw
      case rel => exact ⟨i + 1, by go_num, by omega, S4⟩
      case measure => simp [intOf]; omega
    · obtain rfl : i = L.length := by omega
      clear hlt
      go_wp2_with fail
      (with_reducible refine (add20 hinv.out HLEN.out.2).mono ?_)
      rintro e w3 ⟨rfl, s3⟩
      have S3 := hid s3
      clear s3 hinv
      go_wp2_with fail
      (with_reducible refine (add21 S3.out HLEN.out.2).mono ?_)
      rintro e w4 ⟨rfl, s4⟩
      have S4 := hid s4
      clear s4 S3
      go_wp2_with fail
      (with_reducible refine (add22 S4.out HLEN.out.2).mono ?_)
      rintro e w5 ⟨rfl, s5⟩
      have S5 : Hid (Loop w0 x B L (fun _ => 0) 0 w5) := ⟨s5, fun _ => ⟨Int.le_refl 0, Int.le_refl 0⟩⟩
      clear s5 S4
      go_wp2_with fail
      go_loopw [11] (fun v11 wr => ∃ (i : Nat) (h : Nat → Int), v11 = .int .i64 i ∧ (i : Int) ≤ n % 400 ∧ Hid (Loop w0 x B L h i wr)) (fun v11 _ => (400 - intOf v11).toNat)
      case atStart => exact ⟨0, fun _ => 0, rfl, by omega, S5⟩
      case round =>
        obtain ⟨i, h, rfl, hi, hinv⟩ := hrel
        clear S5
        by_cases hlt : (i : Int) < n % 400
        · by_cases hz2 : L2.length = 0
          · have z1 : ¬ (0 : Int) < (L2.length : Int) := by omega
            have HI := hinv
            clear hinv hz2
            go_wp2_with fail
            (with_reducible refine (runG HI.out.1 (by have := HLEN.out; omega)).mono ?_)
            rintro e w7 ⟨q, hq1, rfl, s7⟩
            by_cases hqk : q ≤ L.length
            · have q2 : (q : Int) ≤ (L.length : Int) := by omega
              have q3 : (q : Int) < 8 := by omega
              have hq8 : q < 8 := by omega
              obtain ⟨c1, f1, hB⟩ := s7.cell q hq8
              have hh0 := (HI.out.2 q).1
              have hh1 := (HI.out.2 q).2
              have HS : Hid (Loop w0 x B L (put1 h q) ((i : Int) + 1) (w7.setCell ⟨B, q, none⟩ (.int .i64 (h q + 1)))) := ⟨s7.set q hq8, fun j => by
                have := HI.out.2 j
                simp only [put1]; split <;> omega⟩
              clear s7 HI
              generalize put1 h q = h2 at *
              generalize h q = hq at *
              go_upto_region 28 with fail
              generalize w7.setCell ⟨B, q, none⟩ (.int .i64 (hq + 1)) = w8 at *
              clear c1 f1 hB
              go_wp2_with fail
              go_loopw [15] (fun v15 wr => ∃ a : Nat, v15 = .int .i64 ((a : Int) + 1) ∧ a ≤ L.length ∧ Hid (Loop w0 x B L h2 ((i : Int) + 1) wr)) (fun v15 _ => (20 - intOf v15).toNat)
              case atStart => exact ⟨0, by go_num, by omega, HS⟩
              case round =>
                obtain ⟨a, rfl, ha, hinv2⟩ := hrel
                clear HS
                by_cases hla : a < L.length
                · have a1 : (a : Int) + 1 ≤ (L.length : Int) := by omega
                  go_wp2_with fail
                  go_loopw [16] (fun v16 wr => ∃ b : Nat, v16 = .int .i64 ((b : Int) + 1) ∧ b ≤ a ∧ Hid (Loop w0 x B L h2 ((i : Int) + 1) wr)) (fun v16 _ => (20 - intOf v16).toNat)
                  case atStart => exact ⟨0, by go_num, by omega, hinv2⟩
                  case round =>
                    obtain ⟨b, rfl, hb, hinv3⟩ := hrel
                    by_cases hlb : b < a
                    · have b1 : (b : Int) < (a : Int) := by omega
                      obtain ⟨g, off, rfl, c0, cw⟩ := HL.out.at a hla
                      obtain ⟨g2, off2, he2, d0, dw⟩ := HL.out.at b (by omega)
                      simp only [Option.some.injEq, Addr.mk.injEq] at he2
                      obtain ⟨rfl, rfl, -⟩ := he2
                      simp only [Nat.mul_one] at c0 d0
                      have hx0 := hinv3.out.1.xt
                      have m1 := more_cell (hx0.cell (hE0.out.cell c0))
                      have m2 := more_cell (hx0.cell (hE0.out.cell d0))
                      have hla2 : a + 1 < 8 := by have := HLEN.out; omega
                      have hlb2 : b + 1 < 8 := by omega
                      obtain ⟨e1, -, hB⟩ := hinv3.out.1.cell (a + 1) hla2
                      obtain ⟨e2, -, -⟩ := hinv3.out.1.cell (b + 1) hlb2
                      have m3 := more_cell e1
                      have m4 := more_cell e2
                      have HF : Hid (fairW (h2 (a + 1)) (L[a] % 16 + 1) (h2 (b + 1)) (L[b] % 16 + 1) = true) := by
                        have := hinv3.out.1.fair hla (by omega : b < L.length) (by have := hinv3.out.2 (a + 1); omega) (by have := hinv3.out.2 (b + 1); omega)
                        rwa [wtL_get hla, wtL_get (by omega)] at this
                      have hu := u8_bounds cw
                      have hu2 := u8_bounds dw
                      have u1 := hu.1
                      have u2 := hu.2
                      have u3 := hu2.1
                      have u4 := hu2.2
                      have k1 : ((a : Int) + 1).toNat = a + 1 := by omega
                      have k2 : ((b : Int) + 1).toNat = b + 1 := by omega
                      have k3 : (a : Int) + 1 < 8 := by omega
                      have k4 : (b : Int) + 1 < 8 := by omega
                      have k5 : (a : Int) < (L.length : Int) := by omega
                      have k6 : (b : Int) < (L.length : Int) := by omega
                      have HI3 := hid hinv3
                      clear c0 d0 cw dw hu hu2 e1 e2 hinv3 hx0
                      generalize L[a] = la at *
                      generalize L[b] = lb at *
                      generalize h2 (a + 1) = ha1 at *
                      generalize h2 (b + 1) = hb1 at *
                      go_wp2_with fail
                      ((first | refine wp_region_more (by kernel_rfl) (by kernel_rfl) ?_ | refine wp_region_ext (by kernel_rfl) (by kernel_rfl) ?_); (try dsimp only [append_cons', append_nil']); (repeat (go_big_quiet_step ((go_at_call 17; with_reducible refine Calls.more_of (fair_to HF.out _))))); refine wpQuiet_nil ?_; rintro _ ⟨pq, rfl⟩)
                      go_wp2
                      go_roundw
                      case rel => exact ⟨b + 1, by go_num, by omega, HI3.out.out.1.ext (ext_more _ _), HI3.out.out.2⟩
                      case measure => simp [intOf]; omega
                    · have b1 : ¬ (b : Int) < (a : Int) := by omega
                      go_wp2
                      go_roundw
                      case rel => exact ⟨a + 1, by go_num, by omega, hinv3⟩
                      case measure => simp [intOf]; omega
                · have a1 : ¬ (a : Int) + 1 ≤ (L.length : Int) := by omega
                  go_wp2
                  go_roundw
                  case rel => exact ⟨i + 1, h2, by go_num, by omega, by have := hinv2.out; rwa [show (i : Int) + 1 = ((i + 1 : Nat) : Int) by omega] at this⟩
                  case measure => simp [intOf]; omega
            · have q2 : ¬ (q : Int) ≤ (L.length : Int) := by omega
              have HS : Hid (Loop w0 x B L h ((i : Int) + 1) w7) := ⟨s7.other (by omega), fun j => by have := HI.out.2 j; omega⟩
              clear s7 HI
              generalize h = h2 at *
              go_wp2_with fail
              go_loopw [15] (fun v15 wr => ∃ a : Nat, v15 = .int .i64 ((a : Int) + 1) ∧ a ≤ L.length ∧ Hid (Loop w0 x B L h2 ((i : Int) + 1) wr)) (fun v15 _ => (20 - intOf v15).toNat)
              case atStart => exact ⟨0, by go_num, by omega, HS⟩
              case round =>
                obtain ⟨a, rfl, ha, hinv2⟩ := hrel
                clear HS
                by_cases hla : a < L.length
                · have a1 : (a : Int) + 1 ≤ (L.length : Int) := by omega
                  go_wp2_with fail
                  go_loopw [16] (fun v16 wr => ∃ b : Nat, v16 = .int .i64 ((b : Int) + 1) ∧ b ≤ a ∧ Hid (Loop w0 x B L h2 ((i : Int) + 1) wr)) (fun v16 _ => (20 - intOf v16).toNat)
                  case atStart => exact ⟨0, by go_num, by omega, hinv2⟩
                  case round =>
                    obtain ⟨b, rfl, hb, hinv3⟩ := hrel
                    by_cases hlb : b < a
                    · have b1 : (b : Int) < (a : Int) := by omega
                      obtain ⟨g, off, rfl, c0, cw⟩ := HL.out.at a hla
                      obtain ⟨g2, off2, he2, d0, dw⟩ := HL.out.at b (by omega)
                      simp only [Option.some.injEq, Addr.mk.injEq] at he2
                      obtain ⟨rfl, rfl, -⟩ := he2
                      simp only [Nat.mul_one] at c0 d0
                      have hx0 := hinv3.out.1.xt
                      have m1 := more_cell (hx0.cell (hE0.out.cell c0))
                      have m2 := more_cell (hx0.cell (hE0.out.cell d0))
                      have hla2 : a + 1 < 8 := by have := HLEN.out; omega
                      have hlb2 : b + 1 < 8 := by omega
                      obtain ⟨e1, -, hB⟩ := hinv3.out.1.cell (a + 1) hla2
                      obtain ⟨e2, -, -⟩ := hinv3.out.1.cell (b + 1) hlb2
                      have m3 := more_cell e1
                      have m4 := more_cell e2
                      have HF : Hid (fairW (h2 (a + 1)) (L[a] % 16 + 1) (h2 (b + 1)) (L[b] % 16 + 1) = true) := by
                        have := hinv3.out.1.fair hla (by omega : b < L.length) (by have := hinv3.out.2 (a + 1); omega) (by have := hinv3.out.2 (b + 1); omega)
                        rwa [wtL_get hla, wtL_get (by omega)] at this
                      have hu := u8_bounds cw
                      have hu2 := u8_bounds dw
                      have u1 := hu.1
                      have u2 := hu.2
                      have u3 := hu2.1
                      have u4 := hu2.2
                      have k1 : ((a : Int) + 1).toNat = a + 1 := by omega
                      have k2 : ((b : Int) + 1).toNat = b + 1 := by omega
                      have k3 : (a : Int) + 1 < 8 := by omega
                      have k4 : (b : Int) + 1 < 8 := by omega
                      have k5 : (a : Int) < (L.length : Int) := by omega
                      have k6 : (b : Int) < (L.length : Int) := by omega
                      have HI3 := hid hinv3
                      clear c0 d0 cw dw hu hu2 e1 e2 hinv3 hx0
                      generalize L[a] = la at *
                      generalize L[b] = lb at *
                      generalize h2 (a + 1) = ha1 at *
                      generalize h2 (b + 1) = hb1 at *
                      go_wp2_with fail
                      ((first | refine wp_region_more (by kernel_rfl) (by kernel_rfl) ?_ | refine wp_region_ext (by kernel_rfl) (by kernel_rfl) ?_); (try dsimp only [append_cons', append_nil']); (repeat (go_big_quiet_step ((go_at_call 17; with_reducible refine Calls.more_of (fair_to HF.out _))))); refine wpQuiet_nil ?_; rintro _ ⟨pq, rfl⟩)
                      go_wp2
                      go_roundw
                      case rel => exact ⟨b + 1, by go_num, by omega, HI3.out.out.1.ext (ext_more _ _), HI3.out.out.2⟩
                      case measure => simp [intOf]; omega
                    · have b1 : ¬ (b : Int) < (a : Int) := by omega
                      go_wp2
                      go_roundw
                      case rel => exact ⟨a + 1, by go_num, by omega, hinv3⟩
                      case measure => simp [intOf]; omega
                · have a1 : ¬ (a : Int) + 1 ≤ (L.length : Int) := by omega
                  go_wp2
                  go_roundw
                  case rel => exact ⟨i + 1, h2, by go_num, by omega, by have := hinv2.out; rwa [show (i : Int) + 1 = ((i + 1 : Nat) : Int) by omega] at this⟩
                  case measure => simp [intOf]; omega
          · have z1 : (0 : Int) < (L2.length : Int) := by omega
            have z2 : ((L2.length : Int) == 0) = false := by rw [beq_eq_false_iff_ne]; omega
            obtain ⟨m, hm⟩ : ∃ m : Nat, (i : Int) % L2.length = m := ⟨((i : Int) % L2.length).toNat, by rw [Int.toNat_of_nonneg (Int.emod_nonneg _ (by omega))]⟩
            have hml : m < L2.length := by have := Int.emod_lt_of_pos (i : Int) z1; omega
            have j2 : (m : Int) < (L2.length : Int) := by omega
            obtain ⟨g, off, rfl, c0, cw⟩ := HL2.out.at m hml
            simp only [Nat.mul_one] at c0
            have c1 := hinv.out.1.xt.cell (hE0.out.cell c0)
            have hu := u8_bounds cw
            have hub1 := hu.1
            have hub2 := hu.2
            clear c0 cw hu
            generalize L2[m] = c at *
            have b0 := bits_lo_u8 .and c 1
            have b1 := bits_hi_u8 .and c 1
            have HB0 : Hid ((L.length : Int) < 20 + 2 * bits .and .u8 c 1) := by have := HLEN.out; unfold Hid; omega
            go_wp2_with fail
            (with_reducible refine (rdyO hinv.out.1 _ HB0.out _).mono ?_)
            rintro e w6 ⟨⟨v6, rfl⟩, s6⟩
            have HI6 : Hid (Loop w0 x B L h i w6) := ⟨s6, hinv.out.2⟩
            clear s6 hinv c1 b0 b1 HB0
            cases h12 : (bits .and .u8 c 12 == 12) with
            | true =>
              go_wp2_with fail
              (with_reducible refine (wtO HI6.out.1 20 (by have := HLEN.out; omega) _).mono ?_)
              rintro e w9 ⟨⟨v9, rfl⟩, s9⟩
              have HI : Hid (Loop w0 x B L h i w9) := ⟨s9, HI6.out.2⟩
              clear s9 HI6
              go_wp2_with fail
              (with_reducible refine (runG HI.out.1 (by have := HLEN.out; omega)).mono ?_)
              rintro e w7 ⟨q, hq1, rfl, s7⟩
              by_cases hqk : q ≤ L.length
              · have q2 : (q : Int) ≤ (L.length : Int) := by omega
                have q3 : (q : Int) < 8 := by omega
                have hq8 : q < 8 := by omega
                obtain ⟨c1, f1, hB⟩ := s7.cell q hq8
                have hh0 := (HI.out.2 q).1
                have hh1 := (HI.out.2 q).2
                have HS : Hid (Loop w0 x B L (put1 h q) ((i : Int) + 1) (w7.setCell ⟨B, q, none⟩ (.int .i64 (h q + 1)))) := ⟨s7.set q hq8, fun j => by
                  have := HI.out.2 j
                  simp only [put1]; split <;> omega⟩
                clear s7 HI
                generalize put1 h q = h2 at *
                generalize h q = hq at *
                go_upto_region 28 with fail
                generalize w7.setCell ⟨B, q, none⟩ (.int .i64 (hq + 1)) = w8 at *
                clear c1 f1 hB
                go_wp2_with fail
                go_loopw [15] (fun v15 wr => ∃ a : Nat, v15 = .int .i64 ((a : Int) + 1) ∧ a ≤ L.length ∧ Hid (Loop w0 x B L h2 ((i : Int) + 1) wr)) (fun v15 _ => (20 - intOf v15).toNat)
                case atStart => exact ⟨0, by go_num, by omega, HS⟩
                case round =>
                  obtain ⟨a, rfl, ha, hinv2⟩ := hrel
                  clear HS
                  by_cases hla : a < L.length
                  · have a1 : (a : Int) + 1 ≤ (L.length : Int) := by omega
                    go_wp2_with fail
                    go_loopw [16] (fun v16 wr => ∃ b : Nat, v16 = .int .i64 ((b : Int) + 1) ∧ b ≤ a ∧ Hid (Loop w0 x B L h2 ((i : Int) + 1) wr)) (fun v16 _ => (20 - intOf v16).toNat)
                    case atStart => exact ⟨0, by go_num, by omega, hinv2⟩
                    case round =>
                      obtain ⟨b, rfl, hb, hinv3⟩ := hrel
                      by_cases hlb : b < a
                      · have b1 : (b : Int) < (a : Int) := by omega
                        obtain ⟨g, off, rfl, c0, cw⟩ := HL.out.at a hla
                        obtain ⟨g2, off2, he2, d0, dw⟩ := HL.out.at b (by omega)
                        simp only [Option.some.injEq, Addr.mk.injEq] at he2
                        obtain ⟨rfl, rfl, -⟩ := he2
                        simp only [Nat.mul_one] at c0 d0
                        have hx0 := hinv3.out.1.xt
                        have m1 := more_cell (hx0.cell (hE0.out.cell c0))
                        have m2 := more_cell (hx0.cell (hE0.out.cell d0))
                        have hla2 : a + 1 < 8 := by have := HLEN.out; omega
                        have hlb2 : b + 1 < 8 := by omega
                        obtain ⟨e1, -, hB⟩ := hinv3.out.1.cell (a + 1) hla2
                        obtain ⟨e2, -, -⟩ := hinv3.out.1.cell (b + 1) hlb2
                        have m3 := more_cell e1
                        have m4 := more_cell e2
                        have HF : Hid (fairW (h2 (a + 1)) (L[a] % 16 + 1) (h2 (b + 1)) (L[b] % 16 + 1) = true) := by
                          have := hinv3.out.1.fair hla (by omega : b < L.length) (by have := hinv3.out.2 (a + 1); omega) (by have := hinv3.out.2 (b + 1); omega)
                          rwa [wtL_get hla, wtL_get (by omega)] at this
                        have hu := u8_bounds cw
                        have hu2 := u8_bounds dw
                        have u1 := hu.1
                        have u2 := hu.2
                        have u3 := hu2.1
                        have u4 := hu2.2
                        have k1 : ((a : Int) + 1).toNat = a + 1 := by omega
                        have k2 : ((b : Int) + 1).toNat = b + 1 := by omega
                        have k3 : (a : Int) + 1 < 8 := by omega
                        have k4 : (b : Int) + 1 < 8 := by omega
                        have k5 : (a : Int) < (L.length : Int) := by omega
                        have k6 : (b : Int) < (L.length : Int) := by omega
                        have HI3 := hid hinv3
                        clear c0 d0 cw dw hu hu2 e1 e2 hinv3 hx0
                        generalize L[a] = la at *
                        generalize L[b] = lb at *
                        generalize h2 (a + 1) = ha1 at *
                        generalize h2 (b + 1) = hb1 at *
                        go_wp2_with fail
                        ((first | refine wp_region_more (by kernel_rfl) (by kernel_rfl) ?_ | refine wp_region_ext (by kernel_rfl) (by kernel_rfl) ?_); (try dsimp only [append_cons', append_nil']); (repeat (go_big_quiet_step ((go_at_call 17; with_reducible refine Calls.more_of (fair_to HF.out _))))); refine wpQuiet_nil ?_; rintro _ ⟨pq, rfl⟩)
                        go_wp2
                        go_roundw
                        case rel => exact ⟨b + 1, by go_num, by omega, HI3.out.out.1.ext (ext_more _ _), HI3.out.out.2⟩
                        case measure => simp [intOf]; omega
                      · have b1 : ¬ (b : Int) < (a : Int) := by omega
                        go_wp2
                        go_roundw
                        case rel => exact ⟨a + 1, by go_num, by omega, hinv3⟩
                        case measure => simp [intOf]; omega
                  · have a1 : ¬ (a : Int) + 1 ≤ (L.length : Int) := by omega
                    go_wp2
                    go_roundw
                    case rel => exact ⟨i + 1, h2, by go_num, by omega, by have := hinv2.out; rwa [show (i : Int) + 1 = ((i + 1 : Nat) : Int) by omega] at this⟩
                    case measure => simp [intOf]; omega
              · have q2 : ¬ (q : Int) ≤ (L.length : Int) := by omega
                have HS : Hid (Loop w0 x B L h ((i : Int) + 1) w7) := ⟨s7.other (by omega), fun j => by have := HI.out.2 j; omega⟩
                clear s7 HI
                generalize h = h2 at *
                go_wp2_with fail
                go_loopw [15] (fun v15 wr => ∃ a : Nat, v15 = .int .i64 ((a : Int) + 1) ∧ a ≤ L.length ∧ Hid (Loop w0 x B L h2 ((i : Int) + 1) wr)) (fun v15 _ => (20 - intOf v15).toNat)
                case atStart => exact ⟨0, by go_num, by omega, HS⟩
                case round =>
                  obtain ⟨a, rfl, ha, hinv2⟩ := hrel
                  clear HS
                  by_cases hla : a < L.length
                  · have a1 : (a : Int) + 1 ≤ (L.length : Int) := by omega
                    go_wp2_with fail
                    go_loopw [16] (fun v16 wr => ∃ b : Nat, v16 = .int .i64 ((b : Int) + 1) ∧ b ≤ a ∧ Hid (Loop w0 x B L h2 ((i : Int) + 1) wr)) (fun v16 _ => (20 - intOf v16).toNat)
                    case atStart => exact ⟨0, by go_num, by omega, hinv2⟩
                    case round =>
                      obtain ⟨b, rfl, hb, hinv3⟩ := hrel
                      by_cases hlb : b < a
                      · have b1 : (b : Int) < (a : Int) := by omega
                        obtain ⟨g, off, rfl, c0, cw⟩ := HL.out.at a hla
                        obtain ⟨g2, off2, he2, d0, dw⟩ := HL.out.at b (by omega)
                        simp only [Option.some.injEq, Addr.mk.injEq] at he2
                        obtain ⟨rfl, rfl, -⟩ := he2
                        simp only [Nat.mul_one] at c0 d0
                        have hx0 := hinv3.out.1.xt
                        have m1 := more_cell (hx0.cell (hE0.out.cell c0))
                        have m2 := more_cell (hx0.cell (hE0.out.cell d0))
                        have hla2 : a + 1 < 8 := by have := HLEN.out; omega
                        have hlb2 : b + 1 < 8 := by omega
                        obtain ⟨e1, -, hB⟩ := hinv3.out.1.cell (a + 1) hla2
                        obtain ⟨e2, -, -⟩ := hinv3.out.1.cell (b + 1) hlb2
                        have m3 := more_cell e1
                        have m4 := more_cell e2
                        have HF : Hid (fairW (h2 (a + 1)) (L[a] % 16 + 1) (h2 (b + 1)) (L[b] % 16 + 1) = true) := by
                          have := hinv3.out.1.fair hla (by omega : b < L.length) (by have := hinv3.out.2 (a + 1); omega) (by have := hinv3.out.2 (b + 1); omega)
                          rwa [wtL_get hla, wtL_get (by omega)] at this
                        have hu := u8_bounds cw
                        have hu2 := u8_bounds dw
                        have u1 := hu.1
                        have u2 := hu.2
                        have u3 := hu2.1
                        have u4 := hu2.2
                        have k1 : ((a : Int) + 1).toNat = a + 1 := by omega
                        have k2 : ((b : Int) + 1).toNat = b + 1 := by omega
                        have k3 : (a : Int) + 1 < 8 := by omega
                        have k4 : (b : Int) + 1 < 8 := by omega
                        have k5 : (a : Int) < (L.length : Int) := by omega
                        have k6 : (b : Int) < (L.length : Int) := by omega
                        have HI3 := hid hinv3
                        clear c0 d0 cw dw hu hu2 e1 e2 hinv3 hx0
                        generalize L[a] = la at *
                        generalize L[b] = lb at *
                        generalize h2 (a + 1) = ha1 at *
                        generalize h2 (b + 1) = hb1 at *
                        go_wp2_with fail
                        ((first | refine wp_region_more (by kernel_rfl) (by kernel_rfl) ?_ | refine wp_region_ext (by kernel_rfl) (by kernel_rfl) ?_); (try dsimp only [append_cons', append_nil']); (repeat (go_big_quiet_step ((go_at_call 17; with_reducible refine Calls.more_of (fair_to HF.out _))))); refine wpQuiet_nil ?_; rintro _ ⟨pq, rfl⟩)
                        go_wp2
                        go_roundw
                        case rel => exact ⟨b + 1, by go_num, by omega, HI3.out.out.1.ext (ext_more _ _), HI3.out.out.2⟩
                        case measure => simp [intOf]; omega
                      · have b1 : ¬ (b : Int) < (a : Int) := by omega
                        go_wp2
                        go_roundw
                        case rel => exact ⟨a + 1, by go_num, by omega, hinv3⟩
                        case measure => simp [intOf]; omega
                  · have a1 : ¬ (a : Int) + 1 ≤ (L.length : Int) := by omega
                    go_wp2
                    go_roundw
                    case rel => exact ⟨i + 1, h2, by go_num, by omega, by have := hinv2.out; rwa [show (i : Int) + 1 = ((i + 1 : Nat) : Int) by omega] at this⟩
                    case measure => simp [intOf]; omega
            | false =>
              have HI := HI6
              clear HI6
              go_wp2_with fail
              (with_reducible refine (runG HI.out.1 (by have := HLEN.out; omega)).mono ?_)
              rintro e w7 ⟨q, hq1, rfl, s7⟩
              by_cases hqk : q ≤ L.length
              · have q2 : (q : Int) ≤ (L.length : Int) := by omega
                have q3 : (q : Int) < 8 := by omega
                have hq8 : q < 8 := by omega
                obtain ⟨c1, f1, hB⟩ := s7.cell q hq8
                have hh0 := (HI.out.2 q).1
                have hh1 := (HI.out.2 q).2
                have HS : Hid (Loop w0 x B L (put1 h q) ((i : Int) + 1) (w7.setCell ⟨B, q, none⟩ (.int .i64 (h q + 1)))) := ⟨s7.set q hq8, fun j => by
                  have := HI.out.2 j
                  simp only [put1]; split <;> omega⟩
                clear s7 HI
                generalize put1 h q = h2 at *
                generalize h q = hq at *
                go_upto_region 28 with fail
                generalize w7.setCell ⟨B, q, none⟩ (.int .i64 (hq + 1)) = w8 at *
                clear c1 f1 hB
                go_wp2_with fail
                go_loopw [15] (fun v15 wr => ∃ a : Nat, v15 = .int .i64 ((a : Int) + 1) ∧ a ≤ L.length ∧ Hid (Loop w0 x B L h2 ((i : Int) + 1) wr)) (fun v15 _ => (20 - intOf v15).toNat)
                case atStart => exact ⟨0, by go_num, by omega, HS⟩
                case round =>
                  obtain ⟨a, rfl, ha, hinv2⟩ := hrel
                  clear HS
                  by_cases hla : a < L.length
                  · have a1 : (a : Int) + 1 ≤ (L.length : Int) := by omega
                    go_wp2_with fail
                    go_loopw [16] (fun v16 wr => ∃ b : Nat, v16 = .int .i64 ((b : Int) + 1) ∧ b ≤ a ∧ Hid (Loop w0 x B L h2 ((i : Int) + 1) wr)) (fun v16 _ => (20 - intOf v16).toNat)
                    case atStart => exact ⟨0, by go_num, by omega, hinv2⟩
                    case round =>
                      obtain ⟨b, rfl, hb, hinv3⟩ := hrel
                      by_cases hlb : b < a
                      · have b1 : (b : Int) < (a : Int) := by omega
                        obtain ⟨g, off, rfl, c0, cw⟩ := HL.out.at a hla
                        obtain ⟨g2, off2, he2, d0, dw⟩ := HL.out.at b (by omega)
                        simp only [Option.some.injEq, Addr.mk.injEq] at he2
                        obtain ⟨rfl, rfl, -⟩ := he2
                        simp only [Nat.mul_one] at c0 d0
                        have hx0 := hinv3.out.1.xt
                        have m1 := more_cell (hx0.cell (hE0.out.cell c0))
                        have m2 := more_cell (hx0.cell (hE0.out.cell d0))
                        have hla2 : a + 1 < 8 := by have := HLEN.out; omega
                        have hlb2 : b + 1 < 8 := by omega
                        obtain ⟨e1, -, hB⟩ := hinv3.out.1.cell (a + 1) hla2
                        obtain ⟨e2, -, -⟩ := hinv3.out.1.cell (b + 1) hlb2
                        have m3 := more_cell e1
                        have m4 := more_cell e2
                        have HF : Hid (fairW (h2 (a + 1)) (L[a] % 16 + 1) (h2 (b + 1)) (L[b] % 16 + 1) = true) := by
                          have := hinv3.out.1.fair hla (by omega : b < L.length) (by have := hinv3.out.2 (a + 1); omega) (by have := hinv3.out.2 (b + 1); omega)
                          rwa [wtL_get hla, wtL_get (by omega)] at this
                        have hu := u8_bounds cw
                        have hu2 := u8_bounds dw
                        have u1 := hu.1
                        have u2 := hu.2
                        have u3 := hu2.1
                        have u4 := hu2.2
                        have k1 : ((a : Int) + 1).toNat = a + 1 := by omega
                        have k2 : ((b : Int) + 1).toNat = b + 1 := by omega
                        have k3 : (a : Int) + 1 < 8 := by omega
                        have k4 : (b : Int) + 1 < 8 := by omega
                        have k5 : (a : Int) < (L.length : Int) := by omega
                        have k6 : (b : Int) < (L.length : Int) := by omega
                        have HI3 := hid hinv3
                        clear c0 d0 cw dw hu hu2 e1 e2 hinv3 hx0
                        generalize L[a] = la at *
                        generalize L[b] = lb at *
                        generalize h2 (a + 1) = ha1 at *
                        generalize h2 (b + 1) = hb1 at *
                        go_wp2_with fail
                        ((first | refine wp_region_more (by kernel_rfl) (by kernel_rfl) ?_ | refine wp_region_ext (by kernel_rfl) (by kernel_rfl) ?_); (try dsimp only [append_cons', append_nil']); (repeat (go_big_quiet_step ((go_at_call 17; with_reducible refine Calls.more_of (fair_to HF.out _))))); refine wpQuiet_nil ?_; rintro _ ⟨pq, rfl⟩)
                        go_wp2
                        go_roundw
                        case rel => exact ⟨b + 1, by go_num, by omega, HI3.out.out.1.ext (ext_more _ _), HI3.out.out.2⟩
                        case measure => simp [intOf]; omega
                      · have b1 : ¬ (b : Int) < (a : Int) := by omega
                        go_wp2
                        go_roundw
                        case rel => exact ⟨a + 1, by go_num, by omega, hinv3⟩
                        case measure => simp [intOf]; omega
                  · have a1 : ¬ (a : Int) + 1 ≤ (L.length : Int) := by omega
                    go_wp2
                    go_roundw
                    case rel => exact ⟨i + 1, h2, by go_num, by omega, by have := hinv2.out; rwa [show (i : Int) + 1 = ((i + 1 : Nat) : Int) by omega] at this⟩
                    case measure => simp [intOf]; omega
              · have q2 : ¬ (q : Int) ≤ (L.length : Int) := by omega
                have HS : Hid (Loop w0 x B L h ((i : Int) + 1) w7) := ⟨s7.other (by omega), fun j => by have := HI.out.2 j; omega⟩
                clear s7 HI
                generalize h = h2 at *
                go_wp2_with fail
                go_loopw [15] (fun v15 wr => ∃ a : Nat, v15 = .int .i64 ((a : Int) + 1) ∧ a ≤ L.length ∧ Hid (Loop w0 x B L h2 ((i : Int) + 1) wr)) (fun v15 _ => (20 - intOf v15).toNat)
                case atStart => exact ⟨0, by go_num, by omega, HS⟩
                case round =>
                  obtain ⟨a, rfl, ha, hinv2⟩ := hrel
                  clear HS
                  by_cases hla : a < L.length
                  · have a1 : (a : Int) + 1 ≤ (L.length : Int) := by omega
                    go_wp2_with fail
                    go_loopw [16] (fun v16 wr => ∃ b : Nat, v16 = .int .i64 ((b : Int) + 1) ∧ b ≤ a ∧ Hid (Loop w0 x B L h2 ((i : Int) + 1) wr)) (fun v16 _ => (20 - intOf v16).toNat)
                    case atStart => exact ⟨0, by go_num, by omega, hinv2⟩
                    case round =>
                      obtain ⟨b, rfl, hb, hinv3⟩ := hrel
                      by_cases hlb : b < a
                      · have b1 : (b : Int) < (a : Int) := by omega
                        obtain ⟨g, off, rfl, c0, cw⟩ := HL.out.at a hla
                        obtain ⟨g2, off2, he2, d0, dw⟩ := HL.out.at b (by omega)
                        simp only [Option.some.injEq, Addr.mk.injEq] at he2
                        obtain ⟨rfl, rfl, -⟩ := he2
                        simp only [Nat.mul_one] at c0 d0
                        have hx0 := hinv3.out.1.xt
                        have m1 := more_cell (hx0.cell (hE0.out.cell c0))
                        have m2 := more_cell (hx0.cell (hE0.out.cell d0))
                        have hla2 : a + 1 < 8 := by have := HLEN.out; omega
                        have hlb2 : b + 1 < 8 := by omega
                        obtain ⟨e1, -, hB⟩ := hinv3.out.1.cell (a + 1) hla2
                        obtain ⟨e2, -, -⟩ := hinv3.out.1.cell (b + 1) hlb2
                        have m3 := more_cell e1
                        have m4 := more_cell e2
                        have HF : Hid (fairW (h2 (a + 1)) (L[a] % 16 + 1) (h2 (b + 1)) (L[b] % 16 + 1) = true) := by
                          have := hinv3.out.1.fair hla (by omega : b < L.length) (by have := hinv3.out.2 (a + 1); omega) (by have := hinv3.out.2 (b + 1); omega)
                          rwa [wtL_get hla, wtL_get (by omega)] at this
                        have hu := u8_bounds cw
                        have hu2 := u8_bounds dw
                        have u1 := hu.1
                        have u2 := hu.2
                        have u3 := hu2.1
                        have u4 := hu2.2
                        have k1 : ((a : Int) + 1).toNat = a + 1 := by omega
                        have k2 : ((b : Int) + 1).toNat = b + 1 := by omega
                        have k3 : (a : Int) + 1 < 8 := by omega
                        have k4 : (b : Int) + 1 < 8 := by omega
                        have k5 : (a : Int) < (L.length : Int) := by omega
                        have k6 : (b : Int) < (L.length : Int) := by omega
                        have HI3 := hid hinv3
                        clear c0 d0 cw dw hu hu2 e1 e2 hinv3 hx0
                        generalize L[a] = la at *
                        generalize L[b] = lb at *
                        generalize h2 (a + 1) = ha1 at *
                        generalize h2 (b + 1) = hb1 at *
                        go_wp2_with fail
                        ((first | refine wp_region_more (by kernel_rfl) (by kernel_rfl) ?_ | refine wp_region_ext (by kernel_rfl) (by kernel_rfl) ?_); (try dsimp only [append_cons', append_nil']); (repeat (go_big_quiet_step ((go_at_call 17; with_reducible refine Calls.more_of (fair_to HF.out _))))); refine wpQuiet_nil ?_; rintro _ ⟨pq, rfl⟩)
                        go_wp2
                        go_roundw
                        case rel => exact ⟨b + 1, by go_num, by omega, HI3.out.out.1.ext (ext_more _ _), HI3.out.out.2⟩
                        case measure => simp [intOf]; omega
                      · have b1 : ¬ (b : Int) < (a : Int) := by omega
                        go_wp2
                        go_roundw
                        case rel => exact ⟨a + 1, by go_num, by omega, hinv3⟩
                        case measure => simp [intOf]; omega
                  · have a1 : ¬ (a : Int) + 1 ≤ (L.length : Int) := by omega
                    go_wp2
                    go_roundw
                    case rel => exact ⟨i + 1, h2, by go_num, by omega, by have := hinv2.out; rwa [show (i : Int) + 1 = ((i + 1 : Nat) : Int) by omega] at this⟩
                    case measure => simp [intOf]; omega
        · have hx := hid hinv.out.1.xt
          go_wp2
          go_returns
          exact ⟨rfl, hE0.out.trans hx.out⟩

set_option linter.unusedVariables false in
set_option maxRecDepth 100000 in
theorem lifted (os : Os) (started : os.Started) (H : Type) (enc : TypeId × Value → H) :
    ReturnsInHanded {} Try.checked os 3 .any (Rows.treeFairSpec.pre6 enc Try.prog Try.f3 Rows.treeFairRow.domain false) (Rows.treeFairSpec.post enc Try.prog Try.f3 false true false false) := by
  refine returnsInHanded_of_change (C := Try.checked) Own.own started (by kernel_rfl) Try.func3
    (ChangeSpec.witness6 (enc := enc) (C := Try.checked) false ⟨#[], #[.slice none 0 0, .slice none 0 0, .int .u16 0], []⟩ 8 (by kernel_rfl) (by kernel_rfl) (by kernel_rfl) (by kernel_rfl)) ?_
  intro W base args ds gs before hval0 hW hcnd _
  have hval : ∀ (j : Nat) t v, Try.f3.params[j]? = some t → args[j]? = some v → Value.okWide Try.prog W .any base t v := hval0
  have hW' := hW
  obtain ⟨p, q, hA0, hV, rfl, hfz, hnd⟩ := hW
  have hA : DataW.TrodAll enc Try.prog W 0 (fun _ => true) true Try.f3.params.toList args.toList ds p := hA0
  rw [Try.params3] at hA hval
  obtain ⟨v0, vs0, d0, ds0, p0, q0, hargs, rfl, rfl, h0, r0⟩ := trodAll_cons hA
  obtain ⟨v1, vs1, d1, ds1, p1, q1, rfl, rfl, rfl, h1, r1⟩ := trodAll_cons r0
  obtain ⟨v2, vs2, d2, ds2, p2, q2, rfl, rfl, rfl, h2, r2⟩ := trodAll_cons r1
  obtain ⟨rfl, rfl, rfl⟩ := trodAll_nil r2
  obtain rfl : args = #[v0, v1, v2] := by cases args; simp_all
  obtain ⟨rfl, rfl⟩ := trodVars_none hV
  have k0 := h0
  have lt0 : ∀ x ∈ p0, x.block < W.heap.size := by obtain ⟨m, hm⟩ := k0; exact DataW.trod_lt m _ _ _ hm
  have k1 := h1
  have lt1 : ∀ x ∈ p1, x.block < W.heap.size := by obtain ⟨m, hm⟩ := k1; exact DataW.trod_lt m _ _ _ hm
  have k2 := h2
  have lt2 : ∀ x ∈ p2, x.block < W.heap.size := by obtain ⟨m, hm⟩ := k2; exact DataW.trod_lt m _ _ _ hm
  obtain ⟨a0, len0, cap0, rfl⟩ := okWide_slice Try.underlying22 (hval 0 22 v0 rfl rfl)
  obtain ⟨l, hl⟩ := Own.open_nums Try.underlying22 Try.underlying5 (by kernel_rfl) h0
  obtain ⟨a1, len1, cap1, rfl⟩ := okWide_slice Try.underlying22 (hval 1 22 v1 rfl rfl)
  obtain ⟨l1, hl1⟩ := Own.open_nums Try.underlying22 Try.underlying5 (by kernel_rfl) h1
  obtain ⟨n, rfl, rfl, rfl, wn⟩ := open_int Try.underlying23 (hval 2 23 v2 rfl rfl) h2
  have bn := bounds_u16 wn
  clear hA0 hval0
  refine (walk _ _ l l1 n (by omega) (by omega) W hl hl1).mono fun e W' ⟨he, hx⟩ => ?_
  subst he
  exact ⟨_, rfl, _, _, _, [], _, [], hW', trodAll_mk1 (shut_bool Try.underlying4 _), (trodAll_cons_mk (Below.trod Own.laidOut (by kernel_rfl) (of_decide_eq_true (by kernel_rfl)) k0 hx.below lt0) (trodAll_cons_mk (Below.trod Own.laidOut (by kernel_rfl) (of_decide_eq_true (by kernel_rfl)) k1 hx.below lt1) (trodAll_cons_mk (Below.trod Own.laidOut (by kernel_rfl) (of_decide_eq_true (by kernel_rfl)) k2 hx.below lt2) trodAll_mk0))), rfl, hx.below.frame _, fun h => by cases h⟩

theorem proved : Rows.TreeFairSaid :=
  OpenClaim.holds_of_wide 3 Try.f3 rfl rfl rfl rfl rfl rfl rfl ⟨rfl, rfl, rfl, rfl, rfl⟩ rfl rfl rfl rfl rfl (by kernel_rfl) Try.func3 (by kernel_rfl)
    (of_decide_eq_true (by kernel_rfl)) (by unfold Func.isWrapper; first | (rw [if_pos (by decide +kernel)]; kernel_rfl) | (rw [if_neg (by decide +kernel)]; exact ⟨rfl, rfl⟩))
    (fun os started H enc _ => lifted os started H enc)

end treeFair
end Go.Proofs.Ytfccmdmfllicdaa
