/- The document's own Read: its arrivals. -/
import Derived.Test.YtmpgeabfogcblaaGreatSrAll
import Derived.Test.YtmpgeabfogcblaaGreatRef3
import Derived.Test.YtmpgeabfogcblaaGreatMath4c
import Derived.Deep.CutBlock
namespace Go.Proofs.YtmpgeabfogcblaaGreat
open Go.RowKit

/-- The document's reader at block b, with no more than the longest script's bytes left. -/
structure Dq (b : Nat) (r : Rd) (w : World) : Prop where
  rd : Rq b r w
  len : r.s.length ≤ 50000
theorem Dq.ext {b : Nat} {r : Rd} {w w' : World} (h : Dq b r w) (k : Ext w w') : Dq b r w' := ⟨h.rd.ext k, h.len⟩
theorem Dq.lt {b : Nat} {r : Rd} {w : World} (h : Dq b r w) : b < w.heap.size := lt_of_block h.rd
theorem Dq.cell1 {b : Nat} {r : Rd} {w : World} (h : Dq b r w) : w.cell? ⟨b, 1, none⟩ = some (.int .i64 r.e) := h.rd.cells.2.1
theorem Dq.kept {b : Nat} {r : Rd} {w w' : World} {good : List TypeId} (h : Dq b r w) (k : Only b w w') (hg : 59 ∉ good) : Kept good w w' := fun i cs T hi hT => by
  refine k.blk hi fun e => hg ?_
  subst e
  have hr := h.rd
  unfold Rq at hr
  rw [hr] at hi
  simp at hi
  rw [hi.2]; exact hT
theorem Dq.push {b base T n m : Nat} {r : Rd} {w w' : World} {v : Value} {xs : List Value} (h : Dq b r w) (ho : w.ownsRow base T n v m xs) (hT : T ≠ 59) (k : ∀ b o, w.heap[b]? = some o → some b ≠ v.ownBlock → w'.heap[b]? = some o) : Dq b r w' :=
  have hk : Kept [59] w w' := kept_push ho (by simp; exact hT) k
  ⟨hk _ _ _ h.rd (by simp), h.len⟩
theorem dnum_any (b : Nat) (r : Rd) (most : Int) (w : World) (h : Dq b r w) :
    Calls Tryz.prog 18 #[.pointer (some ⟨b, 0, none⟩), .int .i64 most] w fun e w' => e = .returned (.int .i64 (r.num most)) ∧ Dq b (r.afterNum most) w' ∧ Only b w w' :=
  (qnum_any b r most w h.rd (Nat.le_trans h.len (by decide))).mono fun _ _ ⟨h1, h2, h3⟩ => ⟨h1, ⟨h2, Nat.le_trans (Rd.afterNum_len r most) h.len⟩, h3⟩

/-- Of a row that tells xs, one appended: it tells one more; the reader stays. -/
theorem wpList_push_doc {P : Program} {ops : Array Oper} {rest : List Oper} {o : Oper} {a : Act} {w : World} {Q : Exit → Act → World → Prop} (hgd : o.guard = none) (s x : Operand) (t T : TypeId) (z : Value) (n by' : Nat)
    (ho : o.op = .call { callee := .builtin .append, args := #[s, x], argTypes := #[t, t] }) (ht : P.underlying t = some (.slice T)) (hi : (P.info? T).map (fun i => (i.zero, i.size, i.bytes)) = some (some z, n, by')) (hz : z.cells.size = n) (hn : 0 < n)
    {α : Type} {El : World → List Value → α → Prop} (good : List TypeId) {b : Nat} {st : Rd} {base : Nat} {W0 : World} {v : Value} {xs : List α} (y : α) {news : List Value}
    (hrow : Rowed T n El base w v xs) (hnl : news.length = n) (h1 : ∀ u ∈ news, u.oneCell' = true) (b1 : xs.length ≤ 40000) (b2 : by' ≤ 1000) (hS : Dq b st w) (hT : T ≠ 59) (hTw : Only b W0 w) (hW0 : W0.heap.size ≤ base) (hbw : base ≤ w.heap.size) (hTg : T ∉ good)
    (hy : El w news y) (hE : ∀ w1, Kept good w w1 → ∀ cs x, El w cs x → El w1 cs x)
    (hs : a.eval s = v) {nb : Nat} (hx : a.eval x = .slice (some ⟨nb, 0, none⟩) 1 1) (hnb : nb = w.heap.size)
    (hK : ∀ (p : Option Addr) (cap : Nat) w1, Rowed T n El base w1 (.slice p (xs.length + 1) cap) (xs ++ [y]) → Dq b st w1 → Only b W0 w1 → Kept good w w1 → wpList P ops Q rest (a.put o.dst (.slice p (xs.length + 1) cap)) w1) :
    wpList P ops Q (o :: rest) a (w.alloc (.cells news.toArray T)) := by
  obtain ⟨css, r1, r2, r3⟩ := hrow
  refine wpList_plain hgd fun _ hK' => wp_push_one s x t T z n by' ho ht hi hz hn r1 hnl h1 (by unfold maxLen; omega) ?_ hbw hs hx hnb fun p cap w1 g1 hg => ?_
  · refine Nat.le_trans (Nat.mul_le_mul_left _ b2) ?_
    omega
  have hk : Kept good w w1 := kept_push r1 hTg (grown_far hg)
  refine hK' _ _ (hK p cap w1 ?_ (hS.push r1 hT (grown_far hg)) ?_ hk)
  · refine ⟨css ++ [news], ?_, ?_, (r3.mono (hE w1 hk)).snoc (hE w1 hk _ _ hy)⟩
    · rw [List.flatten_append, List.length_append]; simpa using g1
    · intro cs hcs
      rcases List.mem_append.1 hcs with h | h
      · exact r2 cs h
      · rw [List.mem_singleton.1 h]; exact hnl
  · refine ⟨hg.os.trans hTw.os, hg.tape.trans hTw.tape, hg.output.trans hTw.output, Nat.le_trans hTw.size hg.size, fun i hi e1 => ?_⟩
    rw [hg.block i (Nat.lt_of_lt_of_le hi hTw.size) (fun e => by have := (r1.lt i e.symm).1; omega)]
    exact hTw.block i hi e1

/-- Once wrong, no more is taken. -/
theorem readN_stays {α : Type} (f : Rd → α × Rd) {k : Nat} {r : Rd} (h : (readN f k r).2.e ≠ 0) : ∀ n, k ≤ n → readN f n r = readN f k r
  | 0, hn => by obtain rfl : k = 0 := by omega
                rfl
  | n + 1, hn => by
    by_cases hk : k = n + 1
    · rw [hk]
    · have hi := readN_stays f h n (by omega)
      rw [readN_bad f n r (by rw [hi]; exact h), hi]
theorem num_low (r : Rd) (most : Int) : -1 ≤ r.num most := by
  unfold Rd.num
  split
  · exact scan_low 0 0 _
  · omega

set_option maxRecDepth 100000 in
set_option maxHeartbeats 4000000 in
/-- Its row of numbers: a count, then as many. -/
theorem drow_any (b : Nat) (r : Rd) (most : Int) (w : World) (h : Dq b r w) (hm : 0 ≤ most) (hm2 : most ≤ 1000) :
    Calls Tryz.prog 47 #[.pointer (some ⟨b, 0, none⟩), .int .i64 most] w fun e w' =>
      ∃ v, e = .returned v ∧ Rowed 3 1 ElI w.heap.size w' v (rowR most r).1 ∧ Dq b (rowR most r).2 w' ∧ Only b w w' := by
  have H := hid h
  have HN := hid (num_most r hm)
  clear h
  go_enter Tryz.func47, Tryz.ntmps47
  go_wp2_with (go_at_call 18; refine (dnum_any _ _ _ _ H.out).mono ?_; rintro e w1 ⟨rfl, hr1, ho1⟩)
  have HR1 := hid hr1
  have HO1 := hid ho1
  have HQ : Hid (rowR most r = readN (numR 1048576) (r.num most).toNat (r.afterNum most)) := rfl
  have hn : r.num most ≤ 1000 := by have := HN.out; omega
  clear hr1 ho1
  generalize r.num most = cnt at *
  generalize r.afterNum most = r1 at *
  go_loopw [6, 7] (fun v6 v7 wr => Only b w wr ∧ ∃ (k : Nat) (p : Option Addr) (cap : Nat), v6 = .slice p k cap ∧ v7 = .int .i64 k ∧ k ≤ cnt.toNat ∧ Hid (Dq b (readN (numR 1048576) k r1).2 wr ∧ Rowed 3 1 ElI w.heap.size wr (.slice p k cap) (readN (numR 1048576) k r1).1 ∧ (readN (numR 1048576) k r1).1.length = k)) (fun v6 v7 _ => (cnt.toNat - intOf v7).toNat)
  case atStart => exact ⟨HO1.out, 0, none, 0, rfl, rfl, Nat.zero_le _, HR1.out, Rowed.nil _ _ _ _ _, rfl⟩
  case round =>
    obtain ⟨hO, k, p, cap, rfl, rfl, hk, HI⟩ := hrel
    have HO := hid hO
    clear hO
    have c1 := HI.out.1.cell1
    by_cases hlt : (k : Int) < cnt
    · by_cases he : (readN (numR 1048576) k r1).2.e = 0
      · have hE : (((readN (numR 1048576) k r1).2.e : Int) == 0) = true := by simp [he]
        have HS := hid (readN_snoc (numR 1048576) k r1 he)
        have HC : Hid (k + 1 ≤ cnt.toNat ∧ k ≤ 1000) := by unfold Hid; omega
        clear he
        go_wp2_with (first
          | (go_at_call 18; refine (dnum_any _ _ _ _ HI.out.1).mono ?_; rintro e w2 ⟨rfl, hr2, ho2⟩; have HR2 := hid hr2; have HO2 := hid ho2; have HK := hid (HI.out.1.kept (good := [3]) ho2 (by decide)); clear hr2 ho2)
          | (at_builtin; refine wpList_push_doc rfl (.tmp 23) (.tmp 26) 89 3 (.int .i64 0) 1 8 rfl Tryz.underlying89 infoI rfl (by decide) [] (numR 1048576 (readN (numR 1048576) k r1).2).1 (HI.out.2.1.kept HK.out (by simp) (ElI.kept (HK.out.sub (by simp)))) rfl (by intro u hu; simp only [List.mem_cons, List.not_mem_nil, or_false] at hu; subst hu; rfl) (by have := HI.out.2.2; have := HC.out; omega) (by decide) HR2.out (by decide) (HO.out.trans HO2.out) (Nat.le_refl _) (HO.out.trans HO2.out).size (by decide) ⟨rfl, num_low _ _, num_most _ (by decide)⟩ (fun _ hk => ElI.kept hk) rfl rfl rfl ?_; intro p1 cap1 w3 hr3 hs3 ht3 hk3))
        rw [HI.out.2.2] at hr3
        try rw [HI.out.2.2]
        have HR3 := hid hr3
        have HS3 := hid hs3
        have HT3 := hid ht3
        clear hr3 hs3 ht3 hk3
        go_roundw
        case rel => exact ⟨HT3.out, k + 1, p1, cap1, by first | rfl | (rw [HI.out.2.2]), by go_num, HC.out.1, by rw [HS.out]; exact HS3.out, by rw [HS.out]; exact HR3.out, by rw [HS.out, List.length_append, HI.out.2.2]; rfl⟩
        case measure => have := HC.out.1; simp [intOf]; omega
      · have hE : (((readN (numR 1048576) k r1).2.e : Int) == 0) = false := by simpa using he
        have HS := hid (readN_stays (numR 1048576) he cnt.toNat hk)
        clear he
        go_wp2
        go_returns
        rw [HQ.out, HS.out]
        exact ⟨_, rfl, HI.out.2.1, HI.out.1, HO.out⟩
    · have HK : Hid (cnt.toNat = k) := by unfold Hid; omega
      go_wp2
      go_returns
      rw [HQ.out, HK.out]
      exact ⟨_, rfl, HI.out.2.1, HI.out.1, HO.out⟩
end Go.Proofs.YtmpgeabfogcblaaGreat

namespace Go.Proofs.YtmpgeabfogcblaaGreat
open Go.RowKit
set_option linter.unusedSimpArgs false

/-- conf's variables: the result at block N, the configuration at block C. -/
structure Dc (b N C : Nat) (r : Rd) (x1 x2 : Int) (pv dv : Value) (w y : World) : Prop where
  rd : Dq b r y
  on : Only b w y
  c0 : y.heap[N]? = some (confO (.int .i64 0) (.int .i64 0) (.slice none 0 0) (.slice none 0 0))
  c1 : y.heap[C]? = some (confO (.int .i64 x1) (.int .i64 x2) pv dv)
  hN : w.heap.size = N
  hC : N < C
  hb : b < N
theorem Dc.to {b N C : Nat} {r r' : Rd} {x1 x2 : Int} {pv dv : Value} {w y z : World} (h : Dc b N C r x1 x2 pv dv w y) (hr : Dq b r' z) (ho : Only b w z) (hk : Kept [26] y z) : Dc b N C r' x1 x2 pv dv w z :=
  ⟨hr, ho, hk _ _ _ h.c0 (by simp), hk _ _ _ h.c1 (by simp), h.hN, h.hC, h.hb⟩
theorem Dc.num {b N C : Nat} {r r' : Rd} {x1 x2 : Int} {pv dv : Value} {w y z : World} (h : Dc b N C r x1 x2 pv dv w y) (hr : Dq b r' z) (ho : Only b y z) : Dc b N C r' x1 x2 pv dv w z :=
  h.to hr (h.on.trans ho) (h.rd.kept ho (by decide))
theorem Only.put {b c j : Nat} {x y : World} (h : Only b x y) (hc : x.heap.size ≤ c) (u : Value) : Only b x (y.setCell ⟨c, j, none⟩ u) :=
  ⟨h.os, h.tape, h.output, by simpa [World.setCell] using h.size, fun i hi h1 => (Below.heap_setCell _ _ _ _ (by simp; omega)).trans (h.block i hi h1)⟩
theorem Dq.other {b : Nat} {r : Rd} {w : World} (h : Dq b r w) {p : Addr} (h1 : p.block ≠ b) (u : Value) : Dq b r (w.setCell p u) :=
  ⟨(Below.heap_setCell _ _ _ _ h1.symm).trans h.rd, h.len⟩
theorem Dc.put1 {b N C : Nat} {r : Rd} {x1 x2 : Int} {pv dv : Value} {w y : World} (h : Dc b N C r x1 x2 pv dv w y) (x : Int) : Dc b N C r x1 x pv dv w (y.setCell ⟨C, 1, none⟩ (.int .i64 x)) :=
  have := h.hN; have := h.hC; have := h.hb
  ⟨h.rd.other (by simp; omega) _, h.on.put (by omega) _, (Below.heap_setCell _ _ _ _ (by simp; omega)).trans h.c0, blk_set h.c1 1 _, h.hN, h.hC, h.hb⟩
theorem Dc.putP {b N C : Nat} {r : Rd} {x1 x2 : Int} {pv dv : Value} {w y : World} (h : Dc b N C r x1 x2 pv dv w y) (v : Value) : Dc b N C r x1 x2 v dv w (y.setCell ⟨C, 2, none⟩ v) :=
  have := h.hN; have := h.hC; have := h.hb
  ⟨h.rd.other (by simp; omega) _, h.on.put (by omega) _, (Below.heap_setCell _ _ _ _ (by simp; omega)).trans h.c0, blk_set h.c1 2 _, h.hN, h.hC, h.hb⟩
theorem Dc.putD {b N C : Nat} {r : Rd} {x1 x2 : Int} {pv dv : Value} {w y : World} (h : Dc b N C r x1 x2 pv dv w y) (v : Value) : Dc b N C r x1 x2 pv v w (y.setCell ⟨C, 3, none⟩ v) :=
  have := h.hN; have := h.hC; have := h.hb
  ⟨h.rd.other (by simp; omega) _, h.on.put (by omega) _, (Below.heap_setCell _ _ _ _ (by simp; omega)).trans h.c0, blk_set h.c1 3 _, h.hN, h.hC, h.hb⟩
theorem Dc.keptC {b N C : Nat} {r : Rd} {x1 x2 : Int} {pv dv : Value} {w y : World} (h : Dc b N C r x1 x2 pv dv w y) {good : List TypeId} (hg : 26 ∉ good) (j : Nat) (v : Value) : Kept good y (y.setCell ⟨C, j, none⟩ v) :=
  ((Only.refl C y).setCell (j := j) v).kept h.c1 hg
theorem Dc.cells {b N C : Nat} {r : Rd} {x1 x2 : Int} {pv dv : Value} {w y : World} (h : Dc b N C r x1 x2 pv dv w y) : y.cell? ⟨C, 1, none⟩ = some (.int .i64 x2) ∧ y.cell? ⟨C, 2, none⟩ = some pv ∧ y.cell? ⟨C, 3, none⟩ = some dv ∧ y.frozen? ⟨C, 1, none⟩ = false ∧ y.frozen? ⟨C, 2, none⟩ = false ∧ y.frozen? ⟨C, 3, none⟩ = false :=
  ⟨blk_cell h.c1 1, blk_cell h.c1 2, blk_cell h.c1 3, blk_free h.c1 1, blk_free h.c1 2, blk_free h.c1 3⟩
/-- What conf comes to. -/
def DocConf (b : Nat) (q : Cnf × Rd) (w : World) (e : Ending) (w' : World) : Prop := ∃ pv dv, e = .returned (.agg #[.int .i64 q.1.frame, .int .i64 q.1.epoch, pv, dv]) ∧
  Rowed 89 1 ElR 0 w' pv q.1.plans ∧ Rowed 94 10 ElD 0 w' dv q.1.doms ∧ Dq b q.2 w' ∧ Only b w w'

/-- A domain's variable at block X: its ten cells. -/
structure Dx (b X : Nat) (r : Rd) (cs : Array Value) (w y : World) : Prop where
  rd : Dq b r y
  on : Only b w y
  xb : y.heap[X]? = some (.cells cs 94 (0, 0))
  hX : w.heap.size ≤ X
  hb : b < w.heap.size
theorem Dx.to {b X : Nat} {r r' : Rd} {cs : Array Value} {w y z : World} (h : Dx b X r cs w y) (hr : Dq b r' z) (ho : Only b w z) (hk : Kept [94] y z) : Dx b X r' cs w z :=
  ⟨hr, ho, hk _ _ _ h.xb (by simp), h.hX, h.hb⟩
theorem Dx.num {b X : Nat} {r r' : Rd} {cs : Array Value} {w y z : World} (h : Dx b X r cs w y) (hr : Dq b r' z) (ho : Only b y z) : Dx b X r' cs w z :=
  h.to hr (h.on.trans ho) (h.rd.kept ho (by decide))
theorem Dx.put {b X : Nat} {r : Rd} {cs : Array Value} {w y : World} (h : Dx b X r cs w y) (j : Nat) (u : Value) : Dx b X r (cs.setIfInBounds j u) w (y.setCell ⟨X, j, none⟩ u) :=
  have := h.hX; have := h.hb
  ⟨h.rd.other (by simp; omega) _, h.on.put (by omega) _, blk_set h.xb j _, h.hX, h.hb⟩
theorem Dx.keptX {b X : Nat} {r : Rd} {cs : Array Value} {w y : World} (h : Dx b X r cs w y) {good : List TypeId} (hg : 94 ∉ good) (j : Nat) (v : Value) : Kept good y (y.setCell ⟨X, j, none⟩ v) :=
  ((Only.refl X y).setCell (j := j) v).kept h.xb hg
theorem dbits_any (b : Nat) (r : Rd) (w : World) (h : Dq b r w) :
    Calls Tryz.prog 46 #[.pointer (some ⟨b, 0, none⟩)] w fun e w' => e = .returned (.int .u64 r.bits) ∧ Dq b r.afterBits w' ∧ Only b w w' :=
  (qbits_any b r w h.rd (Nat.le_trans h.len (by decide))).mono fun _ _ ⟨h1, h2, h3⟩ => ⟨h1, ⟨h2, Nat.le_trans (Rd.afterBits_len r) h.len⟩, h3⟩

theorem dnum_to {b : Nat} {most : Int} {t t' : Rd} {x : Int} (e : numR most t = (x, t')) {w : World} (h : Dq b t w) :
    Calls Tryz.prog 18 #[.pointer (some ⟨b, 0, none⟩), .int .i64 most] w fun e w' => e = .returned (.int .i64 x) ∧ Dq b t' w' ∧ Only b w w' := by
  have := dnum_any b t most w h
  simp only [numR, Prod.mk.injEq] at e
  rwa [e.1, e.2] at this
theorem drow_to {b : Nat} {most : Int} {t t' : Rd} {l : List Int} (e : rowR most t = (l, t')) (hm : 0 ≤ most) (hm2 : most ≤ 1000) {w : World} (h : Dq b t w) :
    Calls Tryz.prog 47 #[.pointer (some ⟨b, 0, none⟩), .int .i64 most] w fun e w' => ∃ v, e = .returned v ∧ Rowed 3 1 ElI w.heap.size w' v l ∧ Dq b t' w' ∧ Only b w w' := by
  have := drow_any b t most w h hm hm2
  rwa [e] at this
theorem dbits_to {b : Nat} {t t' : Rd} {x : Int} (e : t.bits = x) (e' : t.afterBits = t') {w : World} (h : Dq b t w) :
    Calls Tryz.prog 46 #[.pointer (some ⟨b, 0, none⟩)] w fun e w' => e = .returned (.int .u64 x) ∧ Dq b t' w' ∧ Only b w w' := by
  have := dbits_any b t w h
  rwa [e, e'] at this
theorem domR_of {t t1 t2 t3 t4 t5 t6 t7 t8 t9 t10 t11 : Rd} {y1 y2 n3 y4 y6 y7 y8 y9 y10 : Int} {y3 : List (List Int)} {y5 : List Int} (e1 : numR 255 t = (y1, t1)) (e2 : t1.bits = y2) (e2' : t1.afterBits = t2) (e3 : numR 3 t2 = (n3, t3)) (e4 : readN (rowR 300) n3.toNat t3 = (y3, t4)) (e5 : numR 6 t4 = (y4, t5)) (e6 : rowR 4 t5 = (y5, t6)) (e7 : numR 8 t6 = (y6, t7)) (e8 : numR 4 t7 = (y7, t8)) (e9 : numR 16 t8 = (y8, t9)) (e10 : numR 8 t9 = (y9, t10)) (e11 : numR 8 t10 = (y10, t11)) :
    domR t = (⟨y1, y2, y3, y5, y4, y6, y7, y8, y9, y10⟩, t11) := by
  simp only [numR, Prod.mk.injEq] at e1 e3 e5 e7 e8 e9 e10 e11
  simp only [domR, countR, e1, e2, e2', e3, e4, e5, e6, e7, e8, e9, e10, e11]

/-- A piece of a function's body: the way to it, 0 and 1 at a seq or a cond, anything at what has one part. -/
def codeAt : List Nat → Code → Code
  | [], c => c
  | 0 :: p, .seq a _ => codeAt p a
  | 1 :: p, .seq _ b => codeAt p b
  | 0 :: p, .cond _ a _ => codeAt p a
  | 1 :: p, .cond _ _ b => codeAt p b
  | _ :: p, .block _ b => codeAt p b
  | _ :: p, .loop b => codeAt p b
  | _ :: p, .scope b => codeAt p b
  | _, c => c
def bodyAt (f : Func) (p : List Nat) : Code := match f.body with
  | some c => codeAt p c
  | none => .skip
/-- It ends as it should, with M. -/
abbrev Ends (M : Act → World → Prop) : Exit → Act → World → Prop := fun e a w => e = .normal ∧ M a w

/-- conf's variables and its two rows. -/
structure Dm (b N C : Nat) (r : Rd) (x1 x2 : Int) (pv dv : Value) (q : List (List Int)) (ds : List Dom) (w y : World) : Prop where
  c : Dc b N C r x1 x2 pv dv w y
  plans : Rowed 89 1 ElR N y pv q
  doms : Rowed 94 10 ElD N y dv ds
theorem Dm.num {b N C : Nat} {r r' : Rd} {x1 x2 : Int} {pv dv : Value} {q : List (List Int)} {ds : List Dom} {w y z : World} (h : Dm b N C r x1 x2 pv dv q ds w y) (hr : Dq b r' z) (ho : Only b y z) : Dm b N C r' x1 x2 pv dv q ds w z :=
  have hk := h.c.rd.kept (good := [89, 3, 94]) ho (by decide)
  ⟨h.c.num hr ho, h.plans.kept hk (by simp) (ElR.kept (hk.sub (by simp))), h.doms.kept hk (by simp) (ElD.kept (hk.sub (by simp)))⟩
theorem Dm.putD {b N C : Nat} {r : Rd} {x1 x2 : Int} {pv dv : Value} {q : List (List Int)} {w y : World} (h : Dc b N C r x1 x2 pv dv w y) (hp : Rowed 89 1 ElR N y pv q) {v : Value} {ds' : List Dom} (hv : Rowed 94 10 ElD N y v ds') : Dm b N C r x1 x2 pv v q ds' w (y.setCell ⟨C, 3, none⟩ v) :=
  have hk := h.keptC (good := [89, 3, 94]) (by decide) 3 v
  ⟨h.putD v, hp.kept hk (by simp) (ElR.kept (hk.sub (by simp))), hv.kept hk (by simp) (ElD.kept (hk.sub (by simp)))⟩

/-- A domain's variable with its row of routes and its row of release. -/
structure Dw (b X : Nat) (r : Rd) (cs : Array Value) (vr : Value) (lr : List (List Int)) (ve : Value) (le : List Int) (w y : World) : Prop where
  dx : Dx b X r cs w y
  routes : Rowed 89 1 ElR X y vr lr
  rel : Rowed 3 1 ElI 0 y ve le
theorem Dw.num {b X : Nat} {r r' : Rd} {cs : Array Value} {vr ve : Value} {lr : List (List Int)} {le : List Int} {w y z : World} (h : Dw b X r cs vr lr ve le w y) (hr : Dq b r' z) (ho : Only b y z) : Dw b X r' cs vr lr ve le w z :=
  have hk := h.dx.rd.kept (good := [89, 3]) ho (by decide)
  ⟨h.dx.num hr ho, h.routes.kept hk (by simp) (ElR.kept (hk.sub (by simp))), h.rel.kept hk (by simp) (ElI.kept (hk.sub (by simp)))⟩
theorem Dw.put {b X : Nat} {r : Rd} {cs cs' : Array Value} {vr ve : Value} {lr : List (List Int)} {le : List Int} {w y : World} (h : Dw b X r cs vr lr ve le w y) (j : Nat) (u : Value) (e : cs.setIfInBounds j u = cs') : Dw b X r cs' vr lr ve le w (y.setCell ⟨X, j, none⟩ u) :=
  have hk := h.dx.keptX (good := [89, 3]) (by decide) j u
  ⟨e ▸ h.dx.put j u, h.routes.kept hk (by simp) (ElR.kept (hk.sub (by simp))), h.rel.kept hk (by simp) (ElI.kept (hk.sub (by simp)))⟩
theorem Dw.release {b X : Nat} {r : Rd} {cs : Array Value} {vr ve v : Value} {lr : List (List Int)} {le l : List Int} {w y : World} (h : Dw b X r cs vr lr ve le w y) (hv : Rowed 3 1 ElI 0 y v l) : Dw b X r cs vr lr v l w y := ⟨h.dx, h.routes, hv⟩

/-- The step alone of wpList_push_doc. -/
theorem wp_push_doc {P : Program} {o : Oper} {a : Act} {w : World} {K : Act → World → Prop} {Q : Exit → Act → World → Prop} (s x : Operand) (t T : TypeId) (z : Value) (n by' : Nat)
    (ho : o.op = .call { callee := .builtin .append, args := #[s, x], argTypes := #[t, t] }) (ht : P.underlying t = some (.slice T)) (hi : (P.info? T).map (fun i => (i.zero, i.size, i.bytes)) = some (some z, n, by')) (hz : z.cells.size = n) (hn : 0 < n)
    {α : Type} {El : World → List Value → α → Prop} (good : List TypeId) {b : Nat} {st : Rd} {base : Nat} {W0 : World} {v : Value} {xs : List α} (y : α) {news : List Value}
    (hrow : Rowed T n El base w v xs) (hnl : news.length = n) (h1 : ∀ u ∈ news, u.oneCell' = true) (b1 : xs.length ≤ 40000) (b2 : by' ≤ 1000) (hS : Dq b st w) (hT : T ≠ 59) (hTw : Only b W0 w) (hW0 : W0.heap.size ≤ base) (hbw : base ≤ w.heap.size) (hTg : T ∉ good)
    (hy : El w news y) (hE : ∀ w1, Kept good w w1 → ∀ cs x, El w cs x → El w1 cs x)
    (hs : a.eval s = v) {nb : Nat} (hx : a.eval x = .slice (some ⟨nb, 0, none⟩) 1 1) (hnb : nb = w.heap.size)
    (hK : ∀ (p : Option Addr) (cap : Nat) w1, Rowed T n El base w1 (.slice p (xs.length + 1) cap) (xs ++ [y]) → Dq b st w1 → Only b W0 w1 → Kept good w w1 → K (a.put o.dst (.slice p (xs.length + 1) cap)) w1) :
    o.wp P a (w.alloc (.cells news.toArray T)) K Q := by
  obtain ⟨css, r1, r2, r3⟩ := hrow
  refine wp_push_one s x t T z n by' ho ht hi hz hn r1 hnl h1 (by unfold maxLen; omega) ?_ hbw hs hx hnb fun p cap w1 g1 hg => ?_
  · refine Nat.le_trans (Nat.mul_le_mul_left _ b2) ?_
    omega
  have hk : Kept good w w1 := kept_push r1 hTg (grown_far hg)
  refine hK p cap w1 ?_ (hS.push r1 hT (grown_far hg)) ?_ hk
  · refine ⟨css ++ [news], ?_, ?_, (r3.mono (hE w1 hk)).snoc (hE w1 hk _ _ hy)⟩
    · rw [List.flatten_append, List.length_append]; simpa using g1
    · intro cs hcs
      rcases List.mem_append.1 hcs with h | h
      · exact r2 cs h
      · rw [List.mem_singleton.1 h]; exact hnl
  · refine ⟨hg.os.trans hTw.os, hg.tape.trans hTw.tape, hg.output.trans hTw.output, Nat.le_trans hTw.size hg.size, fun i hi e1 => ?_⟩
    rw [hg.block i (Nat.lt_of_lt_of_le hi hTw.size) (fun e => by have := (r1.lt i e.symm).1; omega)]
    exact hTw.block i hi e1
end Go.Proofs.YtmpgeabfogcblaaGreat

namespace Go.Proofs.YtmpgeabfogcblaaGreat
open Go.RowKit
set_option linter.unusedSimpArgs false

/-- Behind a domain. -/
def DomPost (b N C : Nat) (x1 x2 x4 : Int) (k : Nat) (pv : Value) (q : List (List Int)) (ds : List Dom) (t : Rd) (w : World) (u1 u4 u6 u7 u8 u13 u14 u15 u16 u17 u18 u19 u20 u21 u22 u23 u24 u25 u26 u27 u28 u29 u30 u31 u32 u33 u34 u35 u36 u37 u38 u39 u40 u41 u42 u43 u44 u45 u46 u47 u48 u49 u50 u51 u52 u53 u54 u55 u56 u57 u58 u59 u60 u61 u62 u63 u64 u65 u66 u67 u68 u69 u127 : Value) (a' : Act) (y : World) : Prop :=
  ∃ (dv : Value) (u10 u11 u12 u70 u71 u72 u73 u74 u75 u76 u77 u78 u79 u80 u81 u82 u83 u84 u85 u86 u87 u88 u89 u90 u91 u92 u93 u94 u95 u96 u97 u98 u99 u100 u101 u102 u103 u104 u105 u106 u107 u108 u109 u110 u111 u112 u113 u114 u115 u116 u117 u118 u119 u120 u121 u122 u123 u124 u125 u126 : Value), a' = { tmps := #[.pointer (some ⟨b, 0, none⟩), u1, .pointer (some ⟨N, 0, none⟩), .pointer (some ⟨C, 0, none⟩), u4, .int .i64 x4, u6, u7, u8, .int .i64 k, u10, u11, u12, u13, u14, u15, u16, u17, u18, u19, u20, u21, u22, u23, u24, u25, u26, u27, u28, u29, u30, u31, u32, u33, u34, u35, u36, u37, u38, u39, u40, u41, u42, u43, u44, u45, u46, u47, u48, u49, u50, u51, u52, u53, u54, u55, u56, u57, u58, u59, u60, u61, u62, u63, u64, u65, u66, u67, u68, u69, u70, u71, u72, u73, u74, u75, u76, u77, u78, u79, u80, u81, u82, u83, u84, u85, u86, u87, u88, u89, u90, u91, u92, u93, u94, u95, u96, u97, u98, u99, u100, u101, u102, u103, u104, u105, u106, u107, u108, u109, u110, u111, u112, u113, u114, u115, u116, u117, u118, u119, u120, u121, u122, u123, u124, u125, u126, u127], defers := [] } ∧ Dm b N C t x1 x2 pv dv q ds w y

set_option maxRecDepth 100000 in
set_option maxHeartbeats 4000000 in
theorem dtail {b N C X k : Nat} {x1 x2 x4 y1 y2 y4 y6 y7 y8 y9 y10 : Int} {y3 : List (List Int)} {y5 : List Int} {t t4 t5 t6 t7 t8 t9 t10 t11 : Rd} {pv dv vr : Value} {q : List (List Int)} {ds : List Dom} {w wr z : World}
    (e5 : numR 6 t4 = (y4, t5)) (e6 : rowR 4 t5 = (y5, t6)) (e7 : numR 8 t6 = (y6, t7)) (e8 : numR 4 t7 = (y7, t8)) (e9 : numR 16 t8 = (y8, t9)) (e10 : numR 8 t9 = (y9, t10)) (e11 : numR 8 t10 = (y10, t11)) (hk : k ≤ 6) (h2 : U64 y2)
    (hm : Dm b N C t x1 x2 pv dv q ds w wr) (hl : ds.length = k) (hX : wr.heap.size = X)
    (hd : Dw b X t4 #[.int .i64 y1, .int .u64 y2, vr, .slice none 0 0, .int .i64 0, .int .i64 0, .int .i64 0, .int .i64 0, .int .i64 0, .int .i64 0] vr y3 (.slice none 0 0) [] wr z) (u1 u4 u6 u7 u8 u11 u12 u13 u14 u15 u16 u17 u18 u19 u20 u21 u22 u23 u24 u25 u26 u27 u28 u29 u30 u31 u32 u33 u34 u35 u36 u37 u38 u39 u40 u41 u42 u43 u44 u45 u46 u47 u48 u49 u50 u51 u52 u53 u54 u55 u56 u57 u58 u59 u60 u61 u62 u63 u64 u65 u66 u67 u68 u69 u70 u71 u72 u73 u74 u75 u76 u77 u78 u79 u80 u81 u82 u83 u84 u85 u86 u87 u88 u89 u90 u91 u92 u93 u94 u95 u96 u97 u98 u99 u100 u101 u102 u103 u104 u105 u106 u107 u108 u109 u110 u111 u112 u113 u114 u115 u116 u117 u118 u119 u120 u121 u122 u123 u124 u125 u126 u127 : Value) :
    (bodyAt Tryz.f17 [1, 1, 1, 1, 1, 1, 0, 1, 2, 2, 1, 0, 2, 1, 1, 1, 1, 1]).wp Tryz.prog (Ends (DomPost b N C x1 x2 x4 k pv q (ds ++ [⟨y1, y2, y3, y5, y4, y6, y7, y8, y9, y10⟩]) t11 w u1 u4 u6 u7 u8 u13 u14 u15 u16 u17 u18 u19 u20 u21 u22 u23 u24 u25 u26 u27 u28 u29 u30 u31 u32 u33 u34 u35 u36 u37 u38 u39 u40 u41 u42 u43 u44 u45 u46 u47 u48 u49 u50 u51 u52 u53 u54 u55 u56 u57 u58 u59 u60 u61 u62 u63 u64 u65 u66 u67 u68 u69 u127))
      ({ tmps := #[.pointer (some ⟨b, 0, none⟩), u1, .pointer (some ⟨N, 0, none⟩), .pointer (some ⟨C, 0, none⟩), u4, .int .i64 x4, u6, u7, u8, .int .i64 k, .pointer (some ⟨X, 0, none⟩), u11, u12, u13, u14, u15, u16, u17, u18, u19, u20, u21, u22, u23, u24, u25, u26, u27, u28, u29, u30, u31, u32, u33, u34, u35, u36, u37, u38, u39, u40, u41, u42, u43, u44, u45, u46, u47, u48, u49, u50, u51, u52, u53, u54, u55, u56, u57, u58, u59, u60, u61, u62, u63, u64, u65, u66, u67, u68, u69, u70, u71, u72, u73, u74, u75, u76, u77, u78, u79, u80, u81, u82, u83, u84, u85, u86, u87, u88, u89, u90, u91, u92, u93, u94, u95, u96, u97, u98, u99, u100, u101, u102, u103, u104, u105, u106, u107, u108, u109, u110, u111, u112, u113, u114, u115, u116, u117, u118, u119, u120, u121, u122, u123, u124, u125, u126, u127], defers := [] }) z := by
  obtain ⟨pr, cr, rfl, -, -⟩ := hd.routes.shape
  obtain ⟨pp, cp, rfl, -, -⟩ := hm.plans.shape
  obtain ⟨pd, cd, rfl, -, -⟩ := hm.doms.shape
  have HM := hid hm
  have HX4 := hid hd
  have HG := hid (And.intro hk (And.intro h2 (And.intro hl hX)))
  have E5 := hid e5
  have E6 := hid e6
  have E7 := hid e7
  have E8 := hid e8
  have E9 := hid e9
  have E10 := hid e10
  have E11 := hid e11
  clear hm hd hk h2 hl hX e5 e6 e7 e8 e9 e10 e11
  unfold bodyAt Tryz.f17
  simp only [codeAt]
  go_upto_region 26 with (go_at_call 18; refine (dnum_to E5.out HX4.out.dx.rd).mono ?_; rintro e z5 ⟨rfl, hr1, ho1⟩; have HY := hid (HX4.out.num hr1 ho1); clear hr1 ho1; have g0 : z5.cell? ⟨X, 4, none⟩ = some (.int .i64 0) := blk_cell HY.out.dx.xb 4; have f0 := blk_free HY.out.dx.xb 4)
  have HX5 := hid (HY.out.put (cs' := #[.int .i64 y1, .int .u64 y2, .slice pr y3.length cr, .slice none 0 0, .int .i64 y4, .int .i64 0, .int .i64 0, .int .i64 0, .int .i64 0, .int .i64 0]) 4 (.int .i64 y4) rfl)
  clear HX4 HY g0 f0 E5
  generalize z5.setCell ⟨X, 4, none⟩ (.int .i64 y4) = z5 at *
  go_upto_region 27 with (go_at_call 47; refine (drow_to E6.out (by decide) (by decide) HX5.out.dx.rd).mono ?_; rintro e z6 ⟨v5, rfl, hv5, hr1, ho1⟩; obtain ⟨p5, c5, rfl, -, -⟩ := hv5.shape; have HY := hid ((HX5.out.num hr1 ho1).release (hv5.weak (Nat.zero_le _))); clear hv5 hr1 ho1; have g0 : z6.cell? ⟨X, 3, none⟩ = some (.slice none 0 0) := blk_cell HY.out.dx.xb 3; have f0 := blk_free HY.out.dx.xb 3)
  have HX6 := hid (HY.out.put (cs' := #[.int .i64 y1, .int .u64 y2, .slice pr y3.length cr, .slice p5 y5.length c5, .int .i64 y4, .int .i64 0, .int .i64 0, .int .i64 0, .int .i64 0, .int .i64 0]) 3 (.slice p5 y5.length c5) rfl)
  clear HX5 HY g0 f0 E6
  generalize z6.setCell ⟨X, 3, none⟩ (.slice p5 y5.length c5) = z6 at *
  go_upto_region 28 with (go_at_call 18; refine (dnum_to E7.out HX6.out.dx.rd).mono ?_; rintro e z7 ⟨rfl, hr1, ho1⟩; have HY := hid (HX6.out.num hr1 ho1); clear hr1 ho1; have g0 : z7.cell? ⟨X, 5, none⟩ = some (.int .i64 0) := blk_cell HY.out.dx.xb 5; have f0 := blk_free HY.out.dx.xb 5)
  have HX7 := hid (HY.out.put (cs' := #[.int .i64 y1, .int .u64 y2, .slice pr y3.length cr, .slice p5 y5.length c5, .int .i64 y4, .int .i64 y6, .int .i64 0, .int .i64 0, .int .i64 0, .int .i64 0]) 5 (.int .i64 y6) rfl)
  clear HX6 HY g0 f0 E7
  generalize z7.setCell ⟨X, 5, none⟩ (.int .i64 y6) = z7 at *
  go_upto_region 29 with (go_at_call 18; refine (dnum_to E8.out HX7.out.dx.rd).mono ?_; rintro e z8 ⟨rfl, hr1, ho1⟩; have HY := hid (HX7.out.num hr1 ho1); clear hr1 ho1; have g0 : z8.cell? ⟨X, 6, none⟩ = some (.int .i64 0) := blk_cell HY.out.dx.xb 6; have f0 := blk_free HY.out.dx.xb 6)
  have HX8 := hid (HY.out.put (cs' := #[.int .i64 y1, .int .u64 y2, .slice pr y3.length cr, .slice p5 y5.length c5, .int .i64 y4, .int .i64 y6, .int .i64 y7, .int .i64 0, .int .i64 0, .int .i64 0]) 6 (.int .i64 y7) rfl)
  clear HX7 HY g0 f0 E8
  generalize z8.setCell ⟨X, 6, none⟩ (.int .i64 y7) = z8 at *
  go_upto_region 30 with (go_at_call 18; refine (dnum_to E9.out HX8.out.dx.rd).mono ?_; rintro e z9 ⟨rfl, hr1, ho1⟩; have HY := hid (HX8.out.num hr1 ho1); clear hr1 ho1; have g0 : z9.cell? ⟨X, 7, none⟩ = some (.int .i64 0) := blk_cell HY.out.dx.xb 7; have f0 := blk_free HY.out.dx.xb 7)
  have HX9 := hid (HY.out.put (cs' := #[.int .i64 y1, .int .u64 y2, .slice pr y3.length cr, .slice p5 y5.length c5, .int .i64 y4, .int .i64 y6, .int .i64 y7, .int .i64 y8, .int .i64 0, .int .i64 0]) 7 (.int .i64 y8) rfl)
  clear HX8 HY g0 f0 E9
  generalize z9.setCell ⟨X, 7, none⟩ (.int .i64 y8) = z9 at *
  go_upto_region 31 with (go_at_call 18; refine (dnum_to E10.out HX9.out.dx.rd).mono ?_; rintro e z10 ⟨rfl, hr1, ho1⟩; have HY := hid (HX9.out.num hr1 ho1); clear hr1 ho1; have g0 : z10.cell? ⟨X, 8, none⟩ = some (.int .i64 0) := blk_cell HY.out.dx.xb 8; have f0 := blk_free HY.out.dx.xb 8)
  have HX10 := hid (HY.out.put (cs' := #[.int .i64 y1, .int .u64 y2, .slice pr y3.length cr, .slice p5 y5.length c5, .int .i64 y4, .int .i64 y6, .int .i64 y7, .int .i64 y8, .int .i64 y9, .int .i64 0]) 8 (.int .i64 y9) rfl)
  clear HX9 HY g0 f0 E10
  generalize z10.setCell ⟨X, 8, none⟩ (.int .i64 y9) = z10 at *
  go_upto_region 32 with (go_at_call 18; refine (dnum_to E11.out HX10.out.dx.rd).mono ?_; rintro e z11 ⟨rfl, hr1, ho1⟩; have HY := hid (HX10.out.num hr1 ho1); clear hr1 ho1; have g0 : z11.cell? ⟨X, 9, none⟩ = some (.int .i64 0) := blk_cell HY.out.dx.xb 9; have f0 := blk_free HY.out.dx.xb 9)
  have HX11 := hid (HY.out.put (cs' := #[.int .i64 y1, .int .u64 y2, .slice pr y3.length cr, .slice p5 y5.length c5, .int .i64 y4, .int .i64 y6, .int .i64 y7, .int .i64 y8, .int .i64 y9, .int .i64 y10]) 9 (.int .i64 y10) rfl)
  clear HX10 HY g0 f0 E11
  generalize z11.setCell ⟨X, 9, none⟩ (.int .i64 y10) = z11 at *
  have HDM := hid (HM.out.num HX11.out.dx.rd HX11.out.dx.on)
  clear HM
  have g0 : z11.cell? ⟨X, 0, none⟩ = some (.int .i64 y1) := blk_cell HX11.out.dx.xb 0
  have g1 : z11.cell? ⟨X, 1, none⟩ = some (.int .u64 y2) := blk_cell HX11.out.dx.xb 1
  have g2 : z11.cell? ⟨X, 2, none⟩ = some (.slice pr y3.length cr) := blk_cell HX11.out.dx.xb 2
  have g3 : z11.cell? ⟨X, 3, none⟩ = some (.slice p5 y5.length c5) := blk_cell HX11.out.dx.xb 3
  have g4 : z11.cell? ⟨X, 4, none⟩ = some (.int .i64 y4) := blk_cell HX11.out.dx.xb 4
  have g5 : z11.cell? ⟨X, 5, none⟩ = some (.int .i64 y6) := blk_cell HX11.out.dx.xb 5
  have g6 : z11.cell? ⟨X, 6, none⟩ = some (.int .i64 y7) := blk_cell HX11.out.dx.xb 6
  have g7 : z11.cell? ⟨X, 7, none⟩ = some (.int .i64 y8) := blk_cell HX11.out.dx.xb 7
  have g8 : z11.cell? ⟨X, 8, none⟩ = some (.int .i64 y9) := blk_cell HX11.out.dx.xb 8
  have g9 : z11.cell? ⟨X, 9, none⟩ = some (.int .i64 y10) := blk_cell HX11.out.dx.xb 9
  obtain ⟨c1, c2, c3, f1, f2, f3⟩ := HDM.out.c.cells
  have hlt : X < z11.heap.size := lt_of_block HX11.out.dx.xb
  go_wp2_with (at_builtin; refine wpList_push_doc rfl (.tmp 122) (.tmp 124) 24 94 (.agg #[.int .i64 0, .int .u64 0, .slice none 0 0, .slice none 0 0, .int .i64 0, .int .i64 0, .int .i64 0, .int .i64 0, .int .i64 0, .int .i64 0]) 10 112 rfl Tryz.underlying24 infoD rfl (by decide) [89, 3, 26] (⟨y1, y2, y3, y5, y4, y6, y7, y8, y9, y10⟩ : Dom) HDM.out.doms rfl (by intro u hu; simp only [List.mem_cons, List.not_mem_nil, or_false] at hu; rcases hu with rfl | rfl | rfl | rfl | rfl | rfl | rfl | rfl | rfl | rfl <;> rfl) (by have := HG.out; omega) (by decide) HDM.out.c.rd (by decide) HDM.out.c.on (Nat.le_of_eq HDM.out.c.hN) (by have := HDM.out.c.on.size; have := HDM.out.c.hN; omega) (by decide) ⟨_, _, rfl, HX11.out.routes.weak (Nat.zero_le _), HX11.out.rel, HG.out.2.1⟩ (fun _ hk => ElD.kept (hk.sub (by simp))) rfl rfl rfl ?_; intro p1 cap1 w9 hr9 hs9 ht9 hk9; have HD9 := hid (HDM.out.c.to hs9 ht9 (hk9.sub (by simp))); have HR9 := hid hr9; have HP9 := hid (HDM.out.plans.kept hk9 (by simp) (ElR.kept (hk9.sub (by simp)))); clear hr9 hs9 ht9 hk9 c1 c2 c3 f1 f2 f3; obtain ⟨c1, c2, c3, f1, f2, f3⟩ := HD9.out.cells)
  exact ⟨rfl, _, _, _, _, _, _, _, _, _, _, _, _, _, _, _, _, _, _, _, _, _, _, _, _, _, _, _, _, _, _, _, _, _, _, _, _, _, _, _, _, _, _, _, _, _, _, _, _, _, _, _, _, _, _, _, _, _, _, _, _, _, rfl, Dm.putD HD9.out HP9.out HR9.out⟩
end Go.Proofs.YtmpgeabfogcblaaGreat

namespace Go.Proofs.YtmpgeabfogcblaaGreat
open Go.RowKit
set_option linter.unusedSimpArgs false

theorem Dx.ext {b X : Nat} {r : Rd} {cs : Array Value} {w y z : World} (h : Dx b X r cs w y) (k : Ext y z) : Dx b X r cs w z := ⟨h.rd.ext k, h.on.ext k, block_ext k h.xb, h.hX, h.hb⟩

/-- Behind one route. -/
def RtPost (b N C X : Nat) (x4 y1 y2 n3 : Int) (i k : Nat) (qs : List (List Int)) (t : Rd) (wr : World) (u1 u4 u6 u7 u8 u13 u14 u15 u16 u17 u18 u19 u20 u21 u22 u23 u24 u25 u26 u27 u28 u29 u30 u31 u32 u33 u34 u35 u36 u37 u38 u39 u40 u41 u42 u43 u44 u45 u46 u47 u48 u49 u50 u51 u52 u53 u54 u55 u56 u57 u58 u59 u60 u61 u62 u63 u64 u65 u66 u67 u68 u69 u70 u71 u72 u73 u74 u75 u76 u77 u78 u79 u80 u81 u82 u83 u84 u85 u86 u87 u88 u89 u90 u91 u92 u100 u101 u102 u103 u104 u105 u106 u107 u108 u109 u110 u111 u112 u113 u114 u115 u116 u117 u118 u119 u120 u121 u122 u123 u124 u125 u126 u127 : Value) (a' : Act) (y : World) : Prop :=
  ∃ (vr : Value) (u93 u94 u95 u96 u97 u98 u99 : Value), a' = { tmps := #[.pointer (some ⟨b, 0, none⟩), u1, .pointer (some ⟨N, 0, none⟩), .pointer (some ⟨C, 0, none⟩), u4, .int .i64 x4, u6, u7, u8, .int .i64 k, .pointer (some ⟨X, 0, none⟩), .int .i64 n3, .int .i64 i, u13, u14, u15, u16, u17, u18, u19, u20, u21, u22, u23, u24, u25, u26, u27, u28, u29, u30, u31, u32, u33, u34, u35, u36, u37, u38, u39, u40, u41, u42, u43, u44, u45, u46, u47, u48, u49, u50, u51, u52, u53, u54, u55, u56, u57, u58, u59, u60, u61, u62, u63, u64, u65, u66, u67, u68, u69, u70, u71, u72, u73, u74, u75, u76, u77, u78, u79, u80, u81, u82, u83, u84, u85, u86, u87, u88, u89, u90, u91, u92, u93, u94, u95, u96, u97, u98, u99, u100, u101, u102, u103, u104, u105, u106, u107, u108, u109, u110, u111, u112, u113, u114, u115, u116, u117, u118, u119, u120, u121, u122, u123, u124, u125, u126, u127], defers := [] } ∧ Dx b X t #[.int .i64 y1, .int .u64 y2, vr, .slice none 0 0, .int .i64 0, .int .i64 0, .int .i64 0, .int .i64 0, .int .i64 0, .int .i64 0] wr y ∧ Rowed 89 1 ElR X y vr qs

set_option maxRecDepth 100000 in
set_option maxHeartbeats 4000000 in
theorem droute {b N C X i k : Nat} {x4 y1 y2 n3 : Int} {t t' : Rd} {l : List Int} {qs : List (List Int)} {vr : Value} {wr z : World} (e : rowR 300 t = (l, t')) (hi : qs.length ≤ 3) (hX : wr.heap.size = X)
    (hd : Dx b X t #[.int .i64 y1, .int .u64 y2, vr, .slice none 0 0, .int .i64 0, .int .i64 0, .int .i64 0, .int .i64 0, .int .i64 0, .int .i64 0] wr z) (hr : Rowed 89 1 ElR X z vr qs) (u1 u4 u6 u7 u8 u13 u14 u15 u16 u17 u18 u19 u20 u21 u22 u23 u24 u25 u26 u27 u28 u29 u30 u31 u32 u33 u34 u35 u36 u37 u38 u39 u40 u41 u42 u43 u44 u45 u46 u47 u48 u49 u50 u51 u52 u53 u54 u55 u56 u57 u58 u59 u60 u61 u62 u63 u64 u65 u66 u67 u68 u69 u70 u71 u72 u73 u74 u75 u76 u77 u78 u79 u80 u81 u82 u83 u84 u85 u86 u87 u88 u89 u90 u91 u92 u93 u94 u95 u96 u97 u98 u99 u100 u101 u102 u103 u104 u105 u106 u107 u108 u109 u110 u111 u112 u113 u114 u115 u116 u117 u118 u119 u120 u121 u122 u123 u124 u125 u126 u127 : Value) :
    (bodyAt Tryz.f17 [1, 1, 1, 1, 1, 1, 0, 1, 2, 2, 1, 0, 2, 1, 1, 1, 1, 0, 1, 2, 2, 1, 0, 2]).wp Tryz.prog (Ends (RtPost b N C X x4 y1 y2 n3 i k (qs ++ [l]) t' wr u1 u4 u6 u7 u8 u13 u14 u15 u16 u17 u18 u19 u20 u21 u22 u23 u24 u25 u26 u27 u28 u29 u30 u31 u32 u33 u34 u35 u36 u37 u38 u39 u40 u41 u42 u43 u44 u45 u46 u47 u48 u49 u50 u51 u52 u53 u54 u55 u56 u57 u58 u59 u60 u61 u62 u63 u64 u65 u66 u67 u68 u69 u70 u71 u72 u73 u74 u75 u76 u77 u78 u79 u80 u81 u82 u83 u84 u85 u86 u87 u88 u89 u90 u91 u92 u100 u101 u102 u103 u104 u105 u106 u107 u108 u109 u110 u111 u112 u113 u114 u115 u116 u117 u118 u119 u120 u121 u122 u123 u124 u125 u126 u127))
      ({ tmps := #[.pointer (some ⟨b, 0, none⟩), u1, .pointer (some ⟨N, 0, none⟩), .pointer (some ⟨C, 0, none⟩), u4, .int .i64 x4, u6, u7, u8, .int .i64 k, .pointer (some ⟨X, 0, none⟩), .int .i64 n3, .int .i64 i, u13, u14, u15, u16, u17, u18, u19, u20, u21, u22, u23, u24, u25, u26, u27, u28, u29, u30, u31, u32, u33, u34, u35, u36, u37, u38, u39, u40, u41, u42, u43, u44, u45, u46, u47, u48, u49, u50, u51, u52, u53, u54, u55, u56, u57, u58, u59, u60, u61, u62, u63, u64, u65, u66, u67, u68, u69, u70, u71, u72, u73, u74, u75, u76, u77, u78, u79, u80, u81, u82, u83, u84, u85, u86, u87, u88, u89, u90, u91, u92, u93, u94, u95, u96, u97, u98, u99, u100, u101, u102, u103, u104, u105, u106, u107, u108, u109, u110, u111, u112, u113, u114, u115, u116, u117, u118, u119, u120, u121, u122, u123, u124, u125, u126, u127], defers := [] }) z := by
  obtain ⟨pr, cr, rfl, -, -⟩ := hr.shape
  have E := hid e
  have HG := hid (And.intro hi hX)
  clear e hi hX
  unfold bodyAt Tryz.f17
  simp only [codeAt]
  refine wp_region_T 5 3 (fun u => u.cell? ⟨X, 2, none⟩ = some (.slice pr qs.length cr)) (by kernel_rfl) (by kernel_rfl) ?_
  have HX0 := hid (hd.ext (Ext.drew (Ext.refl z)))
  have HR0 := hid (hr.kept (Kept.of_ext (g := [89, 3]) (Ext.drew (Ext.refl z))) (by simp) (ElR.kept ((Kept.of_ext (g := [89, 3]) (Ext.drew (Ext.refl z))).sub (by simp))))
  clear hd hr
  generalize z.drew = v0 at *
  have HSS : v0.cell? ⟨X, 2, none⟩ = some (.slice pr qs.length cr) := blk_cell HX0.out.xb 2
  refine wpT_take 0 (v := ?v1) rfl (by kernel_rfl) (by kernel_rfl) (by kernel_rfl) (by kernel_rfl) (by intro _ _ _ h; first | exact h | (obtain ⟨h, _⟩ := h; cases h)) (by rfl) HSS ?hy1 ?_
  case hy1 => (intro u hu; go_simp; first | done | (with_reducible rfl))
  (try simp only [Act.put, List.getElem_toArray, List.getElem_cons_zero, List.getElem_cons_succ, List.setIfInBounds_toArray, List.set_cons_zero, List.set_cons_succ])
  refine wpT_take 2 (v := ?v2) rfl (by kernel_rfl) (by kernel_rfl) (by kernel_rfl) (by kernel_rfl) (by intro _ _ _ h; first | exact h | (obtain ⟨h, _⟩ := h; cases h)) (by rfl) HSS ?hy2 ?_
  case hy2 => (intro u hu; go_simp; first | done | (with_reducible rfl))
  (try simp only [Act.put, List.getElem_toArray, List.getElem_cons_zero, List.getElem_cons_succ, List.setIfInBounds_toArray, List.set_cons_zero, List.set_cons_succ])
  refine wpT_two 1 3 rfl rfl (by kernel_rfl) (by rfl) (by rfl) (fun K' hK => ?_) (fun K' hK => ?_)
  · skip
    go_simp
    refine hK.out _ _ HSS ?_
    clear hK K'
    (try simp only [Act.put, List.getElem_toArray, List.getElem_cons_zero, List.getElem_cons_succ, List.setIfInBounds_toArray, List.set_cons_zero, List.set_cons_succ])
    refine wpT_one 3 rfl (by kernel_rfl) (by rfl) (fun K' hK => ?_)
    go_simp
    refine (drow_to E.out (by decide) (by decide) HX0.out.rd).mono ?_
    rintro e v1 ⟨vl, rfl, hvl, hr1, ho1⟩
    obtain ⟨pl, cl, rfl, -, -⟩ := hvl.shape
    have HL := hid hvl
    have HX1 := hid (HX0.out.num hr1 ho1)
    have hk := HX0.out.rd.kept (good := [89, 3]) ho1 (by decide)
    have HR1 := hid (HR0.out.kept hk (by simp) (ElR.kept (hk.sub (by simp))))
    have HS1 : v1.cell? ⟨X, 2, none⟩ = some (.slice pr qs.length cr) := blk_cell HX1.out.xb 2
    have hlt : X < v1.heap.size := lt_of_block HX1.out.xb
    refine hK.out _ _ HS1 ?_
    clear hK K' HSS hvl hr1 ho1 hk HX0 HR0
    have HSS := HS1
    clear HS1
    (try simp only [Act.put, List.getElem_toArray, List.getElem_cons_zero, List.getElem_cons_succ, List.setIfInBounds_toArray, List.set_cons_zero, List.set_cons_succ])
    refine wpT_one 4 rfl (by kernel_rfl) (by rfl) (fun K' hK => ?_)
    go_simp
    refine hK.out _ _ (cell_alloc _ HSS) ?_
    have HSA := cell_alloc (.cells #[.slice pl l.length cl] 89 (0, 0)) HSS
    clear hK K'
    (try simp only [Act.put, List.getElem_toArray, List.getElem_cons_zero, List.getElem_cons_succ, List.setIfInBounds_toArray, List.set_cons_zero, List.set_cons_succ])
    refine wpT_done (by kernel_rfl) ?_
    refine wpAny_one 5 rfl (by kernel_rfl) (by rfl) (fun K' hK => ?_)
    change Oper.wp _ _ _ (v1.alloc (.cells [Value.slice pl l.length cl].toArray 89)) _ _
    refine wp_push_doc (.tmp 94) (.tmp 97) 23 89 (.slice none 0 0) 1 24 rfl Tryz.underlying23 infoR rfl (by decide) [3, 94] l HR1.out rfl (by intro u hu; simp only [List.mem_cons, List.not_mem_nil, or_false] at hu; subst hu; rfl) (by have := HG.out; omega) (by decide) HX1.out.rd (by decide) HX1.out.on (Nat.le_of_eq HG.out.2) (by omega) (by decide) ⟨_, rfl, HL.out.weak (Nat.zero_le _)⟩ (fun _ hk => ElR.kept (hk.sub (by simp))) rfl rfl rfl ?_
    intro p1 cap1 w9 hr9 hs9 ht9 hk9
    refine hK.out _ _ ?_
    (try simp only [Act.put, List.getElem_toArray, List.getElem_cons_zero, List.getElem_cons_succ, List.setIfInBounds_toArray, List.set_cons_zero, List.set_cons_succ])
    have HX9 := hid (HX1.out.to hs9 ht9 (hk9.sub (by simp)))
    have HR9 := hid hr9
    clear hr9 hs9 ht9 hk9 hK K' HSS
    refine wpAny_one 6 rfl (by kernel_rfl) (by rfl) (fun K' hK => ?_)
    go_simp
    refine hK.out _ _ ?_
    clear hK K'
    (try simp only [Act.put, List.getElem_toArray, List.getElem_cons_zero, List.getElem_cons_succ, List.setIfInBounds_toArray, List.set_cons_zero, List.set_cons_succ])
    refine wpAny_one 7 rfl (by kernel_rfl) (by rfl) (fun K' hK => ?_)
    have g2 : w9.cell? ⟨X, 2, none⟩ = some (.slice pr qs.length cr) := blk_cell HX9.out.xb 2
    have f2 := blk_free HX9.out.xb 2
    go_simp
    refine hK.out _ _ ?_
    (try simp only [Act.put, List.getElem_toArray, List.getElem_cons_zero, List.getElem_cons_succ, List.setIfInBounds_toArray, List.set_cons_zero, List.set_cons_succ])
    refine wpAny_done (by kernel_rfl) ?_ _
    have hk := HX9.out.keptX (good := [89, 3]) (by decide) 2 (.slice p1 (qs.length + 1) cap1)
    exact ⟨rfl, _, _, _, _, _, _, _, _, rfl, HX9.out.put 2 _, HR9.out.kept hk (by simp) (ElR.kept (hk.sub (by simp)))⟩
  · skip
    go_simp
    refine (drow_to E.out (by decide) (by decide) HX0.out.rd).mono ?_
    rintro e v1 ⟨vl, rfl, hvl, hr1, ho1⟩
    obtain ⟨pl, cl, rfl, -, -⟩ := hvl.shape
    have HL := hid hvl
    have HX1 := hid (HX0.out.num hr1 ho1)
    have hk := HX0.out.rd.kept (good := [89, 3]) ho1 (by decide)
    have HR1 := hid (HR0.out.kept hk (by simp) (ElR.kept (hk.sub (by simp))))
    have HS1 : v1.cell? ⟨X, 2, none⟩ = some (.slice pr qs.length cr) := blk_cell HX1.out.xb 2
    have hlt : X < v1.heap.size := lt_of_block HX1.out.xb
    refine hK.out _ _ HS1 ?_
    clear hK K' HSS hvl hr1 ho1 hk HX0 HR0
    have HSS := HS1
    clear HS1
    (try simp only [Act.put, List.getElem_toArray, List.getElem_cons_zero, List.getElem_cons_succ, List.setIfInBounds_toArray, List.set_cons_zero, List.set_cons_succ])
    refine wpT_two 1 4 rfl rfl (by kernel_rfl) (by rfl) (by rfl) (fun K' hK => ?_) (fun K' hK => ?_)
    · skip
      go_simp
      refine hK.out _ _ HSS ?_
      clear hK K'
      (try simp only [Act.put, List.getElem_toArray, List.getElem_cons_zero, List.getElem_cons_succ, List.setIfInBounds_toArray, List.set_cons_zero, List.set_cons_succ])
      refine wpT_one 4 rfl (by kernel_rfl) (by rfl) (fun K' hK => ?_)
      go_simp
      refine hK.out _ _ (cell_alloc _ HSS) ?_
      have HSA := cell_alloc (.cells #[.slice pl l.length cl] 89 (0, 0)) HSS
      clear hK K'
      (try simp only [Act.put, List.getElem_toArray, List.getElem_cons_zero, List.getElem_cons_succ, List.setIfInBounds_toArray, List.set_cons_zero, List.set_cons_succ])
      refine wpT_done (by kernel_rfl) ?_
      refine wpAny_one 5 rfl (by kernel_rfl) (by rfl) (fun K' hK => ?_)
      change Oper.wp _ _ _ (v1.alloc (.cells [Value.slice pl l.length cl].toArray 89)) _ _
      refine wp_push_doc (.tmp 94) (.tmp 97) 23 89 (.slice none 0 0) 1 24 rfl Tryz.underlying23 infoR rfl (by decide) [3, 94] l HR1.out rfl (by intro u hu; simp only [List.mem_cons, List.not_mem_nil, or_false] at hu; subst hu; rfl) (by have := HG.out; omega) (by decide) HX1.out.rd (by decide) HX1.out.on (Nat.le_of_eq HG.out.2) (by omega) (by decide) ⟨_, rfl, HL.out.weak (Nat.zero_le _)⟩ (fun _ hk => ElR.kept (hk.sub (by simp))) rfl rfl rfl ?_
      intro p1 cap1 w9 hr9 hs9 ht9 hk9
      refine hK.out _ _ ?_
      (try simp only [Act.put, List.getElem_toArray, List.getElem_cons_zero, List.getElem_cons_succ, List.setIfInBounds_toArray, List.set_cons_zero, List.set_cons_succ])
      have HX9 := hid (HX1.out.to hs9 ht9 (hk9.sub (by simp)))
      have HR9 := hid hr9
      clear hr9 hs9 ht9 hk9 hK K' HSS
      refine wpAny_one 6 rfl (by kernel_rfl) (by rfl) (fun K' hK => ?_)
      go_simp
      refine hK.out _ _ ?_
      clear hK K'
      (try simp only [Act.put, List.getElem_toArray, List.getElem_cons_zero, List.getElem_cons_succ, List.setIfInBounds_toArray, List.set_cons_zero, List.set_cons_succ])
      refine wpAny_one 7 rfl (by kernel_rfl) (by rfl) (fun K' hK => ?_)
      have g2 : w9.cell? ⟨X, 2, none⟩ = some (.slice pr qs.length cr) := blk_cell HX9.out.xb 2
      have f2 := blk_free HX9.out.xb 2
      go_simp
      refine hK.out _ _ ?_
      (try simp only [Act.put, List.getElem_toArray, List.getElem_cons_zero, List.getElem_cons_succ, List.setIfInBounds_toArray, List.set_cons_zero, List.set_cons_succ])
      refine wpAny_done (by kernel_rfl) ?_ _
      have hk := HX9.out.keptX (good := [89, 3]) (by decide) 2 (.slice p1 (qs.length + 1) cap1)
      exact ⟨rfl, _, _, _, _, _, _, _, _, rfl, HX9.out.put 2 _, HR9.out.kept hk (by simp) (ElR.kept (hk.sub (by simp)))⟩
    · skip
      go_simp
      refine hK.out _ _ (cell_alloc _ HSS) ?_
      have HSA := cell_alloc (.cells #[.slice pl l.length cl] 89 (0, 0)) HSS
      clear hK K'
      (try simp only [Act.put, List.getElem_toArray, List.getElem_cons_zero, List.getElem_cons_succ, List.setIfInBounds_toArray, List.set_cons_zero, List.set_cons_succ])
      refine wpT_one 1 rfl (by kernel_rfl) (by rfl) (fun K' hK => ?_)
      go_simp
      refine hK.out _ _ HSA ?_
      clear hK K'
      (try simp only [Act.put, List.getElem_toArray, List.getElem_cons_zero, List.getElem_cons_succ, List.setIfInBounds_toArray, List.set_cons_zero, List.set_cons_succ])
      refine wpT_done (by kernel_rfl) ?_
      refine wpAny_one 5 rfl (by kernel_rfl) (by rfl) (fun K' hK => ?_)
      change Oper.wp _ _ _ (v1.alloc (.cells [Value.slice pl l.length cl].toArray 89)) _ _
      refine wp_push_doc (.tmp 94) (.tmp 97) 23 89 (.slice none 0 0) 1 24 rfl Tryz.underlying23 infoR rfl (by decide) [3, 94] l HR1.out rfl (by intro u hu; simp only [List.mem_cons, List.not_mem_nil, or_false] at hu; subst hu; rfl) (by have := HG.out; omega) (by decide) HX1.out.rd (by decide) HX1.out.on (Nat.le_of_eq HG.out.2) (by omega) (by decide) ⟨_, rfl, HL.out.weak (Nat.zero_le _)⟩ (fun _ hk => ElR.kept (hk.sub (by simp))) rfl rfl rfl ?_
      intro p1 cap1 w9 hr9 hs9 ht9 hk9
      refine hK.out _ _ ?_
      (try simp only [Act.put, List.getElem_toArray, List.getElem_cons_zero, List.getElem_cons_succ, List.setIfInBounds_toArray, List.set_cons_zero, List.set_cons_succ])
      have HX9 := hid (HX1.out.to hs9 ht9 (hk9.sub (by simp)))
      have HR9 := hid hr9
      clear hr9 hs9 ht9 hk9 hK K' HSS
      refine wpAny_one 6 rfl (by kernel_rfl) (by rfl) (fun K' hK => ?_)
      go_simp
      refine hK.out _ _ ?_
      clear hK K'
      (try simp only [Act.put, List.getElem_toArray, List.getElem_cons_zero, List.getElem_cons_succ, List.setIfInBounds_toArray, List.set_cons_zero, List.set_cons_succ])
      refine wpAny_one 7 rfl (by kernel_rfl) (by rfl) (fun K' hK => ?_)
      have g2 : w9.cell? ⟨X, 2, none⟩ = some (.slice pr qs.length cr) := blk_cell HX9.out.xb 2
      have f2 := blk_free HX9.out.xb 2
      go_simp
      refine hK.out _ _ ?_
      (try simp only [Act.put, List.getElem_toArray, List.getElem_cons_zero, List.getElem_cons_succ, List.setIfInBounds_toArray, List.set_cons_zero, List.set_cons_succ])
      refine wpAny_done (by kernel_rfl) ?_ _
      have hk := HX9.out.keptX (good := [89, 3]) (by decide) 2 (.slice p1 (qs.length + 1) cap1)
      exact ⟨rfl, _, _, _, _, _, _, _, _, rfl, HX9.out.put 2 _, HR9.out.kept hk (by simp) (ElR.kept (hk.sub (by simp)))⟩
end Go.Proofs.YtmpgeabfogcblaaGreat

namespace Go.Proofs.YtmpgeabfogcblaaGreat
open Go.RowKit
set_option linter.unusedSimpArgs false

/-- Behind the routes. -/
def RtEnd (b N C X : Nat) (x4 y1 y2 : Int) (k : Nat) (qs : List (List Int)) (t : Rd) (w0 : World) (n3 : Int) (u1 u4 u6 u7 u8 u13 u14 u15 u16 u17 u18 u19 u20 u21 u22 u23 u24 u25 u26 u27 u28 u29 u30 u31 u32 u33 u34 u35 u36 u37 u38 u39 u40 u41 u42 u43 u44 u45 u46 u47 u48 u49 u50 u51 u52 u53 u54 u55 u56 u57 u58 u59 u60 u61 u62 u63 u64 u65 u66 u67 u68 u69 u70 u71 u72 u73 u74 u75 u76 u77 u78 u79 u80 u100 u101 u102 u103 u104 u105 u106 u107 u108 u109 u110 u111 u112 u113 u114 u115 u116 u117 u118 u119 u120 u121 u122 u123 u124 u125 u126 u127 : Value) (a' : Act) (y : World) : Prop :=
  ∃ (vr : Value) (u12 u81 u82 u83 u84 u85 u86 u87 u88 u89 u90 u91 u92 u93 u94 u95 u96 u97 u98 u99 : Value), a' = { tmps := #[.pointer (some ⟨b, 0, none⟩), u1, .pointer (some ⟨N, 0, none⟩), .pointer (some ⟨C, 0, none⟩), u4, .int .i64 x4, u6, u7, u8, .int .i64 k, .pointer (some ⟨X, 0, none⟩), .int .i64 n3, u12, u13, u14, u15, u16, u17, u18, u19, u20, u21, u22, u23, u24, u25, u26, u27, u28, u29, u30, u31, u32, u33, u34, u35, u36, u37, u38, u39, u40, u41, u42, u43, u44, u45, u46, u47, u48, u49, u50, u51, u52, u53, u54, u55, u56, u57, u58, u59, u60, u61, u62, u63, u64, u65, u66, u67, u68, u69, u70, u71, u72, u73, u74, u75, u76, u77, u78, u79, u80, u81, u82, u83, u84, u85, u86, u87, u88, u89, u90, u91, u92, u93, u94, u95, u96, u97, u98, u99, u100, u101, u102, u103, u104, u105, u106, u107, u108, u109, u110, u111, u112, u113, u114, u115, u116, u117, u118, u119, u120, u121, u122, u123, u124, u125, u126, u127], defers := [] } ∧ Dw b X t #[.int .i64 y1, .int .u64 y2, vr, .slice none 0 0, .int .i64 0, .int .i64 0, .int .i64 0, .int .i64 0, .int .i64 0, .int .i64 0] vr qs (.slice none 0 0) [] w0 y

set_option maxRecDepth 100000 in
set_option maxHeartbeats 4000000 in
theorem droutes {b N C X k : Nat} {x4 y1 y2 n3 : Int} {t3 t4 : Rd} {y3 : List (List Int)} {w0 z : World} (e4 : readN (rowR 300) n3.toNat t3 = (y3, t4)) (hn3 : n3 ≤ 3) (hX : w0.heap.size = X)
    (hd : Dx b X t3 #[.int .i64 y1, .int .u64 y2, .slice none 0 0, .slice none 0 0, .int .i64 0, .int .i64 0, .int .i64 0, .int .i64 0, .int .i64 0, .int .i64 0] w0 z) (u1 u4 u6 u7 u8 u12 u13 u14 u15 u16 u17 u18 u19 u20 u21 u22 u23 u24 u25 u26 u27 u28 u29 u30 u31 u32 u33 u34 u35 u36 u37 u38 u39 u40 u41 u42 u43 u44 u45 u46 u47 u48 u49 u50 u51 u52 u53 u54 u55 u56 u57 u58 u59 u60 u61 u62 u63 u64 u65 u66 u67 u68 u69 u70 u71 u72 u73 u74 u75 u76 u77 u78 u79 u80 u81 u82 u83 u84 u85 u86 u87 u88 u89 u90 u91 u92 u93 u94 u95 u96 u97 u98 u99 u100 u101 u102 u103 u104 u105 u106 u107 u108 u109 u110 u111 u112 u113 u114 u115 u116 u117 u118 u119 u120 u121 u122 u123 u124 u125 u126 u127 : Value) :
    (bodyAt Tryz.f17 [1, 1, 1, 1, 1, 1, 0, 1, 2, 2, 1, 0, 2, 1, 1, 1, 1, 0]).wp Tryz.prog (Ends (RtEnd b N C X x4 y1 y2 k y3 t4 w0 n3 u1 u4 u6 u7 u8 u13 u14 u15 u16 u17 u18 u19 u20 u21 u22 u23 u24 u25 u26 u27 u28 u29 u30 u31 u32 u33 u34 u35 u36 u37 u38 u39 u40 u41 u42 u43 u44 u45 u46 u47 u48 u49 u50 u51 u52 u53 u54 u55 u56 u57 u58 u59 u60 u61 u62 u63 u64 u65 u66 u67 u68 u69 u70 u71 u72 u73 u74 u75 u76 u77 u78 u79 u80 u100 u101 u102 u103 u104 u105 u106 u107 u108 u109 u110 u111 u112 u113 u114 u115 u116 u117 u118 u119 u120 u121 u122 u123 u124 u125 u126 u127)) ({ tmps := #[.pointer (some ⟨b, 0, none⟩), u1, .pointer (some ⟨N, 0, none⟩), .pointer (some ⟨C, 0, none⟩), u4, .int .i64 x4, u6, u7, u8, .int .i64 k, .pointer (some ⟨X, 0, none⟩), .int .i64 n3, u12, u13, u14, u15, u16, u17, u18, u19, u20, u21, u22, u23, u24, u25, u26, u27, u28, u29, u30, u31, u32, u33, u34, u35, u36, u37, u38, u39, u40, u41, u42, u43, u44, u45, u46, u47, u48, u49, u50, u51, u52, u53, u54, u55, u56, u57, u58, u59, u60, u61, u62, u63, u64, u65, u66, u67, u68, u69, u70, u71, u72, u73, u74, u75, u76, u77, u78, u79, u80, u81, u82, u83, u84, u85, u86, u87, u88, u89, u90, u91, u92, u93, u94, u95, u96, u97, u98, u99, u100, u101, u102, u103, u104, u105, u106, u107, u108, u109, u110, u111, u112, u113, u114, u115, u116, u117, u118, u119, u120, u121, u122, u123, u124, u125, u126, u127], defers := [] }) z := by
  have E4 := hid e4
  have HG := hid (And.intro hn3 hX)
  have HX3 := hid hd
  clear e4 hX hd
  unfold bodyAt Tryz.f17
  simp only [codeAt]
  go_wp2
  go_loopw [12] (fun v12 wy => ∃ (i : Nat) (vr : Value), v12 = .int .i64 i ∧ i ≤ n3.toNat ∧ Hid (Dx b X (readN (rowR 300) i t3).2 #[.int .i64 y1, .int .u64 y2, vr, .slice none 0 0, .int .i64 0, .int .i64 0, .int .i64 0, .int .i64 0, .int .i64 0, .int .i64 0] w0 wy ∧ Rowed 89 1 ElR X wy vr (readN (rowR 300) i t3).1 ∧ (readN (rowR 300) i t3).1.length = i)) (fun v12 _ => (n3.toNat - intOf v12).toNat)
  case atStart => exact ⟨0, _, rfl, Nat.zero_le _, HX3.out, Rowed.nil _ _ _ _ _, rfl⟩
  case round =>
    obtain ⟨i, vr, rfl, hi, HJ⟩ := hrel
    obtain ⟨qs, ti, hti⟩ : ∃ qs ti, readN (rowR 300) i t3 = (qs, ti) := ⟨_, _, rfl⟩
    rw [hti] at HJ
    have c1 := HJ.out.1.rd.cell1
    clear HX3
    by_cases hit : (i : Int) < n3
    · by_cases he : ti.e = 0
      · have hE : ((ti.e : Int) == 0) = true := by simp [he]
        obtain ⟨l, tj, hl⟩ : ∃ l tj, rowR 300 ti = (l, tj) := ⟨_, _, rfl⟩
        have HS : Hid (readN (rowR 300) (i + 1) t3 = (qs ++ [l], tj)) := by
          have := readN_snoc (rowR 300) i t3 (by rw [hti]; exact he)
          rw [hti, hl] at this; exact this
        have HL := hid hl
        clear he hti hl
        go_upto_region 24 with (fail)
        refine wp_meet (RtPost b N C X x4 y1 y2 n3 i k (qs ++ [l]) tj w0 _ _ _ _ _ _ _ _ _ _ _ _ _ _ _ _ _ _ _ _ _ _ _ _ _ _ _ _ _ _ _ _ _ _ _ _ _ _ _ _ _ _ _ _ _ _ _ _ _ _ _ _ _ _ _ _ _ _ _ _ _ _ _ _ _ _ _ _ _ _ _ _ _ _ _ _ _ _ _ _ _ _ _ _ _ _ _ _ _ _ _ _ _ _ _ _ _ _ _ _ _ _ _ _ _ _ _ _ _ _ _ _ _) (droute HL.out (by have := HJ.out.2.2; have := HG.out; omega) HG.out.2 HJ.out.1 HJ.out.2.1 _ _ _ _ _ _ _ _ _ _ _ _ _ _ _ _ _ _ _ _ _ _ _ _ _ _ _ _ _ _ _ _ _ _ _ _ _ _ _ _ _ _ _ _ _ _ _ _ _ _ _ _ _ _ _ _ _ _ _ _ _ _ _ _ _ _ _ _ _ _ _ _ _ _ _ _ _ _ _ _ _ _ _ _ _ _ _ _ _ _ _ _ _ _ _ _ _ _ _ _ _ _ _ _ _ _ _ _ _ _ _ _ _ _ _ _ _ _ _ _) ?_
        refine fun a' y => ex_elim fun vr' => ex_elim fun u93 => ex_elim fun u94 => ex_elim fun u95 => ex_elim fun u96 => ex_elim fun u97 => ex_elim fun u98 => ex_elim fun u99 => ?_
        rintro ⟨rfl, hx, hr⟩
        have HX5 := hid hx
        have HR5 := hid hr
        clear hx hr c1
        go_wp2
        go_roundw
        case rel => exact ⟨i + 1, _, by go_num, by omega, by rw [HS.out]; exact ⟨HX5.out, HR5.out, by rw [List.length_append, HJ.out.2.2]; rfl⟩⟩
        case measure => simp [intOf]; omega
      · have hE : ((ti.e : Int) == 0) = false := by simpa using he
        have HT : Hid (y3 = qs ∧ t4 = ti) := by
          have := readN_stays (rowR 300) (by rw [hti]; exact he) n3.toNat hi
          rw [E4.out, hti, Prod.mk.injEq] at this; exact this
        clear he hti
        go_wp2
        exact ⟨rfl, vr, _, _, _, _, _, _, _, _, _, _, _, _, _, _, _, _, _, _, _, _, rfl, by rw [HT.out.2]; exact HJ.out.1, by rw [HT.out.1]; exact HJ.out.2.1, Rowed.nil _ _ _ _ _⟩
    · have HT : Hid (y3 = qs ∧ t4 = ti) := by
        have := E4.out
        rw [show n3.toNat = i by omega, hti, Prod.mk.injEq] at this; exact ⟨this.1.symm, this.2.symm⟩
      clear hti
      go_wp2
      exact ⟨rfl, vr, _, _, _, _, _, _, _, _, _, _, _, _, _, _, _, _, _, _, _, _, rfl, by rw [HT.out.2]; exact HJ.out.1, by rw [HT.out.1]; exact HJ.out.2.1, Rowed.nil _ _ _ _ _⟩
end Go.Proofs.YtmpgeabfogcblaaGreat

namespace Go.Proofs.YtmpgeabfogcblaaGreat
open Go.RowKit
set_option linter.unusedSimpArgs false

/-- Ahead of the routes. -/
def RtStart (b N C X : Nat) (x4 y1 y2 n3 : Int) (k : Nat) (t : Rd) (wr : World) (u1 u4 u6 u7 u8 u12 u13 u14 u15 u16 u17 u18 u19 u20 u21 u22 u23 u24 u25 u26 u27 u28 u29 u30 u31 u32 u33 u34 u35 u36 u37 u38 u39 u40 u41 u42 u43 u44 u45 u46 u47 u48 u49 u50 u51 u52 u53 u54 u55 u56 u57 u58 u59 u60 u61 u62 u63 u64 u65 u66 u67 u68 u69 u70 u82 u83 u84 u85 u86 u87 u88 u89 u90 u91 u92 u93 u94 u95 u96 u97 u98 u99 u100 u101 u102 u103 u104 u105 u106 u107 u108 u109 u110 u111 u112 u113 u114 u115 u116 u117 u118 u119 u120 u121 u122 u123 u124 u125 u126 u127 : Value) (a' : Act) (y : World) : Prop :=
  ∃ (u71 u72 u73 u74 u75 u76 u77 u78 u79 u80 u81 : Value), a' = { tmps := #[.pointer (some ⟨b, 0, none⟩), u1, .pointer (some ⟨N, 0, none⟩), .pointer (some ⟨C, 0, none⟩), u4, .int .i64 x4, u6, u7, u8, .int .i64 k, .pointer (some ⟨X, 0, none⟩), .int .i64 n3, u12, u13, u14, u15, u16, u17, u18, u19, u20, u21, u22, u23, u24, u25, u26, u27, u28, u29, u30, u31, u32, u33, u34, u35, u36, u37, u38, u39, u40, u41, u42, u43, u44, u45, u46, u47, u48, u49, u50, u51, u52, u53, u54, u55, u56, u57, u58, u59, u60, u61, u62, u63, u64, u65, u66, u67, u68, u69, u70, u71, u72, u73, u74, u75, u76, u77, u78, u79, u80, u81, u82, u83, u84, u85, u86, u87, u88, u89, u90, u91, u92, u93, u94, u95, u96, u97, u98, u99, u100, u101, u102, u103, u104, u105, u106, u107, u108, u109, u110, u111, u112, u113, u114, u115, u116, u117, u118, u119, u120, u121, u122, u123, u124, u125, u126, u127], defers := [] } ∧ Dx b X t #[.int .i64 y1, .int .u64 y2, .slice none 0 0, .slice none 0 0, .int .i64 0, .int .i64 0, .int .i64 0, .int .i64 0, .int .i64 0, .int .i64 0] wr y

set_option maxRecDepth 100000 in
set_option maxHeartbeats 4000000 in
theorem dround {b N C X k : Nat} {x1 x2 x4 : Int} {t : Rd} {pv dv : Value} {q : List (List Int)} {ds : List Dom} {w w0 z : World} {d : Dom} {t' : Rd} (hdom : domR t = (d, t')) (hk : k ≤ 6)
    (hm : Dm b N C t x1 x2 pv dv q ds w w0) (hl : ds.length = k) (hX : w0.heap.size = X)
    (hd : Dx b X t #[.int .i64 0, .int .u64 0, .slice none 0 0, .slice none 0 0, .int .i64 0, .int .i64 0, .int .i64 0, .int .i64 0, .int .i64 0, .int .i64 0] w0 z) (u1 u4 u6 u7 u8 u11 u12 u13 u14 u15 u16 u17 u18 u19 u20 u21 u22 u23 u24 u25 u26 u27 u28 u29 u30 u31 u32 u33 u34 u35 u36 u37 u38 u39 u40 u41 u42 u43 u44 u45 u46 u47 u48 u49 u50 u51 u52 u53 u54 u55 u56 u57 u58 u59 u60 u61 u62 u63 u64 u65 u66 u67 u68 u69 u70 u71 u72 u73 u74 u75 u76 u77 u78 u79 u80 u81 u82 u83 u84 u85 u86 u87 u88 u89 u90 u91 u92 u93 u94 u95 u96 u97 u98 u99 u100 u101 u102 u103 u104 u105 u106 u107 u108 u109 u110 u111 u112 u113 u114 u115 u116 u117 u118 u119 u120 u121 u122 u123 u124 u125 u126 u127 : Value) :
    (bodyAt Tryz.f17 [1, 1, 1, 1, 1, 1, 0, 1, 2, 2, 1, 0, 2, 1]).wp Tryz.prog (Ends (DomPost b N C x1 x2 x4 k pv q (ds ++ [d]) t' w u1 u4 u6 u7 u8 u13 u14 u15 u16 u17 u18 u19 u20 u21 u22 u23 u24 u25 u26 u27 u28 u29 u30 u31 u32 u33 u34 u35 u36 u37 u38 u39 u40 u41 u42 u43 u44 u45 u46 u47 u48 u49 u50 u51 u52 u53 u54 u55 u56 u57 u58 u59 u60 u61 u62 u63 u64 u65 u66 u67 u68 u69 u127)) ({ tmps := #[.pointer (some ⟨b, 0, none⟩), u1, .pointer (some ⟨N, 0, none⟩), .pointer (some ⟨C, 0, none⟩), u4, .int .i64 x4, u6, u7, u8, .int .i64 k, .pointer (some ⟨X, 0, none⟩), u11, u12, u13, u14, u15, u16, u17, u18, u19, u20, u21, u22, u23, u24, u25, u26, u27, u28, u29, u30, u31, u32, u33, u34, u35, u36, u37, u38, u39, u40, u41, u42, u43, u44, u45, u46, u47, u48, u49, u50, u51, u52, u53, u54, u55, u56, u57, u58, u59, u60, u61, u62, u63, u64, u65, u66, u67, u68, u69, u70, u71, u72, u73, u74, u75, u76, u77, u78, u79, u80, u81, u82, u83, u84, u85, u86, u87, u88, u89, u90, u91, u92, u93, u94, u95, u96, u97, u98, u99, u100, u101, u102, u103, u104, u105, u106, u107, u108, u109, u110, u111, u112, u113, u114, u115, u116, u117, u118, u119, u120, u121, u122, u123, u124, u125, u126, u127], defers := [] }) z := by
  obtain ⟨y1, t1, e1⟩ : ∃ x t', numR 255 t = (x, t') := ⟨_, _, rfl⟩
  obtain ⟨y2, e2⟩ : ∃ x, t1.bits = x := ⟨_, rfl⟩
  obtain ⟨t2, e2'⟩ : ∃ x, t1.afterBits = x := ⟨_, rfl⟩
  obtain ⟨n3, t3, e3⟩ : ∃ x t', numR 3 t2 = (x, t') := ⟨_, _, rfl⟩
  obtain ⟨y3, t4, e4⟩ : ∃ x t', readN (rowR 300) n3.toNat t3 = (x, t') := ⟨_, _, rfl⟩
  obtain ⟨y4, t5, e5⟩ : ∃ x t', numR 6 t4 = (x, t') := ⟨_, _, rfl⟩
  obtain ⟨y5, t6, e6⟩ : ∃ x t', rowR 4 t5 = (x, t') := ⟨_, _, rfl⟩
  obtain ⟨y6, t7, e7⟩ : ∃ x t', numR 8 t6 = (x, t') := ⟨_, _, rfl⟩
  obtain ⟨y7, t8, e8⟩ : ∃ x t', numR 4 t7 = (x, t') := ⟨_, _, rfl⟩
  obtain ⟨y8, t9, e9⟩ : ∃ x t', numR 16 t8 = (x, t') := ⟨_, _, rfl⟩
  obtain ⟨y9, t10, e10⟩ : ∃ x t', numR 8 t9 = (x, t') := ⟨_, _, rfl⟩
  obtain ⟨y10, t11, e11⟩ : ∃ x t', numR 8 t10 = (x, t') := ⟨_, _, rfl⟩
  have hn3 : n3 ≤ 3 := by have := num_most t2 (most := 3) (by decide); have h3 := congrArg Prod.fst e3; simp only [numR] at h3; omega
  have h2 : U64 y2 := by rw [← e2]; exact bits_u64 _
  rw [domR_of e1 e2 e2' e3 e4 e5 e6 e7 e8 e9 e10 e11] at hdom
  obtain ⟨rfl, rfl⟩ := Prod.mk.inj hdom
  clear hdom
  have TAIL := fun z vr hz => @dtail b N C X k x1 x2 x4 y1 y2 y4 y6 y7 y8 y9 y10 y3 y5 t t4 t5 t6 t7 t8 t9 t10 t11 pv dv vr q ds w w0 z e5 e6 e7 e8 e9 e10 e11 hk h2 hm hl hX hz
  have ROUTES := fun z hz => @droutes b N C X k x4 y1 y2 n3 t3 t4 y3 w0 z e4 hn3 hX hz
  have HT := hid TAIL
  have HR := hid ROUTES
  clear TAIL ROUTES e4 e5 e6 e7 e8 e9 e10 e11 hk h2 hm hl hX hn3
  have HX0 := hid hd
  have E1 := hid e1
  have E2 := hid e2
  have E2' := hid e2'
  have E3 := hid e3
  clear e1 e2 e2' e3 hd
  unfold bodyAt Tryz.f17
  simp only [codeAt]
  go_upto_region 19 with (go_at_call 18; refine (dnum_to E1.out HX0.out.rd).mono ?_; rintro e z1 ⟨rfl, hr1, ho1⟩; have HY := hid (HX0.out.num hr1 ho1); clear hr1 ho1; have g0 : z1.cell? ⟨X, 0, none⟩ = some (.int .i64 0) := blk_cell HY.out.xb 0; have f0 := blk_free HY.out.xb 0)
  have HX1 : Hid (Dx b X t1 #[.int .i64 y1, .int .u64 0, .slice none 0 0, .slice none 0 0, .int .i64 0, .int .i64 0, .int .i64 0, .int .i64 0, .int .i64 0, .int .i64 0] w0 (z1.setCell ⟨X, 0, none⟩ (.int .i64 y1))) := HY.out.put 0 (.int .i64 y1)
  clear HX0 HY g0 f0
  generalize z1.setCell ⟨X, 0, none⟩ (.int .i64 y1) = z1 at *
  go_upto_region 20 with (go_at_call 46; refine (dbits_to E2.out E2'.out HX1.out.rd).mono ?_; rintro e z2 ⟨rfl, hr1, ho1⟩; have HY := hid (HX1.out.num hr1 ho1); clear hr1 ho1; have g0 : z2.cell? ⟨X, 1, none⟩ = some (.int .u64 0) := blk_cell HY.out.xb 1; have f0 := blk_free HY.out.xb 1)
  have HX2 : Hid (Dx b X t2 #[.int .i64 y1, .int .u64 y2, .slice none 0 0, .slice none 0 0, .int .i64 0, .int .i64 0, .int .i64 0, .int .i64 0, .int .i64 0, .int .i64 0] w0 (z2.setCell ⟨X, 1, none⟩ (.int .u64 y2))) := HY.out.put 1 (.int .u64 y2)
  clear HX1 HY g0 f0
  generalize z2.setCell ⟨X, 1, none⟩ (.int .u64 y2) = z2 at *
  rename_i K hK
  refine wp_meet (RtStart b N C X x4 y1 y2 n3 k t3 w0 u1 u4 u6 u7 u8 u12 u13 u14 u15 u16 u17 u18 u19 u20 u21 u22 u23 u24 u25 u26 u27 u28 u29 u30 u31 u32 u33 u34 u35 u36 u37 u38 u39 u40 u41 u42 u43 u44 u45 u46 u47 u48 u49 u50 u51 u52 u53 u54 u55 u56 u57 u58 u59 u60 u61 u62 u63 u64 u65 u66 u67 u68 u69 u70 u82 u83 u84 u85 u86 u87 u88 u89 u90 u91 u92 u93 u94 u95 u96 u97 u98 u99 u100 u101 u102 u103 u104 u105 u106 u107 u108 u109 u110 u111 u112 u113 u114 u115 u116 u117 u118 u119 u120 u121 u122 u123 u124 u125 u126 u127) ?_ ?_
  · go_wp2_with (go_at_call 18; refine (dnum_to E3.out HX2.out.rd).mono ?_; rintro e z3 ⟨rfl, hr1, ho1⟩; have HX3 := hid (HX2.out.num hr1 ho1); clear hr1 ho1)
    exact ⟨_, _, _, _, _, _, _, _, _, _, _, rfl, HX3.out⟩
  · refine fun a' y => ex_elim fun u71 => ex_elim fun u72 => ex_elim fun u73 => ex_elim fun u74 => ex_elim fun u75 => ex_elim fun u76 => ex_elim fun u77 => ex_elim fun u78 => ex_elim fun u79 => ex_elim fun u80 => ex_elim fun u81 => ?_
    rintro ⟨rfl, hx⟩
    refine hK _ _ ?_
    clear hK
    refine wp_mid (RtEnd b N C X x4 y1 y2 k y3 t4 w0 n3 u1 u4 u6 u7 u8 u13 u14 u15 u16 u17 u18 u19 u20 u21 u22 u23 u24 u25 u26 u27 u28 u29 u30 u31 u32 u33 u34 u35 u36 u37 u38 u39 u40 u41 u42 u43 u44 u45 u46 u47 u48 u49 u50 u51 u52 u53 u54 u55 u56 u57 u58 u59 u60 u61 u62 u63 u64 u65 u66 u67 u68 u69 u70 u71 u72 u73 u74 u75 u76 u77 u78 u79 u80 u100 u101 u102 u103 u104 u105 u106 u107 u108 u109 u110 u111 u112 u113 u114 u115 u116 u117 u118 u119 u120 u121 u122 u123 u124 u125 u126 u127) (HR.out _ hx _ _ _ _ _ _ _ _ _ _ _ _ _ _ _ _ _ _ _ _ _ _ _ _ _ _ _ _ _ _ _ _ _ _ _ _ _ _ _ _ _ _ _ _ _ _ _ _ _ _ _ _ _ _ _ _ _ _ _ _ _ _ _ _ _ _ _ _ _ _ _ _ _ _ _ _ _ _ _ _ _ _ _ _ _ _ _ _ _ _ _ _ _ _ _ _ _ _ _ _ _ _ _ _ _ _ _ _ _ _ _ _ _ _ _ _ _ _ _ _ _) ?_
    refine fun a' y => ex_elim fun vr => ex_elim fun u12 => ex_elim fun u81 => ex_elim fun u82 => ex_elim fun u83 => ex_elim fun u84 => ex_elim fun u85 => ex_elim fun u86 => ex_elim fun u87 => ex_elim fun u88 => ex_elim fun u89 => ex_elim fun u90 => ex_elim fun u91 => ex_elim fun u92 => ex_elim fun u93 => ex_elim fun u94 => ex_elim fun u95 => ex_elim fun u96 => ex_elim fun u97 => ex_elim fun u98 => ex_elim fun u99 => ?_
    rintro ⟨rfl, hx⟩
    exact HT.out _ _ hx _ _ _ _ _ _ _ _ _ _ _ _ _ _ _ _ _ _ _ _ _ _ _ _ _ _ _ _ _ _ _ _ _ _ _ _ _ _ _ _ _ _ _ _ _ _ _ _ _ _ _ _ _ _ _ _ _ _ _ _ _ _ _ _ _ _ _ _ _ _ _ _ _ _ _ _ _ _ _ _ _ _ _ _ _ _ _ _ _ _ _ _ _ _ _ _ _ _ _ _ _ _ _ _ _ _ _ _ _ _ _ _ _ _ _ _ _ _ _ _ _ _
end Go.Proofs.YtmpgeabfogcblaaGreat

namespace Go.Proofs.YtmpgeabfogcblaaGreat
open Go.RowKit
set_option linter.unusedSimpArgs false

/-- Behind the plans. -/
def DocMid (b N C : Nat) (x1 x2 x4 : Int) (q : List (List Int) × Rd) (w : World) (a' : Act) (w' : World) : Prop :=
  ∃ (pv : Value) (u1 u4 u6 u7 u8 u9 u10 u11 u12 u13 u14 u15 u16 u17 u18 u19 u20 u21 u22 u23 u24 u25 u26 u27 u28 u29 u30 u31 u32 u33 u34 u35 u36 u37 u38 u39 u40 u41 u42 u43 u44 u45 u46 u47 u48 u49 u50 u51 u52 u53 u54 u55 u56 u57 u58 u59 u60 u61 u62 u63 u64 u65 u66 u67 u68 u69 u70 u71 u72 u73 u74 u75 u76 u77 u78 u79 u80 u81 u82 u83 u84 u85 u86 u87 u88 u89 u90 u91 u92 u93 u94 u95 u96 u97 u98 u99 u100 u101 u102 u103 u104 u105 u106 u107 u108 u109 u110 u111 u112 u113 u114 u115 u116 u117 u118 u119 u120 u121 u122 u123 u124 u125 u126 u127 : Value), a' = { tmps := #[.pointer (some ⟨b, 0, none⟩), u1, .pointer (some ⟨N, 0, none⟩), .pointer (some ⟨C, 0, none⟩), u4, .int .i64 x4, u6, u7, u8, u9, u10, u11, u12, u13, u14, u15, u16, u17, u18, u19, u20, u21, u22, u23, u24, u25, u26, u27, u28, u29, u30, u31, u32, u33, u34, u35, u36, u37, u38, u39, u40, u41, u42, u43, u44, u45, u46, u47, u48, u49, u50, u51, u52, u53, u54, u55, u56, u57, u58, u59, u60, u61, u62, u63, u64, u65, u66, u67, u68, u69, u70, u71, u72, u73, u74, u75, u76, u77, u78, u79, u80, u81, u82, u83, u84, u85, u86, u87, u88, u89, u90, u91, u92, u93, u94, u95, u96, u97, u98, u99, u100, u101, u102, u103, u104, u105, u106, u107, u108, u109, u110, u111, u112, u113, u114, u115, u116, u117, u118, u119, u120, u121, u122, u123, u124, u125, u126, u127], defers := [] } ∧
    Dc b N C q.2 x1 x2 pv (.slice none 0 0) w w' ∧ Rowed 89 1 ElR N w' pv q.1

/-- At the end. -/
def DocEnd (wr : World) (N : Nat) (o : Obj) (a' : Act) (y : World) : Prop :=
  ∃ (u0 u1 u3 u4 u5 u6 u7 u8 u9 u10 u11 u12 u13 u14 u15 u16 u17 u18 u19 u20 u21 u22 u23 u24 u25 u26 u27 u28 u29 u30 u31 u32 u33 u34 u35 u36 u37 u38 u39 u40 u41 u42 u43 u44 u45 u46 u47 u48 u49 u50 u51 u52 u53 u54 u55 u56 u57 u58 u59 u60 u61 u62 u63 u64 u65 u66 u67 u68 u69 u70 u71 u72 u73 u74 u75 u76 u77 u78 u79 u80 u81 u82 u83 u84 u85 u86 u87 u88 u89 u90 u91 u92 u93 u94 u95 u96 u97 u98 u99 u100 u101 u102 u103 u104 u105 u106 u107 u108 u109 u110 u111 u112 u113 u114 u115 u116 u117 u118 u119 u120 u121 u122 u123 u124 u125 u126 u127 : Value), a' = { tmps := #[u0, u1, .pointer (some ⟨N, 0, none⟩), u3, u4, u5, u6, u7, u8, u9, u10, u11, u12, u13, u14, u15, u16, u17, u18, u19, u20, u21, u22, u23, u24, u25, u26, u27, u28, u29, u30, u31, u32, u33, u34, u35, u36, u37, u38, u39, u40, u41, u42, u43, u44, u45, u46, u47, u48, u49, u50, u51, u52, u53, u54, u55, u56, u57, u58, u59, u60, u61, u62, u63, u64, u65, u66, u67, u68, u69, u70, u71, u72, u73, u74, u75, u76, u77, u78, u79, u80, u81, u82, u83, u84, u85, u86, u87, u88, u89, u90, u91, u92, u93, u94, u95, u96, u97, u98, u99, u100, u101, u102, u103, u104, u105, u106, u107, u108, u109, u110, u111, u112, u113, u114, u115, u116, u117, u118, u119, u120, u121, u122, u123, u124, u125, u126, u127], defers := [] } ∧ y.heap[N]? = some o ∧ Only N wr y

set_option maxRecDepth 100000 in
set_option maxHeartbeats 4000000 in
theorem dconf_any (b : Nat) (r : Rd) (w : World) (h : Dq b r w) : Calls Tryz.prog 17 #[.pointer (some ⟨b, 0, none⟩)] w (DocConf b (confR r) w) := by
  have H := hid h
  clear h
  go_enter Tryz.func17, Tryz.ntmps17
  go_upto_region 2 with (go_at_call 18; refine (dnum_any _ _ _ _ (H.out.ext (by repeat (first | exact Ext.refl _ | assumption | refine Ext.more ?_ _ | refine Ext.drew ?_ | refine Ext.drewN ?_ _ | refine Ext.alloc ?_ _ | refine Ext.setCell ?_ (by simp; try omega) _ | refine Ext.trans ?_ (by assumption))))).mono ?_; rintro e w1 ⟨rfl, hr1, ho1⟩; have HR1 := hid hr1; have HO1 := hid ho1; clear hr1 ho1)
  have HD0 : Hid (Dc b w.heap.size w1.heap.size (r.afterNum 64) (r.num 64) 0 (.slice none 0 0) (.slice none 0 0) w (w1.alloc (confO (.int .i64 (r.num 64)) (.int .i64 0) (.slice none 0 0) (.slice none 0 0)))) := by
    have hs := HO1.out.size
    rw [World.size_alloc] at hs
    exact ⟨HR1.out.ext (by repeat (first | exact Ext.refl _ | assumption | refine Ext.more ?_ _ | refine Ext.drew ?_ | refine Ext.drewN ?_ _ | refine Ext.alloc ?_ _ | refine Ext.setCell ?_ (by simp; try omega) _ | refine Ext.trans ?_ (by assumption))), (((Only.refl b w).ext (Ext.alloc (Ext.refl w) _)).trans HO1.out).ext (by repeat (first | exact Ext.refl _ | assumption | refine Ext.more ?_ _ | refine Ext.drew ?_ | refine Ext.drewN ?_ _ | refine Ext.alloc ?_ _ | refine Ext.setCell ?_ (by simp; try omega) _ | refine Ext.trans ?_ (by assumption))), block_ext (by repeat (first | exact Ext.refl _ | assumption | refine Ext.more ?_ _ | refine Ext.drew ?_ | refine Ext.drewN ?_ _ | refine Ext.alloc ?_ _ | refine Ext.setCell ?_ (by simp; try omega) _ | refine Ext.trans ?_ (by assumption))) (HO1.out.blk (heap_alloc_new w _) (by have := H.out.lt; omega)), heap_alloc_new w1 _, rfl, by omega, H.out.lt⟩
  have HQ : Hid (confR r = (⟨r.num 64, (r.afterNum 64).num 8, (readN (readN (numR 1000) ((((r.afterNum 64).afterNum 8).afterNum 3).num 6).toNat) (((r.afterNum 64).afterNum 8).num 3).toNat ((((r.afterNum 64).afterNum 8).afterNum 3).afterNum 6)).1, (readN domR ((((r.afterNum 64).afterNum 8).afterNum 3).num 6).toNat (readN (readN (numR 1000) ((((r.afterNum 64).afterNum 8).afterNum 3).num 6).toNat) (((r.afterNum 64).afterNum 8).num 3).toNat ((((r.afterNum 64).afterNum 8).afterNum 3).afterNum 6)).2).1⟩, (readN domR ((((r.afterNum 64).afterNum 8).afterNum 3).num 6).toNat (readN (readN (numR 1000) ((((r.afterNum 64).afterNum 8).afterNum 3).num 6).toNat) (((r.afterNum 64).afterNum 8).num 3).toNat ((((r.afterNum 64).afterNum 8).afterNum 3).afterNum 6)).2).2)) := rfl
  clear HR1 HO1
  generalize w1.alloc (confO (.int .i64 (r.num 64)) (.int .i64 0) (.slice none 0 0) (.slice none 0 0)) = v at *
  generalize w1.heap.size = C at *
  have HM3 := hid (num_most ((r.afterNum 64).afterNum 8) (most := 3) (by decide))
  have HM6 := hid (num_most (((r.afterNum 64).afterNum 8).afterNum 3) (most := 6) (by decide))
  generalize r.num 64 = x1 at *
  generalize r.afterNum 64 = r1 at *
  go_upto_region 3 with (go_at_call 18; refine (dnum_any _ _ _ _ HD0.out.rd).mono ?_; rintro e w2 ⟨rfl, hr1, ho1⟩; have HD1 := hid (HD0.out.num hr1 ho1); clear hr1 ho1; obtain ⟨c1, c2, c3, f1, f2, f3⟩ := HD1.out.cells)
  have HD2 := hid (HD1.out.put1 (r1.num 8))
  clear HD0 HD1 c1 c2 c3 f1 f2 f3
  generalize w2.setCell ⟨C, 1, none⟩ (.int .i64 (r1.num 8)) = v2 at *
  clear w2 v
  generalize r1.num 8 = x2 at *
  generalize r1.afterNum 8 = r2 at *
  go_upto_region 4 with (go_at_call 18; refine (dnum_any _ _ _ _ HD2.out.rd).mono ?_; rintro e w2 ⟨rfl, hr1, ho1⟩; have HD3 := hid (HD2.out.num hr1 ho1); clear hr1 ho1)
  clear HD2 v2
  generalize r2.num 3 = x3 at *
  generalize r2.afterNum 3 = r3 at *
  go_upto_region 5 with (go_at_call 18; refine (dnum_any _ _ _ _ HD3.out.rd).mono ?_; rintro e w3 ⟨rfl, hr1, ho1⟩; have HD4 := hid (HD3.out.num hr1 ho1); clear hr1 ho1)
  clear HD3 w2
  generalize r3.num 6 = x4 at *
  generalize r3.afterNum 6 = r4 at *
  go_wp2
  rename_i K hK
  have REST : ∀ a' w', DocMid b w.heap.size C x1 x2 x4 (readN (readN (numR 1000) x4.toNat) x3.toNat r4) w a' w' → K a' w' := by
    refine fun a' w' => ex_elim fun pv => ex_elim fun u1 => ex_elim fun u4 => ex_elim fun u6 => ex_elim fun u7 => ex_elim fun u8 => ex_elim fun u9 => ex_elim fun u10 => ex_elim fun u11 => ex_elim fun u12 => ex_elim fun u13 => ex_elim fun u14 => ex_elim fun u15 => ex_elim fun u16 => ex_elim fun u17 => ex_elim fun u18 => ex_elim fun u19 => ex_elim fun u20 => ex_elim fun u21 => ex_elim fun u22 => ex_elim fun u23 => ex_elim fun u24 => ex_elim fun u25 => ex_elim fun u26 => ex_elim fun u27 => ex_elim fun u28 => ex_elim fun u29 => ex_elim fun u30 => ex_elim fun u31 => ex_elim fun u32 => ex_elim fun u33 => ex_elim fun u34 => ex_elim fun u35 => ex_elim fun u36 => ex_elim fun u37 => ex_elim fun u38 => ex_elim fun u39 => ex_elim fun u40 => ex_elim fun u41 => ex_elim fun u42 => ex_elim fun u43 => ex_elim fun u44 => ex_elim fun u45 => ex_elim fun u46 => ex_elim fun u47 => ex_elim fun u48 => ex_elim fun u49 => ex_elim fun u50 => ex_elim fun u51 => ex_elim fun u52 => ex_elim fun u53 => ex_elim fun u54 => ex_elim fun u55 => ex_elim fun u56 => ex_elim fun u57 => ex_elim fun u58 => ex_elim fun u59 => ex_elim fun u60 => ex_elim fun u61 => ex_elim fun u62 => ex_elim fun u63 => ex_elim fun u64 => ex_elim fun u65 => ex_elim fun u66 => ex_elim fun u67 => ex_elim fun u68 => ex_elim fun u69 => ex_elim fun u70 => ex_elim fun u71 => ex_elim fun u72 => ex_elim fun u73 => ex_elim fun u74 => ex_elim fun u75 => ex_elim fun u76 => ex_elim fun u77 => ex_elim fun u78 => ex_elim fun u79 => ex_elim fun u80 => ex_elim fun u81 => ex_elim fun u82 => ex_elim fun u83 => ex_elim fun u84 => ex_elim fun u85 => ex_elim fun u86 => ex_elim fun u87 => ex_elim fun u88 => ex_elim fun u89 => ex_elim fun u90 => ex_elim fun u91 => ex_elim fun u92 => ex_elim fun u93 => ex_elim fun u94 => ex_elim fun u95 => ex_elim fun u96 => ex_elim fun u97 => ex_elim fun u98 => ex_elim fun u99 => ex_elim fun u100 => ex_elim fun u101 => ex_elim fun u102 => ex_elim fun u103 => ex_elim fun u104 => ex_elim fun u105 => ex_elim fun u106 => ex_elim fun u107 => ex_elim fun u108 => ex_elim fun u109 => ex_elim fun u110 => ex_elim fun u111 => ex_elim fun u112 => ex_elim fun u113 => ex_elim fun u114 => ex_elim fun u115 => ex_elim fun u116 => ex_elim fun u117 => ex_elim fun u118 => ex_elim fun u119 => ex_elim fun u120 => ex_elim fun u121 => ex_elim fun u122 => ex_elim fun u123 => ex_elim fun u124 => ex_elim fun u125 => ex_elim fun u126 => ex_elim fun u127 => ?_
    rintro ⟨rfl, hd, hr⟩
    refine hK _ _ ?_
    have HD1 := hid hd
    have HR1 := hid hr
    have hm6 : x4 ≤ 6 := HM6.out
    obtain ⟨q, s, hq⟩ : ∃ q s, readN (readN (numR 1000) x4.toNat) x3.toNat r4 = (q, s) := ⟨_, _, rfl⟩
    rw [hq] at HQ HD1 HR1
    clear hd hr hq
    go_wp2
    go_loopw [9] (fun v9 wr => ∃ (k : Nat) (dv : Value), v9 = .int .i64 k ∧ k ≤ x4.toNat ∧ Hid (Dc b w.heap.size C (readN domR k s).2 x1 x2 pv dv w wr ∧ Rowed 89 1 ElR w.heap.size wr pv q ∧ Rowed 94 10 ElD w.heap.size wr dv (readN domR k s).1 ∧ (readN domR k s).1.length = k)) (fun v9 _ => (x4.toNat - intOf v9).toNat)
    case atStart => exact ⟨0, _, rfl, Nat.zero_le _, HD1.out, HR1.out, Rowed.nil _ _ _ _ _, rfl⟩
    case round =>
      obtain ⟨k, dv, rfl, hk, HI⟩ := hrel
      obtain ⟨ds, t, ht⟩ : ∃ ds t, readN domR k s = (ds, t) := ⟨_, _, rfl⟩
      rw [ht] at HI
      have HD := hid HI.out.1
      have c1 := HI.out.1.rd.cell1
      by_cases hlt : (k : Int) < x4
      · by_cases he : t.e = 0
        · have hE : ((t.e : Int) == 0) = true := by simp [he]
          obtain ⟨d9, t9, hd9⟩ : ∃ d t', domR t = (d, t') := ⟨_, _, rfl⟩
          have HS : Hid (readN domR (k + 1) s = (ds ++ [d9], t9)) := by
            have := readN_snoc domR k s (by rw [ht]; exact he)
            rw [ht, hd9] at this; exact this
          have HDD := hid hd9
          clear hd9
          have HC : Hid (k + 1 ≤ x4.toNat ∧ k ≤ 6) := by unfold Hid; omega
          clear he ht
          have HM : Hid (Dm b w.heap.size C t x1 x2 pv dv q ds w wr) := ⟨HD.out, HI.out.2.1, HI.out.2.2.1⟩
          have HL : Hid (ds.length = k) := HI.out.2.2.2
          go_upto_region 17 with (fail)
          rename_i Kr hKr
          go_cut [10] from 70 to 126 (fun s10 wx => s10 = .pointer (some ⟨wr.heap.size, 0, none⟩) ∧ Dx b wr.heap.size t #[.int .i64 0, .int .u64 0, .slice none 0 0, .slice none 0 0, .int .i64 0, .int .i64 0, .int .i64 0, .int .i64 0, .int .i64 0, .int .i64 0] wr wx)
          case first =>
            go_wp2
            go_meet
            case rel => exact ⟨rfl, HD.out.rd.ext (by repeat (first | exact Ext.refl _ | assumption | refine Ext.more ?_ _ | refine Ext.drew ?_ | refine Ext.drewN ?_ _ | refine Ext.alloc ?_ _ | refine Ext.setCell ?_ (by simp; try omega) _ | refine Ext.trans ?_ (by assumption))), (Only.refl _ _).ext (by repeat (first | exact Ext.refl _ | assumption | refine Ext.more ?_ _ | refine Ext.drew ?_ | refine Ext.drewN ?_ _ | refine Ext.alloc ?_ _ | refine Ext.setCell ?_ (by simp; try omega) _ | refine Ext.trans ?_ (by assumption))), heap_alloc_new wr _, Nat.le_refl _, HD.out.rd.lt⟩
          case rest =>
            obtain ⟨rfl, hx⟩ := hcut
            refine hKr _ _ ?_
            clear hKr
            refine wp_meet (DomPost b w.heap.size C x1 x2 x4 k pv q (ds ++ [d9]) t9 w _ _ _ _ _ _ _ _ _ _ _ _ _ _ _ _ _ _ _ _ _ _ _ _ _ _ _ _ _ _ _ _ _ _ _ _ _ _ _ _ _ _ _ _ _ _ _ _ _ _ _ _ _ _ _ _ _ _ _ _ _ _ _) (dround HDD.out HC.out.2 HM.out HL.out rfl hx _ _ _ _ _ _ _ _ _ _ _ _ _ _ _ _ _ _ _ _ _ _ _ _ _ _ _ _ _ _ _ _ _ _ _ _ _ _ _ _ _ _ _ _ _ _ _ _ _ _ _ _ _ _ _ _ _ _ _ _ _ _ _ _ _ _ _ _ _ _ _ _ _ _ _ _ _ _ _ _ _ _ _ _ _ _ _ _ _ _ _ _ _ _ _ _ _ _ _ _ _ _ _ _ _ _ _ _ _ _ _ _ _ _ _ _ _ _ _ _ _ _) ?_
            refine fun a' y => ex_elim fun dv' => ex_elim fun u10 => ex_elim fun u11 => ex_elim fun u12 => ex_elim fun u70 => ex_elim fun u71 => ex_elim fun u72 => ex_elim fun u73 => ex_elim fun u74 => ex_elim fun u75 => ex_elim fun u76 => ex_elim fun u77 => ex_elim fun u78 => ex_elim fun u79 => ex_elim fun u80 => ex_elim fun u81 => ex_elim fun u82 => ex_elim fun u83 => ex_elim fun u84 => ex_elim fun u85 => ex_elim fun u86 => ex_elim fun u87 => ex_elim fun u88 => ex_elim fun u89 => ex_elim fun u90 => ex_elim fun u91 => ex_elim fun u92 => ex_elim fun u93 => ex_elim fun u94 => ex_elim fun u95 => ex_elim fun u96 => ex_elim fun u97 => ex_elim fun u98 => ex_elim fun u99 => ex_elim fun u100 => ex_elim fun u101 => ex_elim fun u102 => ex_elim fun u103 => ex_elim fun u104 => ex_elim fun u105 => ex_elim fun u106 => ex_elim fun u107 => ex_elim fun u108 => ex_elim fun u109 => ex_elim fun u110 => ex_elim fun u111 => ex_elim fun u112 => ex_elim fun u113 => ex_elim fun u114 => ex_elim fun u115 => ex_elim fun u116 => ex_elim fun u117 => ex_elim fun u118 => ex_elim fun u119 => ex_elim fun u120 => ex_elim fun u121 => ex_elim fun u122 => ex_elim fun u123 => ex_elim fun u124 => ex_elim fun u125 => ex_elim fun u126 => ?_
            rintro ⟨rfl, hm⟩
            have HM9 := hid hm
            clear hm hx
            go_wp2
            go_roundw
            case rel => exact ⟨k + 1, _, by go_num, HC.out.1, by rw [HS.out]; exact ⟨HM9.out.c, HM9.out.plans, HM9.out.doms, by rw [List.length_append, HL.out]; rfl⟩⟩
            case measure => have := HC.out.1; simp [intOf]; omega
        · have hE : ((t.e : Int) == 0) = false := by simpa using he
          have HS : Hid (readN domR x4.toNat s = (ds, t)) := by
            unfold Hid
            rw [readN_stays domR (by rw [ht]; exact he) x4.toNat hk, ht]
          clear he ht
          obtain ⟨pp, cp, rfl, -, -⟩ := HI.out.2.1.shape
          obtain ⟨pd, cd, rfl, -, -⟩ := HI.out.2.2.1.shape
          have n0 := blk_cell HD.out.c0 0
          have n1 := blk_cell HD.out.c0 1
          have n2 := blk_cell HD.out.c0 2
          have n3 := blk_cell HD.out.c0 3
          have m0 := blk_free HD.out.c0 0
          have m1 := blk_free HD.out.c0 1
          have m2 := blk_free HD.out.c0 2
          have m3 := blk_free HD.out.c0 3
          have k0 := blk_cell HD.out.c1 0
          have k1 := blk_cell HD.out.c1 1
          have k2 := blk_cell HD.out.c1 2
          have k3 := blk_cell HD.out.c1 3
          simp only [List.getElem?_toArray, List.getElem?_cons_zero, List.getElem?_cons_succ] at n0 n1 n2 n3 k0 k1 k2 k3
          go_upto_region 33 with (fail)
          refine wp_meet (DocEnd wr w.heap.size (confO (.int .i64 x1) (.int .i64 x2) (.slice pp q.length cp) (.slice pd ds.length cd))) ?_ ?_
          · go_wp2
            exact ⟨_, _, _, _, _, _, _, _, _, _, _, _, _, _, _, _, _, _, _, _, _, _, _, _, _, _, _, _, _, _, _, _, _, _, _, _, _, _, _, _, _, _, _, _, _, _, _, _, _, _, _, _, _, _, _, _, _, _, _, _, _, _, _, _, _, _, _, _, _, _, _, _, _, _, _, _, _, _, _, _, _, _, _, _, _, _, _, _, _, _, _, _, _, _, _, _, _, _, _, _, _, _, _, _, _, _, _, _, _, _, _, _, _, _, _, _, _, _, _, _, _, _, _, _, _, _, _, rfl, sets4 HD.out.c0 _ _ _ _, ((((Only.refl _ _).setCell _).setCell _).setCell _).setCell _⟩
          · refine fun a' y => ex_elim fun u0 => ex_elim fun u1 => ex_elim fun u3 => ex_elim fun u4 => ex_elim fun u5 => ex_elim fun u6 => ex_elim fun u7 => ex_elim fun u8 => ex_elim fun u9 => ex_elim fun u10 => ex_elim fun u11 => ex_elim fun u12 => ex_elim fun u13 => ex_elim fun u14 => ex_elim fun u15 => ex_elim fun u16 => ex_elim fun u17 => ex_elim fun u18 => ex_elim fun u19 => ex_elim fun u20 => ex_elim fun u21 => ex_elim fun u22 => ex_elim fun u23 => ex_elim fun u24 => ex_elim fun u25 => ex_elim fun u26 => ex_elim fun u27 => ex_elim fun u28 => ex_elim fun u29 => ex_elim fun u30 => ex_elim fun u31 => ex_elim fun u32 => ex_elim fun u33 => ex_elim fun u34 => ex_elim fun u35 => ex_elim fun u36 => ex_elim fun u37 => ex_elim fun u38 => ex_elim fun u39 => ex_elim fun u40 => ex_elim fun u41 => ex_elim fun u42 => ex_elim fun u43 => ex_elim fun u44 => ex_elim fun u45 => ex_elim fun u46 => ex_elim fun u47 => ex_elim fun u48 => ex_elim fun u49 => ex_elim fun u50 => ex_elim fun u51 => ex_elim fun u52 => ex_elim fun u53 => ex_elim fun u54 => ex_elim fun u55 => ex_elim fun u56 => ex_elim fun u57 => ex_elim fun u58 => ex_elim fun u59 => ex_elim fun u60 => ex_elim fun u61 => ex_elim fun u62 => ex_elim fun u63 => ex_elim fun u64 => ex_elim fun u65 => ex_elim fun u66 => ex_elim fun u67 => ex_elim fun u68 => ex_elim fun u69 => ex_elim fun u70 => ex_elim fun u71 => ex_elim fun u72 => ex_elim fun u73 => ex_elim fun u74 => ex_elim fun u75 => ex_elim fun u76 => ex_elim fun u77 => ex_elim fun u78 => ex_elim fun u79 => ex_elim fun u80 => ex_elim fun u81 => ex_elim fun u82 => ex_elim fun u83 => ex_elim fun u84 => ex_elim fun u85 => ex_elim fun u86 => ex_elim fun u87 => ex_elim fun u88 => ex_elim fun u89 => ex_elim fun u90 => ex_elim fun u91 => ex_elim fun u92 => ex_elim fun u93 => ex_elim fun u94 => ex_elim fun u95 => ex_elim fun u96 => ex_elim fun u97 => ex_elim fun u98 => ex_elim fun u99 => ex_elim fun u100 => ex_elim fun u101 => ex_elim fun u102 => ex_elim fun u103 => ex_elim fun u104 => ex_elim fun u105 => ex_elim fun u106 => ex_elim fun u107 => ex_elim fun u108 => ex_elim fun u109 => ex_elim fun u110 => ex_elim fun u111 => ex_elim fun u112 => ex_elim fun u113 => ex_elim fun u114 => ex_elim fun u115 => ex_elim fun u116 => ex_elim fun u117 => ex_elim fun u118 => ex_elim fun u119 => ex_elim fun u120 => ex_elim fun u121 => ex_elim fun u122 => ex_elim fun u123 => ex_elim fun u124 => ex_elim fun u125 => ex_elim fun u126 => ex_elim fun u127 => ?_
            rintro ⟨rfl, hy, hO⟩
            have hk' := hO.kept HD.out.c0 (good := [94, 89, 3, 59]) (by decide)
            have HG : Hid (Rowed 89 1 ElR 0 y (.slice pp q.length cp) q ∧ Rowed 94 10 ElD 0 y (.slice pd ds.length cd) ds ∧ Dq b t y ∧ Only b w y) :=
              ⟨(HI.out.2.1.weak (Nat.zero_le _)).kept hk' (by simp) (ElR.kept (hk'.sub (by simp))), (HI.out.2.2.1.weak (Nat.zero_le _)).kept hk' (by simp) (ElD.kept (hk'.sub (by simp))), ⟨hk' _ _ _ HD.out.rd.rd (by simp), HD.out.rd.len⟩, ⟨hO.os.trans HD.out.on.os, hO.tape.trans HD.out.on.tape, hO.output.trans HD.out.on.output, Nat.le_trans HD.out.on.size hO.size, fun i hi e1 => (hO.block i (Nat.lt_of_lt_of_le hi HD.out.on.size) (by simp; omega)).trans (HD.out.on.block i hi e1)⟩⟩
            clear n0 n1 n2 n3 m0 m1 m2 m3 k0 k1 k2 k3 c1 hO hk'
            have k0 := blk_cell hy 0
            have k1 := blk_cell hy 1
            have k2 := blk_cell hy 2
            have k3 := blk_cell hy 3
            simp only [List.getElem?_toArray, List.getElem?_cons_zero, List.getElem?_cons_succ] at k0 k1 k2 k3
            go_wp2
            rw [HQ.out, HS.out]
            exact bodyPost_ret (v := .agg #[.int .i64 x1, .int .i64 x2, .slice pp q.length cp, .slice pd ds.length cd]) (by simp [results, Tryz.results17, go_sem, k0, k1, k2, k3]) rfl ⟨_, _, rfl, HG.out⟩
      · have HS : Hid (readN domR x4.toNat s = (ds, t)) := by
          unfold Hid
          rw [show x4.toNat = k by omega, ht]
        clear ht
        obtain ⟨pp, cp, rfl, -, -⟩ := HI.out.2.1.shape
        obtain ⟨pd, cd, rfl, -, -⟩ := HI.out.2.2.1.shape
        have n0 := blk_cell HD.out.c0 0
        have n1 := blk_cell HD.out.c0 1
        have n2 := blk_cell HD.out.c0 2
        have n3 := blk_cell HD.out.c0 3
        have m0 := blk_free HD.out.c0 0
        have m1 := blk_free HD.out.c0 1
        have m2 := blk_free HD.out.c0 2
        have m3 := blk_free HD.out.c0 3
        have k0 := blk_cell HD.out.c1 0
        have k1 := blk_cell HD.out.c1 1
        have k2 := blk_cell HD.out.c1 2
        have k3 := blk_cell HD.out.c1 3
        simp only [List.getElem?_toArray, List.getElem?_cons_zero, List.getElem?_cons_succ] at n0 n1 n2 n3 k0 k1 k2 k3
        go_upto_region 33 with (fail)
        refine wp_meet (DocEnd wr w.heap.size (confO (.int .i64 x1) (.int .i64 x2) (.slice pp q.length cp) (.slice pd ds.length cd))) ?_ ?_
        · go_wp2
          exact ⟨_, _, _, _, _, _, _, _, _, _, _, _, _, _, _, _, _, _, _, _, _, _, _, _, _, _, _, _, _, _, _, _, _, _, _, _, _, _, _, _, _, _, _, _, _, _, _, _, _, _, _, _, _, _, _, _, _, _, _, _, _, _, _, _, _, _, _, _, _, _, _, _, _, _, _, _, _, _, _, _, _, _, _, _, _, _, _, _, _, _, _, _, _, _, _, _, _, _, _, _, _, _, _, _, _, _, _, _, _, _, _, _, _, _, _, _, _, _, _, _, _, _, _, _, _, _, _, rfl, sets4 HD.out.c0 _ _ _ _, ((((Only.refl _ _).setCell _).setCell _).setCell _).setCell _⟩
        · refine fun a' y => ex_elim fun u0 => ex_elim fun u1 => ex_elim fun u3 => ex_elim fun u4 => ex_elim fun u5 => ex_elim fun u6 => ex_elim fun u7 => ex_elim fun u8 => ex_elim fun u9 => ex_elim fun u10 => ex_elim fun u11 => ex_elim fun u12 => ex_elim fun u13 => ex_elim fun u14 => ex_elim fun u15 => ex_elim fun u16 => ex_elim fun u17 => ex_elim fun u18 => ex_elim fun u19 => ex_elim fun u20 => ex_elim fun u21 => ex_elim fun u22 => ex_elim fun u23 => ex_elim fun u24 => ex_elim fun u25 => ex_elim fun u26 => ex_elim fun u27 => ex_elim fun u28 => ex_elim fun u29 => ex_elim fun u30 => ex_elim fun u31 => ex_elim fun u32 => ex_elim fun u33 => ex_elim fun u34 => ex_elim fun u35 => ex_elim fun u36 => ex_elim fun u37 => ex_elim fun u38 => ex_elim fun u39 => ex_elim fun u40 => ex_elim fun u41 => ex_elim fun u42 => ex_elim fun u43 => ex_elim fun u44 => ex_elim fun u45 => ex_elim fun u46 => ex_elim fun u47 => ex_elim fun u48 => ex_elim fun u49 => ex_elim fun u50 => ex_elim fun u51 => ex_elim fun u52 => ex_elim fun u53 => ex_elim fun u54 => ex_elim fun u55 => ex_elim fun u56 => ex_elim fun u57 => ex_elim fun u58 => ex_elim fun u59 => ex_elim fun u60 => ex_elim fun u61 => ex_elim fun u62 => ex_elim fun u63 => ex_elim fun u64 => ex_elim fun u65 => ex_elim fun u66 => ex_elim fun u67 => ex_elim fun u68 => ex_elim fun u69 => ex_elim fun u70 => ex_elim fun u71 => ex_elim fun u72 => ex_elim fun u73 => ex_elim fun u74 => ex_elim fun u75 => ex_elim fun u76 => ex_elim fun u77 => ex_elim fun u78 => ex_elim fun u79 => ex_elim fun u80 => ex_elim fun u81 => ex_elim fun u82 => ex_elim fun u83 => ex_elim fun u84 => ex_elim fun u85 => ex_elim fun u86 => ex_elim fun u87 => ex_elim fun u88 => ex_elim fun u89 => ex_elim fun u90 => ex_elim fun u91 => ex_elim fun u92 => ex_elim fun u93 => ex_elim fun u94 => ex_elim fun u95 => ex_elim fun u96 => ex_elim fun u97 => ex_elim fun u98 => ex_elim fun u99 => ex_elim fun u100 => ex_elim fun u101 => ex_elim fun u102 => ex_elim fun u103 => ex_elim fun u104 => ex_elim fun u105 => ex_elim fun u106 => ex_elim fun u107 => ex_elim fun u108 => ex_elim fun u109 => ex_elim fun u110 => ex_elim fun u111 => ex_elim fun u112 => ex_elim fun u113 => ex_elim fun u114 => ex_elim fun u115 => ex_elim fun u116 => ex_elim fun u117 => ex_elim fun u118 => ex_elim fun u119 => ex_elim fun u120 => ex_elim fun u121 => ex_elim fun u122 => ex_elim fun u123 => ex_elim fun u124 => ex_elim fun u125 => ex_elim fun u126 => ex_elim fun u127 => ?_
          rintro ⟨rfl, hy, hO⟩
          have hk' := hO.kept HD.out.c0 (good := [94, 89, 3, 59]) (by decide)
          have HG : Hid (Rowed 89 1 ElR 0 y (.slice pp q.length cp) q ∧ Rowed 94 10 ElD 0 y (.slice pd ds.length cd) ds ∧ Dq b t y ∧ Only b w y) :=
            ⟨(HI.out.2.1.weak (Nat.zero_le _)).kept hk' (by simp) (ElR.kept (hk'.sub (by simp))), (HI.out.2.2.1.weak (Nat.zero_le _)).kept hk' (by simp) (ElD.kept (hk'.sub (by simp))), ⟨hk' _ _ _ HD.out.rd.rd (by simp), HD.out.rd.len⟩, ⟨hO.os.trans HD.out.on.os, hO.tape.trans HD.out.on.tape, hO.output.trans HD.out.on.output, Nat.le_trans HD.out.on.size hO.size, fun i hi e1 => (hO.block i (Nat.lt_of_lt_of_le hi HD.out.on.size) (by simp; omega)).trans (HD.out.on.block i hi e1)⟩⟩
          clear n0 n1 n2 n3 m0 m1 m2 m3 k0 k1 k2 k3 c1 hO hk'
          have k0 := blk_cell hy 0
          have k1 := blk_cell hy 1
          have k2 := blk_cell hy 2
          have k3 := blk_cell hy 3
          simp only [List.getElem?_toArray, List.getElem?_cons_zero, List.getElem?_cons_succ] at k0 k1 k2 k3
          go_wp2
          rw [HQ.out, HS.out]
          exact bodyPost_ret (v := .agg #[.int .i64 x1, .int .i64 x2, .slice pp q.length cp, .slice pd ds.length cd]) (by simp [results, Tryz.results17, go_sem, k0, k1, k2, k3]) rfl ⟨_, _, rfl, HG.out⟩
  clear hK HQ
  go_loopw [6] (fun v6 wr => ∃ (k : Nat) (pv : Value), v6 = .int .i64 k ∧ k ≤ x3.toNat ∧ Hid (Dc b w.heap.size C (readN (readN (numR 1000) x4.toNat) k r4).2 x1 x2 pv (.slice none 0 0) w wr ∧ Rowed 89 1 ElR w.heap.size wr pv (readN (readN (numR 1000) x4.toNat) k r4).1 ∧ (readN (readN (numR 1000) x4.toNat) k r4).1.length = k)) (fun v6 _ => (x3.toNat - intOf v6).toNat)
  case atStart => exact ⟨0, _, rfl, Nat.zero_le _, HD4.out, Rowed.nil _ _ _ _ _, rfl⟩
  case round =>
    obtain ⟨k, pv, rfl, hk, HI⟩ := hrel
    obtain ⟨q, s, hq⟩ : ∃ q s, readN (readN (numR 1000) x4.toNat) k r4 = (q, s) := ⟨_, _, rfl⟩
    rw [hq] at HI
    have HD := hid HI.out.1
    have hm3 : x3 ≤ 3 := HM3.out
    have hm6 : x4 ≤ 6 := HM6.out
    have c1 := HI.out.1.rd.cell1
    by_cases hlt : (k : Int) < x3
    · by_cases he : s.e = 0
      · have hE : ((s.e : Int) == 0) = true := by simp [he]
        have HS : Hid (readN (readN (numR 1000) x4.toNat) (k + 1) r4 = (q ++ [(readN (numR 1000) x4.toNat s).1], (readN (numR 1000) x4.toNat s).2)) := by
          have := readN_snoc (readN (numR 1000) x4.toNat) k r4 (by rw [hq]; exact he)
          rw [hq] at this; exact this
        have HC : Hid (k + 1 ≤ x3.toNat ∧ k ≤ 3) := by have := HM3.out; unfold Hid; omega
        clear he hq
        go_wp2
        go_loopw [7, 8] (fun v7 v8 wy => ∃ j : Nat, v8 = .int .i64 j ∧ j ≤ x4.toNat ∧ Hid (Dq b (readN (numR 1000) j s).2 wy ∧ Only b wr wy ∧ Rowed 3 1 ElI wr.heap.size wy v7 (readN (numR 1000) j s).1 ∧ (readN (numR 1000) j s).1.length = j)) (fun _ v8 _ => (x4.toNat - intOf v8).toNat)
        case atStart => exact ⟨0, rfl, Nat.zero_le _, HD.out.rd, Only.refl _ _, Rowed.nil _ _ _ _ _, rfl⟩
        case round =>
          obtain ⟨j, rfl, hj, HJ⟩ := hrel
          clear c1
          have c1 := HJ.out.1.cell1
          by_cases hjt : (j : Int) < x4
          · by_cases he : (readN (numR 1000) j s).2.e = 0
            · have hE : (((readN (numR 1000) j s).2.e : Int) == 0) = true := by simp [he]
              have HT := hid (readN_snoc (numR 1000) j s he)
              have HG : Hid (j + 1 ≤ x4.toNat ∧ j ≤ 6) := by have := HM6.out; unfold Hid; omega
              clear he
              go_wp2_with (first
                | (go_at_call 18; refine (dnum_any _ _ _ _ HJ.out.1).mono ?_; rintro e w5 ⟨rfl, hr5, ho5⟩; have HR5 := hid hr5; have HO5 := hid ho5; have HK5 := hid (HJ.out.1.kept (good := [3]) ho5 (by decide)); clear hr5 ho5)
                | (at_builtin; refine wpList_push_doc rfl (.tmp 47) (.tmp 50) 89 3 (.int .i64 0) 1 8 rfl Tryz.underlying89 infoI rfl (by decide) [] (numR 1000 (readN (numR 1000) j s).2).1 (HJ.out.2.2.1.kept HK5.out (by simp) (ElI.kept (HK5.out.sub (by simp)))) rfl (by intro u hu; simp only [List.mem_cons, List.not_mem_nil, or_false] at hu; subst hu; rfl) (by have := HJ.out.2.2.2; have := HG.out; omega) (by decide) HR5.out (by decide) (HJ.out.2.1.trans HO5.out) (Nat.le_refl _) (HJ.out.2.1.trans HO5.out).size (by decide) ⟨rfl, num_low _ _, Int.le_trans (num_most _ (by decide)) (by decide)⟩ (fun _ hk => ElI.kept hk) rfl rfl rfl ?_; intro p1 cap1 w6 hr6 hs6 ht6 hk6; have HR6 := hid hr6; have HS6 := hid hs6; have HT6 := hid ht6; clear hr6 hs6 ht6 hk6))
              go_roundw
              case rel => exact ⟨j + 1, by go_num, HG.out.1, by rw [HT.out]; exact HS6.out, HT6.out, by rw [HT.out]; exact HR6.out, by rw [HT.out, List.length_append, HJ.out.2.2.2]; rfl⟩
              case measure => have := HG.out.1; simp [intOf]; omega
            · have hE : (((readN (numR 1000) j s).2.e : Int) == 0) = false := by simpa using he
              have HE := hid (readN_stays (numR 1000) he x4.toNat hj)
              clear he
              obtain ⟨p7, cp7, rfl, -, -⟩ := HJ.out.2.2.1.shape
              have HDX := hid (HD.out.num HJ.out.1 HJ.out.2.1)
              have HPX := hid (HI.out.2.1.kept (HD.out.rd.kept (good := [89, 3]) HJ.out.2.1 (by decide)) (by simp) (ElR.kept ((HD.out.rd.kept (good := [89, 3]) HJ.out.2.1 (by decide)).sub (by simp))))
              have HRX := hid (HJ.out.2.2.1.weak (Nat.zero_le _))
              obtain ⟨c1, c2, c3, f1, f2, f3⟩ := HDX.out.cells
              go_wp2_with (at_builtin; refine wpList_push_doc rfl (.tmp 53) (.tmp 55) 23 89 (.slice none 0 0) 1 24 rfl Tryz.underlying23 infoR rfl (by decide) [3, 26] (readN (numR 1000) j s).1 HPX.out rfl (by intro u hu; simp only [List.mem_cons, List.not_mem_nil, or_false] at hu; subst hu; rfl) (by have := HI.out.2.2; have := HC.out; omega) (by decide) HDX.out.rd (by decide) HDX.out.on (Nat.le_of_eq HDX.out.hN) (by have := HDX.out.on.size; omega) (by decide) ⟨_, rfl, HRX.out⟩ (fun _ hk => ElR.kept (hk.sub (by simp))) rfl rfl rfl ?_; intro p1 cap1 w9 hr9 hs9 ht9 hk9; have HD9 := hid (HDX.out.to hs9 ht9 (hk9.sub (by simp))); have HR9 := hid hr9; clear hr9 hs9 ht9 hk9 c1 c2 c3 f1 f2 f3; obtain ⟨c1, c2, c3, f1, f2, f3⟩ := HD9.out.cells)
              go_roundw
              case rel => exact ⟨k + 1, _, by go_num, HC.out.1, by rw [HS.out, HE.out]; exact ⟨HD9.out.putP _, HR9.out.kept (HD9.out.keptC (good := [89, 3]) (by decide) 2 _) (by simp) (ElR.kept ((HD9.out.keptC (good := [89, 3]) (by decide) 2 _).sub (by simp))), by rw [List.length_append, HI.out.2.2]; rfl⟩⟩
              case measure => have := HC.out.1; simp [intOf]; omega
          · have HE : Hid (readN (numR 1000) x4.toNat s = readN (numR 1000) j s) := by
              unfold Hid
              rw [show x4.toNat = j by omega]
            obtain ⟨p7, cp7, rfl, -, -⟩ := HJ.out.2.2.1.shape
            have HDX := hid (HD.out.num HJ.out.1 HJ.out.2.1)
            have HPX := hid (HI.out.2.1.kept (HD.out.rd.kept (good := [89, 3]) HJ.out.2.1 (by decide)) (by simp) (ElR.kept ((HD.out.rd.kept (good := [89, 3]) HJ.out.2.1 (by decide)).sub (by simp))))
            have HRX := hid (HJ.out.2.2.1.weak (Nat.zero_le _))
            obtain ⟨c1, c2, c3, f1, f2, f3⟩ := HDX.out.cells
            go_wp2_with (at_builtin; refine wpList_push_doc rfl (.tmp 53) (.tmp 55) 23 89 (.slice none 0 0) 1 24 rfl Tryz.underlying23 infoR rfl (by decide) [3, 26] (readN (numR 1000) j s).1 HPX.out rfl (by intro u hu; simp only [List.mem_cons, List.not_mem_nil, or_false] at hu; subst hu; rfl) (by have := HI.out.2.2; have := HC.out; omega) (by decide) HDX.out.rd (by decide) HDX.out.on (Nat.le_of_eq HDX.out.hN) (by have := HDX.out.on.size; omega) (by decide) ⟨_, rfl, HRX.out⟩ (fun _ hk => ElR.kept (hk.sub (by simp))) rfl rfl rfl ?_; intro p1 cap1 w9 hr9 hs9 ht9 hk9; have HD9 := hid (HDX.out.to hs9 ht9 (hk9.sub (by simp))); have HR9 := hid hr9; clear hr9 hs9 ht9 hk9 c1 c2 c3 f1 f2 f3; obtain ⟨c1, c2, c3, f1, f2, f3⟩ := HD9.out.cells)
            go_roundw
            case rel => exact ⟨k + 1, _, by go_num, HC.out.1, by rw [HS.out, HE.out]; exact ⟨HD9.out.putP _, HR9.out.kept (HD9.out.keptC (good := [89, 3]) (by decide) 2 _) (by simp) (ElR.kept ((HD9.out.keptC (good := [89, 3]) (by decide) 2 _).sub (by simp))), by rw [List.length_append, HI.out.2.2]; rfl⟩⟩
            case measure => have := HC.out.1; simp [intOf]; omega
      · have hE : ((s.e : Int) == 0) = false := by simpa using he
        have HS : Hid (readN (readN (numR 1000) x4.toNat) x3.toNat r4 = (q, s)) := by
          unfold Hid
          rw [readN_stays (readN (numR 1000) x4.toNat) (by rw [hq]; exact he) x3.toNat hk, hq]
        clear he hq
        go_wp2
        exact ⟨pv, _, _, _, _, _, _, _, _, _, _, _, _, _, _, _, _, _, _, _, _, _, _, _, _, _, _, _, _, _, _, _, _, _, _, _, _, _, _, _, _, _, _, _, _, _, _, _, _, _, _, _, _, _, _, _, _, _, _, _, _, _, _, _, _, _, _, _, _, _, _, _, _, _, _, _, _, _, _, _, _, _, _, _, _, _, _, _, _, _, _, _, _, _, _, _, _, _, _, _, _, _, _, _, _, _, _, _, _, _, _, _, _, _, _, _, _, _, _, _, _, _, _, _, _, rfl, by rw [HS.out]; exact HD.out, by rw [HS.out]; exact HI.out.2.1⟩
    · have HS : Hid (readN (readN (numR 1000) x4.toNat) x3.toNat r4 = (q, s)) := by
        unfold Hid
        rw [show x3.toNat = k by omega, hq]
      clear hq
      go_wp2
      exact ⟨pv, _, _, _, _, _, _, _, _, _, _, _, _, _, _, _, _, _, _, _, _, _, _, _, _, _, _, _, _, _, _, _, _, _, _, _, _, _, _, _, _, _, _, _, _, _, _, _, _, _, _, _, _, _, _, _, _, _, _, _, _, _, _, _, _, _, _, _, _, _, _, _, _, _, _, _, _, _, _, _, _, _, _, _, _, _, _, _, _, _, _, _, _, _, _, _, _, _, _, _, _, _, _, _, _, _, _, _, _, _, _, _, _, _, _, _, _, _, _, _, _, _, _, _, _, rfl, by rw [HS.out]; exact HD.out, by rw [HS.out]; exact HI.out.2.1⟩
end Go.Proofs.YtmpgeabfogcblaaGreat

namespace Go.Proofs.YtmpgeabfogcblaaGreat
open Go.RowKit
set_option linter.unusedSimpArgs false

theorem isConf_short {c : Cnf} (h : isConf c = 0) (hu : ∀ d ∈ c.doms, U64 d.cats) : ∀ d ∈ c.doms, ∀ r ∈ d.routes, r.length ≤ 20 := by
  intro d hd r hr
  obtain ⟨h1, _, _, h4⟩ := isConf_parts h
  simp only [formB, Bool.and_eq_true, withB_iff] at h1
  have hn : c.doms.length ≤ 6 := by have := h1.1.2; omega
  obtain ⟨k, hk⟩ := domsB_mem h4 d hd
  simp only [domB, Bool.and_eq_true, decide_eq_true_eq, List.all_eq_true] at hk
  have := hk.1.2 r hr
  simp only [routeB, Bool.and_eq_true, List.all_eq_true, withB_iff] at this
  have hin : ∀ n ∈ r, ∃ e ∈ c.doms, labAt c.doms n = e.lab := fun n hn' => by
    have hb := this.1.2 n hn'
    have hlt : n.toNat < c.doms.length := by omega
    exact ⟨c.doms[n.toNat], List.getElem_mem hlt, by simp [labAt, hlt]⟩
  have key := chain_short (c.doms.map fun e => weight e.lab) (r.map (labAt c.doms)) d.lab
    (fun y hy => by
      obtain ⟨n, hn', rfl⟩ := List.mem_map.1 hy
      obtain ⟨e, he, hl⟩ := hin n hn'
      rw [hl]; exact hu e he)
    (hu d hd)
    (fun y hy => by
      obtain ⟨n, hn', rfl⟩ := List.mem_map.1 hy
      obtain ⟨e, he, hl⟩ := hin n hn'
      rw [hl]; exact List.mem_map.2 ⟨e, he, rfl⟩)
    (List.mem_map.2 ⟨d, hd, rfl⟩) this.2
  rw [List.length_map, List.length_map] at key
  omega

/-- What is read of a script that is one is short enough. -/
theorem scrR_short {r : Rd} (h : isScr (scrR r).1 = 0) : (allBytes (scrR r).1).length ≤ 40000 :=
  have hh := scrR_held r
  have hc := (isScr_parts h).1
  allBytes_length h (isConf_in hc hh) (isConf_short hc hh.cats)

/-- The types of what Read holds beside its reader. -/
abbrev goodD : List TypeId := [30, 94, 89, 3, 44, 43, 47, 46]
abbrev scrO (fr ep : Int) (pv dv : Value) (hz : Int) (sv av : Value) : Obj := .cells #[.int .i64 fr, .int .i64 ep, pv, dv, .int .i64 hz, sv, av] 30 (0, 0)
/-- Read's script at block C, its reader at block B. -/
structure Ds (B C : Nat) (r : Rd) (fr ep hz : Int) (pv dv sv av : Value) (q : List (List Int)) (ds : List Dom) (ss : List (List Axn)) (vs : List (List Arv)) (W0 y : World) : Prop where
  rd : Dq B r y
  on : Only B W0 y
  cb : y.heap[C]? = some (scrO fr ep pv dv hz sv av)
  hC : W0.heap.size ≤ C
  hB : B < W0.heap.size
  plans : Rowed 89 1 ElR 0 y pv q
  doms : Rowed 94 10 ElD 0 y dv ds
  streams : Rowed 44 1 ElS W0.heap.size y sv ss
  arrivals : Rowed 47 1 ElW W0.heap.size y av vs
theorem Ds.to {B C : Nat} {r r' : Rd} {fr ep hz : Int} {pv dv sv av : Value} {q : List (List Int)} {ds : List Dom} {ss : List (List Axn)} {vs : List (List Arv)} {W0 y z : World} (h : Ds B C r fr ep hz pv dv sv av q ds ss vs W0 y)
    (hr : Dq B r' z) (ho : Only B W0 z) (k : Kept goodD y z) : Ds B C r' fr ep hz pv dv sv av q ds ss vs W0 z :=
  ⟨hr, ho, k _ _ _ h.cb (by simp), h.hC, h.hB, h.plans.kept k (by simp) (ElR.kept (k.sub (by simp))), h.doms.kept k (by simp) (ElD.kept (k.sub (by simp))), h.streams.kept k (by simp) (ElS.kept (k.sub (by simp))), h.arrivals.kept k (by simp) (ElW.kept (k.sub (by simp)))⟩
theorem Ds.num {B C : Nat} {r r' : Rd} {fr ep hz : Int} {pv dv sv av : Value} {q : List (List Int)} {ds : List Dom} {ss : List (List Axn)} {vs : List (List Arv)} {W0 y z : World} (h : Ds B C r fr ep hz pv dv sv av q ds ss vs W0 y)
    (hr : Dq B r' z) (ho : Only B y z) : Ds B C r' fr ep hz pv dv sv av q ds ss vs W0 z := h.to hr (h.on.trans ho) (h.rd.kept ho (by decide))
theorem Ds.cells {B C : Nat} {r : Rd} {fr ep hz : Int} {pv dv sv av : Value} {q : List (List Int)} {ds : List Dom} {ss : List (List Axn)} {vs : List (List Arv)} {W0 y : World} (h : Ds B C r fr ep hz pv dv sv av q ds ss vs W0 y) (j : Nat) :
    y.cell? ⟨C, j, none⟩ = (#[.int .i64 fr, .int .i64 ep, pv, dv, .int .i64 hz, sv, av] : Array Value)[j]? := blk_cell h.cb j
/-- One cell of the script stored. -/
theorem store_kept {B C j : Nat} {T : TypeId} {cs : Array Value} {r : Rd} {W0 y : World} {good : List TypeId} (hr : Dq B r y) (ho : Only B W0 y) (hc : y.heap[C]? = some (.cells cs T (0, 0))) (hC : W0.heap.size ≤ C) (hB : B < W0.heap.size) (hT : T ∉ good) (u : Value) :
    Dq B r (y.setCell ⟨C, j, none⟩ u) ∧ Only B W0 (y.setCell ⟨C, j, none⟩ u) ∧ Kept good y (y.setCell ⟨C, j, none⟩ u) :=
  ⟨hr.other (by simp; omega) u, ho.put hC u, ((Only.refl C y).setCell (j := j) u).kept hc hT⟩
theorem Rowed.own {α : Type} {T n base : Nat} {El : World → List Value → α → Prop} {w : World} {v : Value} {xs : List α} (h : Rowed T n El base w v xs) : ∀ k, v.ownBlock = some k → k < w.heap.size := by
  obtain ⟨css, h1, -, -⟩ := h
  exact fun k hk => (h1.lt k hk).2
/-- A store into another block leaves a row. -/
theorem row_apart {α : Type} {T n base A : Nat} {El : World → List Value → α → Prop} {w : World} {v : Value} {xs : List α} (h : Rowed T n El base w v xs) (hA : ∀ k, v.ownBlock = some k → k < A) (j : Nat) (u : Value)
    (hE : ∀ cs x, El w cs x → El (w.setCell ⟨A, j, none⟩ u) cs x) : Rowed T n El base (w.setCell ⟨A, j, none⟩ u) v xs := by
  obtain ⟨css, h1, h2, h3⟩ := h
  refine ⟨css, ⟨h1.1, ?_⟩, h2, h3.mono hE⟩
  rcases h1.2 with hn | ⟨g, cap, cur, rfl, e2, e3, r⟩
  · exact .inl hn
  · have hg : g < A := hA g rfl
    exact .inr ⟨g, cap, cur, rfl, e2, (Below.heap_setCell _ _ _ _ (by simp; omega)).trans e3, r⟩
end Go.Proofs.YtmpgeabfogcblaaGreat

namespace Go.Proofs.YtmpgeabfogcblaaGreat
open Go.RowKit
set_option linter.unusedSimpArgs false

/-- Behind one element. -/
def axPost (B cnt : Nat) (x : Int) (jj : Nat) (xs : List Axn) (t : Rd) (y0 : World) (u0 u1 u2 u3 u5 u6 u7 u12 u13 u14 u15 u16 u17 u18 u19 u20 u21 u22 u23 u24 u25 u26 u27 u28 u29 u30 u31 u32 u33 u34 u35 u36 u37 u38 u39 u40 u41 u42 u43 u44 u45 u46 u47 u48 u49 u50 u51 u52 u53 u54 u55 u56 u57 u58 u59 u73 u74 u75 u76 u77 u78 u79 u80 u81 u82 u83 u84 u85 u86 u87 u88 u89 u90 u91 u92 u93 u94 u95 u96 u97 u98 u99 u100 u101 u102 u103 u104 u105 u106 u107 u108 u109 u110 u111 u112 u113 u114 u115 u116 u117 u118 u119 u120 u121 u122 u123 u124 u125 u126 u127 u128 u129 u130 u131 u132 u133 u134 u135 u136 u137 u138 u139 u140 u141 u142 u143 u144 u145 : Value) (a' : Act) (y : World) : Prop :=
  ∃ (v : Value) (u11 u60 u61 u62 u63 u64 u65 u66 u67 u68 u69 u70 u71 u72 : Value), a' = { tmps := #[u0, u1, u2, u3, .pointer (some ⟨B, 0, none⟩), u5, u6, u7, .int .i64 x, v, .int .i64 jj, u11, u12, u13, u14, u15, u16, u17, u18, u19, u20, u21, u22, u23, u24, u25, u26, u27, u28, u29, u30, u31, u32, u33, u34, u35, u36, u37, u38, u39, u40, u41, u42, u43, u44, u45, u46, u47, u48, u49, u50, u51, u52, u53, u54, u55, u56, u57, u58, u59, u60, u61, u62, u63, u64, u65, u66, u67, u68, u69, u70, u71, u72, u73, u74, u75, u76, u77, u78, u79, u80, u81, u82, u83, u84, u85, u86, u87, u88, u89, u90, u91, u92, u93, u94, u95, u96, u97, u98, u99, u100, u101, u102, u103, u104, u105, u106, u107, u108, u109, u110, u111, u112, u113, u114, u115, u116, u117, u118, u119, u120, u121, u122, u123, u124, u125, u126, u127, u128, u129, u130, u131, u132, u133, u134, u135, u136, u137, u138, u139, u140, u141, u142, u143, u144, u145], defers := [] } ∧ Dq B t y ∧ Only B y0 y ∧ Rowed 43 3 ElA cnt y v xs
set_option maxRecDepth 100000 in
set_option maxHeartbeats 4000000 in
theorem axOne {B base jj : Nat} {cnt : Int} {t t' : Rd} {x : Axn} {xs : List Axn} {v : Value} {y0 z : World} (e : axnR t = (x, t')) (hl : xs.length ≤ 400) (hb : base = y0.heap.size) (hB : B < y0.heap.size)
    (hd : Dq B t z) (ho : Only B y0 z) (hr : Rowed 43 3 ElA base z v xs) (u0 u1 u2 u3 u5 u6 u7 u11 u12 u13 u14 u15 u16 u17 u18 u19 u20 u21 u22 u23 u24 u25 u26 u27 u28 u29 u30 u31 u32 u33 u34 u35 u36 u37 u38 u39 u40 u41 u42 u43 u44 u45 u46 u47 u48 u49 u50 u51 u52 u53 u54 u55 u56 u57 u58 u59 u60 u61 u62 u63 u64 u65 u66 u67 u68 u69 u70 u71 u72 u73 u74 u75 u76 u77 u78 u79 u80 u81 u82 u83 u84 u85 u86 u87 u88 u89 u90 u91 u92 u93 u94 u95 u96 u97 u98 u99 u100 u101 u102 u103 u104 u105 u106 u107 u108 u109 u110 u111 u112 u113 u114 u115 u116 u117 u118 u119 u120 u121 u122 u123 u124 u125 u126 u127 u128 u129 u130 u131 u132 u133 u134 u135 u136 u137 u138 u139 u140 u141 u142 u143 u144 u145 : Value) :
    (bodyAt Tryz.f6 [1, 1, 1, 1, 1, 1, 0, 1, 2, 2, 1, 0, 2, 1, 1, 0, 1, 2, 2, 1, 0, 2]).wp Tryz.prog (Ends (axPost B base cnt jj (xs ++ [x]) t' y0 u0 u1 u2 u3 u5 u6 u7 u12 u13 u14 u15 u16 u17 u18 u19 u20 u21 u22 u23 u24 u25 u26 u27 u28 u29 u30 u31 u32 u33 u34 u35 u36 u37 u38 u39 u40 u41 u42 u43 u44 u45 u46 u47 u48 u49 u50 u51 u52 u53 u54 u55 u56 u57 u58 u59 u73 u74 u75 u76 u77 u78 u79 u80 u81 u82 u83 u84 u85 u86 u87 u88 u89 u90 u91 u92 u93 u94 u95 u96 u97 u98 u99 u100 u101 u102 u103 u104 u105 u106 u107 u108 u109 u110 u111 u112 u113 u114 u115 u116 u117 u118 u119 u120 u121 u122 u123 u124 u125 u126 u127 u128 u129 u130 u131 u132 u133 u134 u135 u136 u137 u138 u139 u140 u141 u142 u143 u144 u145))
      ({ tmps := #[u0, u1, u2, u3, .pointer (some ⟨B, 0, none⟩), u5, u6, u7, .int .i64 cnt, v, .int .i64 jj, u11, u12, u13, u14, u15, u16, u17, u18, u19, u20, u21, u22, u23, u24, u25, u26, u27, u28, u29, u30, u31, u32, u33, u34, u35, u36, u37, u38, u39, u40, u41, u42, u43, u44, u45, u46, u47, u48, u49, u50, u51, u52, u53, u54, u55, u56, u57, u58, u59, u60, u61, u62, u63, u64, u65, u66, u67, u68, u69, u70, u71, u72, u73, u74, u75, u76, u77, u78, u79, u80, u81, u82, u83, u84, u85, u86, u87, u88, u89, u90, u91, u92, u93, u94, u95, u96, u97, u98, u99, u100, u101, u102, u103, u104, u105, u106, u107, u108, u109, u110, u111, u112, u113, u114, u115, u116, u117, u118, u119, u120, u121, u122, u123, u124, u125, u126, u127, u128, u129, u130, u131, u132, u133, u134, u135, u136, u137, u138, u139, u140, u141, u142, u143, u144, u145], defers := [] }) z := by
  obtain ⟨p9, c9, rfl, -, -⟩ := hr.shape
  obtain ⟨x0, s0, e0⟩ : ∃ x s, numR 1048576 t = (x, s) := ⟨_, _, rfl⟩
  obtain ⟨x1, s1, e1⟩ : ∃ x s, numR 1048576 s0 = (x, s) := ⟨_, _, rfl⟩
  obtain ⟨x2, s2, e2⟩ : ∃ x s, numR 1048576 s1 = (x, s) := ⟨_, _, rfl⟩
  have e9 : axnR t = (⟨x0, x1, x2⟩, s2) := by
    simp only [numR, Prod.mk.injEq] at e0 e1 e2
    simp only [axnR, e0, e1, e2]
  rw [e9] at e
  obtain ⟨rfl, rfl⟩ := Prod.mk.inj e
  have HG := hid (And.intro hl (And.intro hb hB))
  have E0 := hid e0
  have E1 := hid e1
  have E2 := hid e2
  have HD := hid hd
  have HO := hid ho
  have HR := hid hr
  clear e e9 e0 e1 e2 hl hb hd ho hr
  unfold bodyAt Tryz.f6
  simp only [codeAt]
  go_upto_region 16 with (go_at_call 18; refine (dnum_to E0.out HD.out).mono ?_; rintro e z1 ⟨rfl, hr1, ho1⟩; have HD1 := hid hr1; have HO1 := hid (HO.out.trans ho1); have HK := hid (HD.out.kept (good := goodD) ho1 (by decide)); clear hr1 ho1)
  have HR1 := hid (HR.out.kept HK.out (by simp) (ElA.kept (HK.out.sub (by simp))))
  clear HK HR HO HD
  have HE : Hid ((z1.alloc (.cells #[.int .i64 x0, .int .i64 0, .int .i64 0] 43 (0, 0))).heap[z1.heap.size]? = some (.cells #[.int .i64 x0, .int .i64 0, .int .i64 0] 43 (0, 0))) := heap_alloc_new z1 _
  have HD2 := hid (HD1.out.ext (Ext.alloc (Ext.refl z1) (.cells #[.int .i64 x0, .int .i64 0, .int .i64 0] 43 (0, 0))))
  have HO2 := hid (HO1.out.ext (Ext.alloc (Ext.refl z1) (.cells #[.int .i64 x0, .int .i64 0, .int .i64 0] 43 (0, 0))))
  have HR2 := hid (HR1.out.kept (Kept.of_ext (g := goodD) (Ext.alloc (Ext.refl z1) (.cells #[.int .i64 x0, .int .i64 0, .int .i64 0] 43 (0, 0)))) (by simp) (ElA.kept (Kept.of_ext (Ext.alloc (Ext.refl z1) _))))
  have HA : Hid (y0.heap.size ≤ z1.heap.size) := HO1.out.size
  have HF := hid HR1.out.own
  clear HD1 HO1 HR1
  generalize z1.alloc (.cells #[.int .i64 x0, .int .i64 0, .int .i64 0] 43 (0, 0)) = v1 at *
  generalize z1.heap.size = A at *
  clear z1
  go_upto_region 17 with (go_at_call 18; refine (dnum_to E1.out HD2.out).mono ?_; rintro e z1 ⟨rfl, hr1, ho1⟩; have HD3 := hid hr1; have HO3 := hid (HO2.out.trans ho1); have HK := hid (HD2.out.kept (good := goodD) ho1 (by decide)); clear hr1 ho1; have HE1 : Hid (z1.heap[A]? = some (.cells #[.int .i64 x0, .int .i64 0, .int .i64 0] 43 (0, 0))) := HK.out _ _ _ HE.out (by simp); have g0 : z1.cell? ⟨A, 1, none⟩ = some (.int .i64 0) := blk_cell HE1.out 1; have f0 := blk_free HE1.out 1)
  have HR3 := hid (HR2.out.kept HK.out (by simp) (ElA.kept (HK.out.sub (by simp))))
  have HE2 : Hid ((z1.setCell ⟨A, 1, none⟩ (.int .i64 x1)).heap[A]? = some (.cells #[.int .i64 x0, .int .i64 x1, .int .i64 0] 43 (0, 0))) := blk_set HE1.out 1 _
  have HD4 := hid (HD3.out.other (p := ⟨A, 1, none⟩) (by have := HA.out; have := HG.out.2.2; simp; omega) (.int .i64 x1))
  have HO4 := hid (HO3.out.put (j := 1) HA.out (.int .i64 x1))
  have HR4 := hid (row_apart HR3.out HF.out 1 (.int .i64 x1) (fun _ _ h => h))
  clear HK HE HE1 g0 f0 HD3 HO3 HR3 HD2 HO2 HR2 E1
  have HE := HE2
  clear HE2
  generalize z1.setCell ⟨A, 1, none⟩ (.int .i64 x1) = v2 at *
  clear z1
  go_upto_region 18 with (go_at_call 18; refine (dnum_to E2.out HD4.out).mono ?_; rintro e z2 ⟨rfl, hr1, ho1⟩; have HD5 := hid hr1; have HO5 := hid (HO4.out.trans ho1); have HK := hid (HD4.out.kept (good := goodD) ho1 (by decide)); clear hr1 ho1; have HE1 : Hid (z2.heap[A]? = some (.cells #[.int .i64 x0, .int .i64 x1, .int .i64 0] 43 (0, 0))) := HK.out _ _ _ HE.out (by simp); have g0 : z2.cell? ⟨A, 2, none⟩ = some (.int .i64 0) := blk_cell HE1.out 2; have f0 := blk_free HE1.out 2)
  have HR5 := hid (HR4.out.kept HK.out (by simp) (ElA.kept (HK.out.sub (by simp))))
  have HE2 : Hid ((z2.setCell ⟨A, 2, none⟩ (.int .i64 x2)).heap[A]? = some (.cells #[.int .i64 x0, .int .i64 x1, .int .i64 x2] 43 (0, 0))) := blk_set HE1.out 2 _
  have HD6 := hid (HD5.out.other (p := ⟨A, 2, none⟩) (by have := HA.out; have := HG.out.2.2; simp; omega) (.int .i64 x2))
  have HO6 := hid (HO5.out.put (j := 2) HA.out (.int .i64 x2))
  have HR6 := hid (row_apart HR5.out HF.out 2 (.int .i64 x2) (fun _ _ h => h))
  clear HK HE HE1 g0 f0 HD5 HO5 HR5 HD4 HO4 HR4 E2
  have HE := HE2
  clear HE2
  generalize z2.setCell ⟨A, 2, none⟩ (.int .i64 x2) = v3 at *
  clear z2
  have g0 : v3.cell? ⟨A, 0, none⟩ = some (.int .i64 x0) := blk_cell HE.out 0
  have g1 : v3.cell? ⟨A, 1, none⟩ = some (.int .i64 x1) := blk_cell HE.out 1
  have g2 : v3.cell? ⟨A, 2, none⟩ = some (.int .i64 x2) := blk_cell HE.out 2
  have hlt : A < v3.heap.size := lt_of_block HE.out
  go_wp2_with (at_builtin; refine wpList_push_doc rfl (.tmp 69) (.tmp 71) 44 43 (.agg #[.int .i64 0, .int .i64 0, .int .i64 0]) 3 24 rfl Tryz.underlying44 infoA rfl (by decide) [] (⟨x0, x1, x2⟩ : Axn) HR6.out rfl (by intro u hu; simp only [List.mem_cons, List.not_mem_nil, or_false] at hu; rcases hu with rfl | rfl | rfl <;> rfl) (by have := HG.out; omega) (by decide) HD6.out (by decide) HO6.out (Nat.le_of_eq HG.out.2.1.symm) (by have := HO6.out.size; have := HG.out.2.1; omega) (by decide) rfl (fun _ hk => ElA.kept hk) rfl rfl rfl ?_; intro p1 cap1 w9 hr9 hs9 ht9 hk9)
  exact ⟨rfl, _, _, _, _, _, _, _, _, _, _, _, _, _, _, _, rfl, hs9, ht9, hr9⟩

/-- Behind the loop over the elements. -/
def axRowPost (B base : Nat) (cnt : Int) (xs : List Axn) (t : Rd) (y0 : World) (u0 u1 u2 u3 u5 u6 u7 u12 u13 u14 u15 u16 u17 u18 u19 u20 u21 u22 u23 u24 u25 u26 u27 u28 u29 u30 u31 u32 u33 u34 u35 u36 u37 u38 u39 u40 u41 u42 u43 u44 u45 u46 u47 u73 u74 u75 u76 u77 u78 u79 u80 u81 u82 u83 u84 u85 u86 u87 u88 u89 u90 u91 u92 u93 u94 u95 u96 u97 u98 u99 u100 u101 u102 u103 u104 u105 u106 u107 u108 u109 u110 u111 u112 u113 u114 u115 u116 u117 u118 u119 u120 u121 u122 u123 u124 u125 u126 u127 u128 u129 u130 u131 u132 u133 u134 u135 u136 u137 u138 u139 u140 u141 u142 u143 u144 u145 : Value) (a' : Act) (y : World) : Prop :=
  ∃ (v : Value) (u10 u11 u48 u49 u50 u51 u52 u53 u54 u55 u56 u57 u58 u59 u60 u61 u62 u63 u64 u65 u66 u67 u68 u69 u70 u71 u72 : Value), a' = { tmps := #[u0, u1, u2, u3, .pointer (some ⟨B, 0, none⟩), u5, u6, u7, .int .i64 cnt, v, u10, u11, u12, u13, u14, u15, u16, u17, u18, u19, u20, u21, u22, u23, u24, u25, u26, u27, u28, u29, u30, u31, u32, u33, u34, u35, u36, u37, u38, u39, u40, u41, u42, u43, u44, u45, u46, u47, u48, u49, u50, u51, u52, u53, u54, u55, u56, u57, u58, u59, u60, u61, u62, u63, u64, u65, u66, u67, u68, u69, u70, u71, u72, u73, u74, u75, u76, u77, u78, u79, u80, u81, u82, u83, u84, u85, u86, u87, u88, u89, u90, u91, u92, u93, u94, u95, u96, u97, u98, u99, u100, u101, u102, u103, u104, u105, u106, u107, u108, u109, u110, u111, u112, u113, u114, u115, u116, u117, u118, u119, u120, u121, u122, u123, u124, u125, u126, u127, u128, u129, u130, u131, u132, u133, u134, u135, u136, u137, u138, u139, u140, u141, u142, u143, u144, u145], defers := [] } ∧ Dq B t y ∧ Only B y0 y ∧ Rowed 43 3 ElA base y v xs
set_option maxRecDepth 100000 in
set_option maxHeartbeats 4000000 in
theorem axRow {B base : Nat} {cnt : Int} {t t' : Rd} {xs : List Axn} {y0 z : World} (e : readN axnR cnt.toNat t = (xs, t')) (hc : cnt ≤ 400) (hb : base = y0.heap.size) (hB : B < y0.heap.size) (hd : Dq B t z) (ho : Only B y0 z) (u0 u1 u2 u3 u5 u6 u7 u11 u12 u13 u14 u15 u16 u17 u18 u19 u20 u21 u22 u23 u24 u25 u26 u27 u28 u29 u30 u31 u32 u33 u34 u35 u36 u37 u38 u39 u40 u41 u42 u43 u44 u45 u46 u47 u48 u49 u50 u51 u52 u53 u54 u55 u56 u57 u58 u59 u60 u61 u62 u63 u64 u65 u66 u67 u68 u69 u70 u71 u72 u73 u74 u75 u76 u77 u78 u79 u80 u81 u82 u83 u84 u85 u86 u87 u88 u89 u90 u91 u92 u93 u94 u95 u96 u97 u98 u99 u100 u101 u102 u103 u104 u105 u106 u107 u108 u109 u110 u111 u112 u113 u114 u115 u116 u117 u118 u119 u120 u121 u122 u123 u124 u125 u126 u127 u128 u129 u130 u131 u132 u133 u134 u135 u136 u137 u138 u139 u140 u141 u142 u143 u144 u145 : Value) :
    (bodyAt Tryz.f6 [1, 1, 1, 1, 1, 1, 0, 1, 2, 2, 1, 0, 2, 1, 1, 0, 1]).wp Tryz.prog (Ends (axRowPost B base cnt xs t' y0 u0 u1 u2 u3 u5 u6 u7 u12 u13 u14 u15 u16 u17 u18 u19 u20 u21 u22 u23 u24 u25 u26 u27 u28 u29 u30 u31 u32 u33 u34 u35 u36 u37 u38 u39 u40 u41 u42 u43 u44 u45 u46 u47 u73 u74 u75 u76 u77 u78 u79 u80 u81 u82 u83 u84 u85 u86 u87 u88 u89 u90 u91 u92 u93 u94 u95 u96 u97 u98 u99 u100 u101 u102 u103 u104 u105 u106 u107 u108 u109 u110 u111 u112 u113 u114 u115 u116 u117 u118 u119 u120 u121 u122 u123 u124 u125 u126 u127 u128 u129 u130 u131 u132 u133 u134 u135 u136 u137 u138 u139 u140 u141 u142 u143 u144 u145)) ({ tmps := #[u0, u1, u2, u3, .pointer (some ⟨B, 0, none⟩), u5, u6, u7, .int .i64 cnt, .slice none 0 0, .int .i64 0, u11, u12, u13, u14, u15, u16, u17, u18, u19, u20, u21, u22, u23, u24, u25, u26, u27, u28, u29, u30, u31, u32, u33, u34, u35, u36, u37, u38, u39, u40, u41, u42, u43, u44, u45, u46, u47, u48, u49, u50, u51, u52, u53, u54, u55, u56, u57, u58, u59, u60, u61, u62, u63, u64, u65, u66, u67, u68, u69, u70, u71, u72, u73, u74, u75, u76, u77, u78, u79, u80, u81, u82, u83, u84, u85, u86, u87, u88, u89, u90, u91, u92, u93, u94, u95, u96, u97, u98, u99, u100, u101, u102, u103, u104, u105, u106, u107, u108, u109, u110, u111, u112, u113, u114, u115, u116, u117, u118, u119, u120, u121, u122, u123, u124, u125, u126, u127, u128, u129, u130, u131, u132, u133, u134, u135, u136, u137, u138, u139, u140, u141, u142, u143, u144, u145], defers := [] }) z := by
  have E := hid e
  have HG := hid (And.intro hc (And.intro hb hB))
  have HD := hid hd
  have HO := hid ho
  clear e hb hd ho
  unfold bodyAt Tryz.f6
  simp only [codeAt]
  go_wp2
  go_loopw [9, 10] (fun vl vj wy => ∃ i : Nat, vj = .int .i64 i ∧ i ≤ cnt.toNat ∧ Hid (Dq B (readN axnR i t).2 wy ∧ Only B y0 wy ∧ Rowed 43 3 ElA base wy vl (readN axnR i t).1 ∧ (readN axnR i t).1.length = i)) (fun _ vj _ => (cnt.toNat - intOf vj).toNat)
  case atStart => exact ⟨0, rfl, Nat.zero_le _, HD.out, HO.out, Rowed.nil _ _ _ _ _, rfl⟩
  case round =>
    obtain ⟨i, rfl, hi, HJ⟩ := hrel
    obtain ⟨qs, ti, hti⟩ : ∃ qs ti, readN axnR i t = (qs, ti) := ⟨_, _, rfl⟩
    rw [hti] at HJ
    have c1 := HJ.out.1.cell1
    clear HD HO
    by_cases hit : (i : Int) < cnt
    · by_cases he : ti.e = 0
      · have hE : ((ti.e : Int) == 0) = true := by simp [he]
        obtain ⟨x, tj, hx⟩ : ∃ x tj, axnR ti = (x, tj) := ⟨_, _, rfl⟩
        have HS : Hid (readN axnR (i + 1) t = (qs ++ [x], tj)) := by
          have := readN_snoc axnR i t (by rw [hti]; exact he)
          rw [hti, hx] at this; exact this
        have HX := hid hx
        clear he hti hx
        go_upto_block 3 with (fail)
        refine wp_block ?_
        refine wp_meet (axPost B base cnt i (qs ++ [x]) tj y0 _ _ _ _ _ _ _ _ _ _ _ _ _ _ _ _ _ _ _ _ _ _ _ _ _ _ _ _ _ _ _ _ _ _ _ _ _ _ _ _ _ _ _ _ _ _ _ _ _ _ _ _ _ _ _ _ _ _ _ _ _ _ _ _ _ _ _ _ _ _ _ _ _ _ _ _ _ _ _ _ _ _ _ _ _ _ _ _ _ _ _ _ _ _ _ _ _ _ _ _ _ _ _ _ _ _ _ _ _ _ _ _ _ _ _ _ _ _ _ _ _ _ _ _ _ _ _ _) (axOne HX.out (by have := HJ.out.2.2.2; omega) HG.out.2.1 HG.out.2.2 HJ.out.1 HJ.out.2.1 HJ.out.2.2.1 _ _ _ _ _ _ _ _ _ _ _ _ _ _ _ _ _ _ _ _ _ _ _ _ _ _ _ _ _ _ _ _ _ _ _ _ _ _ _ _ _ _ _ _ _ _ _ _ _ _ _ _ _ _ _ _ _ _ _ _ _ _ _ _ _ _ _ _ _ _ _ _ _ _ _ _ _ _ _ _ _ _ _ _ _ _ _ _ _ _ _ _ _ _ _ _ _ _ _ _ _ _ _ _ _ _ _ _ _ _ _ _ _ _ _ _ _ _ _ _ _ _ _ _ _ _ _ _ _ _ _ _ _ _ _ _ _ _ _ _ _ _) ?_
        refine fun a' y => ex_elim fun v' => ex_elim fun u11 => ex_elim fun u60 => ex_elim fun u61 => ex_elim fun u62 => ex_elim fun u63 => ex_elim fun u64 => ex_elim fun u65 => ex_elim fun u66 => ex_elim fun u67 => ex_elim fun u68 => ex_elim fun u69 => ex_elim fun u70 => ex_elim fun u71 => ex_elim fun u72 => ?_
        rintro ⟨rfl, hx, ho, hr⟩
        have HX5 := hid hx
        have HO5 := hid ho
        have HR5 := hid hr
        clear hx ho hr c1
        go_wp2
        go_roundw
        case rel => exact ⟨i + 1, by go_num, by omega, by rw [HS.out]; exact ⟨HX5.out, HO5.out, HR5.out, by rw [List.length_append, HJ.out.2.2.2]; rfl⟩⟩
        case measure => simp [intOf]; omega
      · have hE : ((ti.e : Int) == 0) = false := by simpa using he
        have HT : Hid (xs = qs ∧ t' = ti) := by
          have := readN_stays axnR (by rw [hti]; exact he) cnt.toNat hi
          rw [E.out, hti, Prod.mk.injEq] at this; exact this
        clear he hti
        go_wp2
        exact ⟨rfl, _, _, _, _, _, _, _, _, _, _, _, _, _, _, _, _, _, _, _, _, _, _, _, _, _, _, _, _, rfl, by rw [HT.out.2]; exact HJ.out.1, HJ.out.2.1, by rw [HT.out.1]; exact HJ.out.2.2.1⟩
    · have HT : Hid (xs = qs ∧ t' = ti) := by
        have := E.out
        rw [show cnt.toNat = i by omega, hti, Prod.mk.injEq] at this; exact ⟨this.1.symm, this.2.symm⟩
      clear hti
      go_wp2
      exact ⟨rfl, _, _, _, _, _, _, _, _, _, _, _, _, _, _, _, _, _, _, _, _, _, _, _, _, _, _, _, _, rfl, by rw [HT.out.2]; exact HJ.out.1, HJ.out.2.1, by rw [HT.out.1]; exact HJ.out.2.2.1⟩

/-- Behind one row of them. -/
def axRoundPost (B C : Nat) (r : Rd) (fr ep hz : Int) (pv dv av : Value) (q : List (List Int)) (ds : List Dom) (ss : List (List Axn)) (vs : List (List Arv)) (W0 : World) (u0 u1 u2 u3 u6 u7 u12 u13 u14 u15 u16 u17 u18 u19 u20 u21 u22 u23 u24 u25 u26 u27 u28 u29 u30 u31 u32 u33 u34 u35 u36 u37 u38 u39 u40 u41 u42 u43 u44 u45 u79 u80 u81 u82 u83 u84 u85 u86 u87 u88 u89 u90 u91 u92 u93 u94 u95 u96 u97 u98 u99 u100 u101 u102 u103 u104 u105 u106 u107 u108 u109 u110 u111 u112 u113 u114 u115 u116 u117 u118 u119 u120 u121 u122 u123 u124 u125 u126 u127 u128 u129 u130 u131 u132 u133 u134 u135 u136 u137 u138 u139 u140 u141 u142 u143 u144 u145 : Value) (a' : Act) (y : World) : Prop :=
  ∃ (sv : Value) (u8 u9 u10 u11 u46 u47 u48 u49 u50 u51 u52 u53 u54 u55 u56 u57 u58 u59 u60 u61 u62 u63 u64 u65 u66 u67 u68 u69 u70 u71 u72 u73 u74 u75 u76 u77 u78 : Value), a' = { tmps := #[u0, u1, u2, u3, .pointer (some ⟨B, 0, none⟩), .pointer (some ⟨C, 0, none⟩), u6, u7, u8, u9, u10, u11, u12, u13, u14, u15, u16, u17, u18, u19, u20, u21, u22, u23, u24, u25, u26, u27, u28, u29, u30, u31, u32, u33, u34, u35, u36, u37, u38, u39, u40, u41, u42, u43, u44, u45, u46, u47, u48, u49, u50, u51, u52, u53, u54, u55, u56, u57, u58, u59, u60, u61, u62, u63, u64, u65, u66, u67, u68, u69, u70, u71, u72, u73, u74, u75, u76, u77, u78, u79, u80, u81, u82, u83, u84, u85, u86, u87, u88, u89, u90, u91, u92, u93, u94, u95, u96, u97, u98, u99, u100, u101, u102, u103, u104, u105, u106, u107, u108, u109, u110, u111, u112, u113, u114, u115, u116, u117, u118, u119, u120, u121, u122, u123, u124, u125, u126, u127, u128, u129, u130, u131, u132, u133, u134, u135, u136, u137, u138, u139, u140, u141, u142, u143, u144, u145], defers := [] } ∧ Ds B C r fr ep hz pv dv sv av q ds ss vs W0 y
set_option maxRecDepth 100000 in
set_option maxHeartbeats 4000000 in
theorem axRound {B C : Nat} {r r' : Rd} {fr ep hz : Int} {pv dv sv av : Value} {q : List (List Int)} {ds : List Dom} {ss : List (List Axn)} {vs : List (List Arv)} {l : List Axn} {W0 z : World} (e : countR 400 axnR r = (l, r')) (hs : ss.length ≤ 6) (h : Ds B C r fr ep hz pv dv sv av q ds ss vs W0 z) (u0 u1 u2 u3 u6 u7 u8 u9 u10 u11 u12 u13 u14 u15 u16 u17 u18 u19 u20 u21 u22 u23 u24 u25 u26 u27 u28 u29 u30 u31 u32 u33 u34 u35 u36 u37 u38 u39 u40 u41 u42 u43 u44 u45 u46 u47 u48 u49 u50 u51 u52 u53 u54 u55 u56 u57 u58 u59 u60 u61 u62 u63 u64 u65 u66 u67 u68 u69 u70 u71 u72 u73 u74 u75 u76 u77 u78 u79 u80 u81 u82 u83 u84 u85 u86 u87 u88 u89 u90 u91 u92 u93 u94 u95 u96 u97 u98 u99 u100 u101 u102 u103 u104 u105 u106 u107 u108 u109 u110 u111 u112 u113 u114 u115 u116 u117 u118 u119 u120 u121 u122 u123 u124 u125 u126 u127 u128 u129 u130 u131 u132 u133 u134 u135 u136 u137 u138 u139 u140 u141 u142 u143 u144 u145 : Value) :
    (bodyAt Tryz.f6 [1, 1, 1, 1, 1, 1, 0, 1, 2, 2, 1, 0, 2]).wp Tryz.prog (Ends (axRoundPost B C r' fr ep hz pv dv av q ds (ss ++ [l]) vs W0 u0 u1 u2 u3 u6 u7 u12 u13 u14 u15 u16 u17 u18 u19 u20 u21 u22 u23 u24 u25 u26 u27 u28 u29 u30 u31 u32 u33 u34 u35 u36 u37 u38 u39 u40 u41 u42 u43 u44 u45 u79 u80 u81 u82 u83 u84 u85 u86 u87 u88 u89 u90 u91 u92 u93 u94 u95 u96 u97 u98 u99 u100 u101 u102 u103 u104 u105 u106 u107 u108 u109 u110 u111 u112 u113 u114 u115 u116 u117 u118 u119 u120 u121 u122 u123 u124 u125 u126 u127 u128 u129 u130 u131 u132 u133 u134 u135 u136 u137 u138 u139 u140 u141 u142 u143 u144 u145)) ({ tmps := #[u0, u1, u2, u3, .pointer (some ⟨B, 0, none⟩), .pointer (some ⟨C, 0, none⟩), u6, u7, u8, u9, u10, u11, u12, u13, u14, u15, u16, u17, u18, u19, u20, u21, u22, u23, u24, u25, u26, u27, u28, u29, u30, u31, u32, u33, u34, u35, u36, u37, u38, u39, u40, u41, u42, u43, u44, u45, u46, u47, u48, u49, u50, u51, u52, u53, u54, u55, u56, u57, u58, u59, u60, u61, u62, u63, u64, u65, u66, u67, u68, u69, u70, u71, u72, u73, u74, u75, u76, u77, u78, u79, u80, u81, u82, u83, u84, u85, u86, u87, u88, u89, u90, u91, u92, u93, u94, u95, u96, u97, u98, u99, u100, u101, u102, u103, u104, u105, u106, u107, u108, u109, u110, u111, u112, u113, u114, u115, u116, u117, u118, u119, u120, u121, u122, u123, u124, u125, u126, u127, u128, u129, u130, u131, u132, u133, u134, u135, u136, u137, u138, u139, u140, u141, u142, u143, u144, u145], defers := [] }) z := by
  obtain ⟨cnt, r1, e1⟩ : ∃ x t, numR 400 r = (x, t) := ⟨_, _, rfl⟩
  have hc : cnt ≤ 400 := by have := num_most r (most := 400) (by decide); have h3 := congrArg Prod.fst e1; simp only [numR] at h3; omega
  have e2 : readN axnR cnt.toNat r1 = (l, r') := by
    simp only [numR, Prod.mk.injEq] at e1
    simp only [countR, e1] at e
    exact e
  obtain ⟨pm, cm, rfl, -, -⟩ := h.streams.shape
  have H := hid h
  have E1 := hid e1
  have E2 := hid e2
  have HG := hid (And.intro (show cnt ≤ 400 by omega) hs)
  clear e e1 e2 h hc hs
  unfold bodyAt Tryz.f6
  simp only [codeAt]
  go_upto_block 2 with (go_at_call 18; refine (dnum_to E1.out H.out.rd).mono ?_; rintro e z1 ⟨rfl, hr1, ho1⟩; have H1 := hid (H.out.num hr1 ho1); clear hr1 ho1)
  clear H
  refine wp_meet (axRowPost B z1.heap.size cnt l r' z1 _ _ _ _ _ _ _ _ _ _ _ _ _ _ _ _ _ _ _ _ _ _ _ _ _ _ _ _ _ _ _ _ _ _ _ _ _ _ _ _ _ _ _ _ _ _ _ _ _ _ _ _ _ _ _ _ _ _ _ _ _ _ _ _ _ _ _ _ _ _ _ _ _ _ _ _ _ _ _ _ _ _ _ _ _ _ _ _ _ _ _ _ _ _ _ _ _ _ _ _ _ _ _ _ _ _ _ _ _ _ _ _ _ _ _ _) (axRow E2.out HG.out.1 rfl H1.out.rd.lt H1.out.rd (Only.refl B z1) _ _ _ _ _ _ _ _ _ _ _ _ _ _ _ _ _ _ _ _ _ _ _ _ _ _ _ _ _ _ _ _ _ _ _ _ _ _ _ _ _ _ _ _ _ _ _ _ _ _ _ _ _ _ _ _ _ _ _ _ _ _ _ _ _ _ _ _ _ _ _ _ _ _ _ _ _ _ _ _ _ _ _ _ _ _ _ _ _ _ _ _ _ _ _ _ _ _ _ _ _ _ _ _ _ _ _ _ _ _ _ _ _ _ _ _ _ _ _ _ _ _ _ _ _ _ _ _ _ _ _ _ _ _ _ _ _ _ _ _ _ _) ?_
  refine fun a' y => ex_elim fun v => ex_elim fun u10 => ex_elim fun u11 => ex_elim fun u48 => ex_elim fun u49 => ex_elim fun u50 => ex_elim fun u51 => ex_elim fun u52 => ex_elim fun u53 => ex_elim fun u54 => ex_elim fun u55 => ex_elim fun u56 => ex_elim fun u57 => ex_elim fun u58 => ex_elim fun u59 => ex_elim fun u60 => ex_elim fun u61 => ex_elim fun u62 => ex_elim fun u63 => ex_elim fun u64 => ex_elim fun u65 => ex_elim fun u66 => ex_elim fun u67 => ex_elim fun u68 => ex_elim fun u69 => ex_elim fun u70 => ex_elim fun u71 => ex_elim fun u72 => ?_
  rintro ⟨rfl, hx, ho, hr⟩
  obtain ⟨pl, cl, rfl, -, -⟩ := hr.shape
  have H2 := hid (H1.out.num hx ho)
  have HR2 := hid hr
  clear hx ho hr H1
  have g0 : y.cell? ⟨C, 5, none⟩ = some (.slice pm ss.length cm) := H2.out.cells 5
  have f0 := blk_free H2.out.cb 5
  have hlt : C < y.heap.size := lt_of_block H2.out.cb
  go_wp2_with (at_builtin; refine wpList_push_doc rfl (.tmp 74) (.tmp 76) 27 44 (.slice none 0 0) 1 24 rfl Tryz.underlying27 infoAs rfl (by decide) [30, 94, 89, 3, 43, 46, 47] l H2.out.streams rfl (by intro u hu; simp only [List.mem_cons, List.not_mem_nil, or_false] at hu; subst hu; rfl) (by have := HG.out; omega) (by decide) H2.out.rd (by decide) H2.out.on (Nat.le_refl _) H2.out.on.size (by decide) ⟨_, rfl, HR2.out.weak (Nat.zero_le _)⟩ (fun _ hk => ElS.kept (hk.sub (by simp))) rfl rfl rfl ?_; intro p1 cap1 w9 hr9 hs9 ht9 hk9; have HR9 := hid hr9; have HS9 := hid hs9; have HT9 := hid ht9; have HK9 := hid hk9; clear hr9 hs9 ht9 hk9 g0 f0; have hcb : w9.heap[C]? = some (scrO fr ep pv dv hz (.slice pm ss.length cm) av) := HK9.out _ _ _ H2.out.cb (by simp); have HC9 := hid hcb; have g1 : w9.cell? ⟨C, 5, none⟩ = some (.slice pm ss.length cm) := blk_cell hcb 5; have f1 := blk_free hcb 5; clear hcb)
  obtain ⟨k1, k2, k3⟩ := store_kept (good := goodS) (j := 5) HS9.out HT9.out HC9.out H2.out.hC H2.out.hB (by decide) (.slice p1 (ss.length + 1) cap1)
  exact ⟨rfl, _, _, _, _, _, _, _, _, _, _, _, _, _, _, _, _, _, _, _, _, _, _, _, _, _, _, _, _, _, _, _, _, _, _, _, _, _, _, rfl, ⟨k1, k2, blk_set HC9.out 5 _, H2.out.hC, H2.out.hB, (H2.out.plans.kept HK9.out (by simp) (ElR.kept (HK9.out.sub (by simp)))).kept k3 (by simp) (ElR.kept (k3.sub (by simp))), (H2.out.doms.kept HK9.out (by simp) (ElD.kept (HK9.out.sub (by simp)))).kept k3 (by simp) (ElD.kept (k3.sub (by simp))), HR9.out.kept k3 (by simp) (ElS.kept (k3.sub (by simp))), (H2.out.arrivals.kept HK9.out (by simp) (ElW.kept (HK9.out.sub (by simp)))).kept k3 (by simp) (ElW.kept (k3.sub (by simp)))⟩⟩

/-- Behind all of them. -/
def axAllPost (B C N : Nat) (r : Rd) (fr ep hz : Int) (pv dv av : Value) (q : List (List Int)) (ds : List Dom) (ss : List (List Axn)) (vs : List (List Arv)) (W0 : World) (u0 u1 u2 u3 u12 u13 u14 u15 u16 u17 u18 u19 u20 u21 u22 u23 u24 u25 u26 u27 u28 u29 u30 u31 u32 u33 u79 u80 u81 u82 u83 u84 u85 u86 u87 u88 u89 u90 u91 u92 u93 u94 u95 u96 u97 u98 u99 u100 u101 u102 u103 u104 u105 u106 u107 u108 u109 u110 u111 u112 u113 u114 u115 u116 u117 u118 u119 u120 u121 u122 u123 u124 u125 u126 u127 u128 u129 u130 u131 u132 u133 u134 u135 u136 u137 u138 u139 u140 u141 u142 u143 u144 u145 : Value) (a' : Act) (y : World) : Prop :=
  ∃ (sv : Value) (u7 u8 u9 u10 u11 u34 u35 u36 u37 u38 u39 u40 u41 u42 u43 u44 u45 u46 u47 u48 u49 u50 u51 u52 u53 u54 u55 u56 u57 u58 u59 u60 u61 u62 u63 u64 u65 u66 u67 u68 u69 u70 u71 u72 u73 u74 u75 u76 u77 u78 : Value), a' = { tmps := #[u0, u1, u2, u3, .pointer (some ⟨B, 0, none⟩), .pointer (some ⟨C, 0, none⟩), .int .i64 N, u7, u8, u9, u10, u11, u12, u13, u14, u15, u16, u17, u18, u19, u20, u21, u22, u23, u24, u25, u26, u27, u28, u29, u30, u31, u32, u33, u34, u35, u36, u37, u38, u39, u40, u41, u42, u43, u44, u45, u46, u47, u48, u49, u50, u51, u52, u53, u54, u55, u56, u57, u58, u59, u60, u61, u62, u63, u64, u65, u66, u67, u68, u69, u70, u71, u72, u73, u74, u75, u76, u77, u78, u79, u80, u81, u82, u83, u84, u85, u86, u87, u88, u89, u90, u91, u92, u93, u94, u95, u96, u97, u98, u99, u100, u101, u102, u103, u104, u105, u106, u107, u108, u109, u110, u111, u112, u113, u114, u115, u116, u117, u118, u119, u120, u121, u122, u123, u124, u125, u126, u127, u128, u129, u130, u131, u132, u133, u134, u135, u136, u137, u138, u139, u140, u141, u142, u143, u144, u145], defers := [] } ∧ Ds B C r fr ep hz pv dv sv av q ds ss vs W0 y
set_option maxRecDepth 100000 in
set_option maxHeartbeats 4000000 in
theorem axAll {B C N : Nat} {r r' : Rd} {fr ep hz : Int} {pv dv av : Value} {q : List (List Int)} {ds : List Dom} {vs : List (List Arv)} {ls : List (List Axn)} {W0 z : World} (e : readN (countR 400 axnR) N r = (ls, r')) (hN : N ≤ 6)
    (h : Ds B C r fr ep hz pv dv (.slice none 0 0) av q ds [] vs W0 z) (u0 u1 u2 u3 u8 u9 u10 u11 u12 u13 u14 u15 u16 u17 u18 u19 u20 u21 u22 u23 u24 u25 u26 u27 u28 u29 u30 u31 u32 u33 u34 u35 u36 u37 u38 u39 u40 u41 u42 u43 u44 u45 u46 u47 u48 u49 u50 u51 u52 u53 u54 u55 u56 u57 u58 u59 u60 u61 u62 u63 u64 u65 u66 u67 u68 u69 u70 u71 u72 u73 u74 u75 u76 u77 u78 u79 u80 u81 u82 u83 u84 u85 u86 u87 u88 u89 u90 u91 u92 u93 u94 u95 u96 u97 u98 u99 u100 u101 u102 u103 u104 u105 u106 u107 u108 u109 u110 u111 u112 u113 u114 u115 u116 u117 u118 u119 u120 u121 u122 u123 u124 u125 u126 u127 u128 u129 u130 u131 u132 u133 u134 u135 u136 u137 u138 u139 u140 u141 u142 u143 u144 u145 : Value) :
    (bodyAt Tryz.f6 [1, 1, 1, 1, 1, 1, 0, 1]).wp Tryz.prog (Ends (axAllPost B C N r' fr ep hz pv dv av q ds ls vs W0 u0 u1 u2 u3 u12 u13 u14 u15 u16 u17 u18 u19 u20 u21 u22 u23 u24 u25 u26 u27 u28 u29 u30 u31 u32 u33 u79 u80 u81 u82 u83 u84 u85 u86 u87 u88 u89 u90 u91 u92 u93 u94 u95 u96 u97 u98 u99 u100 u101 u102 u103 u104 u105 u106 u107 u108 u109 u110 u111 u112 u113 u114 u115 u116 u117 u118 u119 u120 u121 u122 u123 u124 u125 u126 u127 u128 u129 u130 u131 u132 u133 u134 u135 u136 u137 u138 u139 u140 u141 u142 u143 u144 u145)) ({ tmps := #[u0, u1, u2, u3, .pointer (some ⟨B, 0, none⟩), .pointer (some ⟨C, 0, none⟩), .int .i64 N, .int .i64 0, u8, u9, u10, u11, u12, u13, u14, u15, u16, u17, u18, u19, u20, u21, u22, u23, u24, u25, u26, u27, u28, u29, u30, u31, u32, u33, u34, u35, u36, u37, u38, u39, u40, u41, u42, u43, u44, u45, u46, u47, u48, u49, u50, u51, u52, u53, u54, u55, u56, u57, u58, u59, u60, u61, u62, u63, u64, u65, u66, u67, u68, u69, u70, u71, u72, u73, u74, u75, u76, u77, u78, u79, u80, u81, u82, u83, u84, u85, u86, u87, u88, u89, u90, u91, u92, u93, u94, u95, u96, u97, u98, u99, u100, u101, u102, u103, u104, u105, u106, u107, u108, u109, u110, u111, u112, u113, u114, u115, u116, u117, u118, u119, u120, u121, u122, u123, u124, u125, u126, u127, u128, u129, u130, u131, u132, u133, u134, u135, u136, u137, u138, u139, u140, u141, u142, u143, u144, u145], defers := [] }) z := by
  have E := hid e
  have H := hid h
  clear e h
  unfold bodyAt Tryz.f6
  simp only [codeAt]
  go_wp2
  go_loopw [7] (fun vi wy => ∃ (k : Nat) (mv : Value), vi = .int .i64 k ∧ k ≤ N ∧ Hid (Ds B C (readN (countR 400 axnR) k r).2 fr ep hz pv dv mv av q ds (readN (countR 400 axnR) k r).1 vs W0 wy ∧ (readN (countR 400 axnR) k r).1.length = k)) (fun vi _ => (N - (intOf vi).toNat))
  case atStart => exact ⟨0, _, rfl, Nat.zero_le _, H.out, rfl⟩
  case round =>
    obtain ⟨k, mv, rfl, hk, HJ⟩ := hrel
    obtain ⟨qs, ti, hti⟩ : ∃ qs ti, readN (countR 400 axnR) k r = (qs, ti) := ⟨_, _, rfl⟩
    rw [hti] at HJ
    have c1 := HJ.out.1.rd.cell1
    clear H
    by_cases hkn : (k : Int) < N
    · by_cases he : ti.e = 0
      · have hE : ((ti.e : Int) == 0) = true := by simp [he]
        obtain ⟨l, tj, hx⟩ : ∃ x tj, (countR 400 axnR) ti = (x, tj) := ⟨_, _, rfl⟩
        have HS : Hid (readN (countR 400 axnR) (k + 1) r = (qs ++ [l], tj)) := by
          have := readN_snoc (countR 400 axnR) k r (by rw [hti]; exact he)
          rw [hti, hx] at this; exact this
        have HX := hid hx
        clear he hti hx
        go_upto_block 1 with (fail)
        refine wp_block ?_
        refine wp_meet (axRoundPost B C tj fr ep hz pv dv av q ds (qs ++ [l]) vs W0 _ _ _ _ _ _ _ _ _ _ _ _ _ _ _ _ _ _ _ _ _ _ _ _ _ _ _ _ _ _ _ _ _ _ _ _ _ _ _ _ _ _ _ _ _ _ _ _ _ _ _ _ _ _ _ _ _ _ _ _ _ _ _ _ _ _ _ _ _ _ _ _ _ _ _ _ _ _ _ _ _ _ _ _ _ _ _ _ _ _ _ _ _ _ _ _ _ _ _ _ _ _ _ _ _ _ _) (axRound HX.out (by have := HJ.out.2; omega) HJ.out.1 _ _ _ _ _ _ _ _ _ _ _ _ _ _ _ _ _ _ _ _ _ _ _ _ _ _ _ _ _ _ _ _ _ _ _ _ _ _ _ _ _ _ _ _ _ _ _ _ _ _ _ _ _ _ _ _ _ _ _ _ _ _ _ _ _ _ _ _ _ _ _ _ _ _ _ _ _ _ _ _ _ _ _ _ _ _ _ _ _ _ _ _ _ _ _ _ _ _ _ _ _ _ _ _ _ _ _ _ _ _ _ _ _ _ _ _ _ _ _ _ _ _ _ _ _ _ _ _ _ _ _ _ _ _ _ _ _ _ _ _ _ _ _ _) ?_
        refine fun a' y => ex_elim fun mv' => ex_elim fun u8 => ex_elim fun u9 => ex_elim fun u10 => ex_elim fun u11 => ex_elim fun u46 => ex_elim fun u47 => ex_elim fun u48 => ex_elim fun u49 => ex_elim fun u50 => ex_elim fun u51 => ex_elim fun u52 => ex_elim fun u53 => ex_elim fun u54 => ex_elim fun u55 => ex_elim fun u56 => ex_elim fun u57 => ex_elim fun u58 => ex_elim fun u59 => ex_elim fun u60 => ex_elim fun u61 => ex_elim fun u62 => ex_elim fun u63 => ex_elim fun u64 => ex_elim fun u65 => ex_elim fun u66 => ex_elim fun u67 => ex_elim fun u68 => ex_elim fun u69 => ex_elim fun u70 => ex_elim fun u71 => ex_elim fun u72 => ex_elim fun u73 => ex_elim fun u74 => ex_elim fun u75 => ex_elim fun u76 => ex_elim fun u77 => ex_elim fun u78 => ?_
        rintro ⟨rfl, hx⟩
        have HX5 := hid hx
        clear hx c1
        go_wp2
        go_roundw
        case rel => exact ⟨k + 1, _, by go_num, by omega, by rw [HS.out]; exact ⟨HX5.out, by rw [List.length_append, HJ.out.2]; rfl⟩⟩
        case measure => simp [intOf]; omega
      · have hE : ((ti.e : Int) == 0) = false := by simpa using he
        have HT : Hid (ls = qs ∧ r' = ti) := by
          have := readN_stays (countR 400 axnR) (by rw [hti]; exact he) N hk
          rw [E.out, hti, Prod.mk.injEq] at this; exact this
        clear he hti
        go_wp2
        exact ⟨rfl, _, _, _, _, _, _, _, _, _, _, _, _, _, _, _, _, _, _, _, _, _, _, _, _, _, _, _, _, _, _, _, _, _, _, _, _, _, _, _, _, _, _, _, _, _, _, _, _, _, _, _, rfl, by rw [HT.out.1, HT.out.2]; exact HJ.out.1⟩
    · have HT : Hid (ls = qs ∧ r' = ti) := by
        have := E.out
        rw [show N = k by omega, hti, Prod.mk.injEq] at this; exact ⟨this.1.symm, this.2.symm⟩
      clear hti
      go_wp2
      exact ⟨rfl, _, _, _, _, _, _, _, _, _, _, _, _, _, _, _, _, _, _, _, _, _, _, _, _, _, _, _, _, _, _, _, _, _, _, _, _, _, _, _, _, _, _, _, _, _, _, _, _, _, _, _, rfl, by rw [HT.out.1, HT.out.2]; exact HJ.out.1⟩
end Go.Proofs.YtmpgeabfogcblaaGreat

namespace Go.Proofs.YtmpgeabfogcblaaGreat
open Go.RowKit
set_option linter.unusedSimpArgs false

/-- Behind one element. -/
def avPost (B cnt : Nat) (x : Int) (jj : Nat) (xs : List Arv) (t : Rd) (y0 : World) (u0 u1 u2 u3 u5 u6 u7 u8 u9 u10 u11 u12 u17 u18 u19 u20 u21 u22 u23 u24 u25 u26 u27 u28 u29 u30 u31 u32 u33 u34 u35 u36 u37 u38 u39 u40 u41 u42 u43 u44 u45 u46 u47 u48 u49 u50 u51 u52 u53 u54 u55 u56 u57 u58 u59 u60 u61 u62 u63 u64 u65 u66 u67 u68 u69 u70 u71 u72 u73 u74 u75 u76 u77 u78 u79 u80 u81 u82 u83 u84 u85 u86 u87 u88 u89 u90 u91 u92 u93 u94 u95 u96 u97 u98 u99 u100 u101 u102 u103 u104 u115 u116 u117 u118 u119 u120 u121 u122 u123 u124 u125 u126 u127 u128 u129 u130 u131 u132 u133 u134 u135 u136 u137 u138 u139 u140 u141 u142 u143 u144 u145 : Value) (a' : Act) (y : World) : Prop :=
  ∃ (v : Value) (u16 u105 u106 u107 u108 u109 u110 u111 u112 u113 u114 : Value), a' = { tmps := #[u0, u1, u2, u3, .pointer (some ⟨B, 0, none⟩), u5, u6, u7, u8, u9, u10, u11, u12, .int .i64 x, v, .int .i64 jj, u16, u17, u18, u19, u20, u21, u22, u23, u24, u25, u26, u27, u28, u29, u30, u31, u32, u33, u34, u35, u36, u37, u38, u39, u40, u41, u42, u43, u44, u45, u46, u47, u48, u49, u50, u51, u52, u53, u54, u55, u56, u57, u58, u59, u60, u61, u62, u63, u64, u65, u66, u67, u68, u69, u70, u71, u72, u73, u74, u75, u76, u77, u78, u79, u80, u81, u82, u83, u84, u85, u86, u87, u88, u89, u90, u91, u92, u93, u94, u95, u96, u97, u98, u99, u100, u101, u102, u103, u104, u105, u106, u107, u108, u109, u110, u111, u112, u113, u114, u115, u116, u117, u118, u119, u120, u121, u122, u123, u124, u125, u126, u127, u128, u129, u130, u131, u132, u133, u134, u135, u136, u137, u138, u139, u140, u141, u142, u143, u144, u145], defers := [] } ∧ Dq B t y ∧ Only B y0 y ∧ Rowed 46 2 ElV cnt y v xs
set_option maxRecDepth 100000 in
set_option maxHeartbeats 4000000 in
theorem avOne {B base jj : Nat} {cnt : Int} {t t' : Rd} {x : Arv} {xs : List Arv} {v : Value} {y0 z : World} (e : arvR t = (x, t')) (hl : xs.length ≤ 400) (hb : base = y0.heap.size) (hB : B < y0.heap.size)
    (hd : Dq B t z) (ho : Only B y0 z) (hr : Rowed 46 2 ElV base z v xs) (u0 u1 u2 u3 u5 u6 u7 u8 u9 u10 u11 u12 u16 u17 u18 u19 u20 u21 u22 u23 u24 u25 u26 u27 u28 u29 u30 u31 u32 u33 u34 u35 u36 u37 u38 u39 u40 u41 u42 u43 u44 u45 u46 u47 u48 u49 u50 u51 u52 u53 u54 u55 u56 u57 u58 u59 u60 u61 u62 u63 u64 u65 u66 u67 u68 u69 u70 u71 u72 u73 u74 u75 u76 u77 u78 u79 u80 u81 u82 u83 u84 u85 u86 u87 u88 u89 u90 u91 u92 u93 u94 u95 u96 u97 u98 u99 u100 u101 u102 u103 u104 u105 u106 u107 u108 u109 u110 u111 u112 u113 u114 u115 u116 u117 u118 u119 u120 u121 u122 u123 u124 u125 u126 u127 u128 u129 u130 u131 u132 u133 u134 u135 u136 u137 u138 u139 u140 u141 u142 u143 u144 u145 : Value) :
    (bodyAt Tryz.f6 [1, 1, 1, 1, 1, 1, 1, 0, 1, 2, 2, 1, 0, 2, 1, 1, 0, 1, 2, 2, 1, 0, 2]).wp Tryz.prog (Ends (avPost B base cnt jj (xs ++ [x]) t' y0 u0 u1 u2 u3 u5 u6 u7 u8 u9 u10 u11 u12 u17 u18 u19 u20 u21 u22 u23 u24 u25 u26 u27 u28 u29 u30 u31 u32 u33 u34 u35 u36 u37 u38 u39 u40 u41 u42 u43 u44 u45 u46 u47 u48 u49 u50 u51 u52 u53 u54 u55 u56 u57 u58 u59 u60 u61 u62 u63 u64 u65 u66 u67 u68 u69 u70 u71 u72 u73 u74 u75 u76 u77 u78 u79 u80 u81 u82 u83 u84 u85 u86 u87 u88 u89 u90 u91 u92 u93 u94 u95 u96 u97 u98 u99 u100 u101 u102 u103 u104 u115 u116 u117 u118 u119 u120 u121 u122 u123 u124 u125 u126 u127 u128 u129 u130 u131 u132 u133 u134 u135 u136 u137 u138 u139 u140 u141 u142 u143 u144 u145))
      ({ tmps := #[u0, u1, u2, u3, .pointer (some ⟨B, 0, none⟩), u5, u6, u7, u8, u9, u10, u11, u12, .int .i64 cnt, v, .int .i64 jj, u16, u17, u18, u19, u20, u21, u22, u23, u24, u25, u26, u27, u28, u29, u30, u31, u32, u33, u34, u35, u36, u37, u38, u39, u40, u41, u42, u43, u44, u45, u46, u47, u48, u49, u50, u51, u52, u53, u54, u55, u56, u57, u58, u59, u60, u61, u62, u63, u64, u65, u66, u67, u68, u69, u70, u71, u72, u73, u74, u75, u76, u77, u78, u79, u80, u81, u82, u83, u84, u85, u86, u87, u88, u89, u90, u91, u92, u93, u94, u95, u96, u97, u98, u99, u100, u101, u102, u103, u104, u105, u106, u107, u108, u109, u110, u111, u112, u113, u114, u115, u116, u117, u118, u119, u120, u121, u122, u123, u124, u125, u126, u127, u128, u129, u130, u131, u132, u133, u134, u135, u136, u137, u138, u139, u140, u141, u142, u143, u144, u145], defers := [] }) z := by
  obtain ⟨p9, c9, rfl, -, -⟩ := hr.shape
  obtain ⟨x0, s0, e0⟩ : ∃ x s, numR 2000 t = (x, s) := ⟨_, _, rfl⟩
  obtain ⟨x1, s1, e1⟩ : ∃ x s, numR 1048576 s0 = (x, s) := ⟨_, _, rfl⟩
  have e9 : arvR t = (⟨x0, x1⟩, s1) := by
    simp only [numR, Prod.mk.injEq] at e0 e1
    simp only [arvR, e0, e1]
  rw [e9] at e
  obtain ⟨rfl, rfl⟩ := Prod.mk.inj e
  have HG := hid (And.intro hl (And.intro hb hB))
  have E0 := hid e0
  have E1 := hid e1
  have HD := hid hd
  have HO := hid ho
  have HR := hid hr
  clear e e9 e0 e1 hl hb hd ho hr
  unfold bodyAt Tryz.f6
  simp only [codeAt]
  go_upto_region 29 with (go_at_call 18; refine (dnum_to E0.out HD.out).mono ?_; rintro e z1 ⟨rfl, hr1, ho1⟩; have HD1 := hid hr1; have HO1 := hid (HO.out.trans ho1); have HK := hid (HD.out.kept (good := goodD) ho1 (by decide)); clear hr1 ho1)
  have HR1 := hid (HR.out.kept HK.out (by simp) (ElV.kept (HK.out.sub (by simp))))
  clear HK HR HO HD
  have HE : Hid ((z1.alloc (.cells #[.int .i64 x0, .int .i64 0] 46 (0, 0))).heap[z1.heap.size]? = some (.cells #[.int .i64 x0, .int .i64 0] 46 (0, 0))) := heap_alloc_new z1 _
  have HD2 := hid (HD1.out.ext (Ext.alloc (Ext.refl z1) (.cells #[.int .i64 x0, .int .i64 0] 46 (0, 0))))
  have HO2 := hid (HO1.out.ext (Ext.alloc (Ext.refl z1) (.cells #[.int .i64 x0, .int .i64 0] 46 (0, 0))))
  have HR2 := hid (HR1.out.kept (Kept.of_ext (g := goodD) (Ext.alloc (Ext.refl z1) (.cells #[.int .i64 x0, .int .i64 0] 46 (0, 0)))) (by simp) (ElV.kept (Kept.of_ext (Ext.alloc (Ext.refl z1) _))))
  have HA : Hid (y0.heap.size ≤ z1.heap.size) := HO1.out.size
  have HF := hid HR1.out.own
  clear HD1 HO1 HR1
  generalize z1.alloc (.cells #[.int .i64 x0, .int .i64 0] 46 (0, 0)) = v1 at *
  generalize z1.heap.size = A at *
  clear z1
  go_upto_region 30 with (go_at_call 18; refine (dnum_to E1.out HD2.out).mono ?_; rintro e z1 ⟨rfl, hr1, ho1⟩; have HD3 := hid hr1; have HO3 := hid (HO2.out.trans ho1); have HK := hid (HD2.out.kept (good := goodD) ho1 (by decide)); clear hr1 ho1; have HE1 : Hid (z1.heap[A]? = some (.cells #[.int .i64 x0, .int .i64 0] 46 (0, 0))) := HK.out _ _ _ HE.out (by simp); have g0 : z1.cell? ⟨A, 1, none⟩ = some (.int .i64 0) := blk_cell HE1.out 1; have f0 := blk_free HE1.out 1)
  have HR3 := hid (HR2.out.kept HK.out (by simp) (ElV.kept (HK.out.sub (by simp))))
  have HE2 : Hid ((z1.setCell ⟨A, 1, none⟩ (.int .i64 x1)).heap[A]? = some (.cells #[.int .i64 x0, .int .i64 x1] 46 (0, 0))) := blk_set HE1.out 1 _
  have HD4 := hid (HD3.out.other (p := ⟨A, 1, none⟩) (by have := HA.out; have := HG.out.2.2; simp; omega) (.int .i64 x1))
  have HO4 := hid (HO3.out.put (j := 1) HA.out (.int .i64 x1))
  have HR4 := hid (row_apart HR3.out HF.out 1 (.int .i64 x1) (fun _ _ h => h))
  clear HK HE HE1 g0 f0 HD3 HO3 HR3 HD2 HO2 HR2 E1
  have HE := HE2
  clear HE2
  generalize z1.setCell ⟨A, 1, none⟩ (.int .i64 x1) = v2 at *
  clear z1
  have g0 : v2.cell? ⟨A, 0, none⟩ = some (.int .i64 x0) := blk_cell HE.out 0
  have g1 : v2.cell? ⟨A, 1, none⟩ = some (.int .i64 x1) := blk_cell HE.out 1
  have hlt : A < v2.heap.size := lt_of_block HE.out
  go_wp2_with (at_builtin; refine wpList_push_doc rfl (.tmp 111) (.tmp 113) 47 46 (.agg #[.int .i64 0, .int .i64 0]) 2 16 rfl Tryz.underlying47 infoV rfl (by decide) [] (⟨x0, x1⟩ : Arv) HR4.out rfl (by intro u hu; simp only [List.mem_cons, List.not_mem_nil, or_false] at hu; rcases hu with rfl | rfl <;> rfl) (by have := HG.out; omega) (by decide) HD4.out (by decide) HO4.out (Nat.le_of_eq HG.out.2.1.symm) (by have := HO4.out.size; have := HG.out.2.1; omega) (by decide) rfl (fun _ hk => ElV.kept hk) rfl rfl rfl ?_; intro p1 cap1 w9 hr9 hs9 ht9 hk9)
  exact ⟨rfl, _, _, _, _, _, _, _, _, _, _, _, _, rfl, hs9, ht9, hr9⟩

/-- Behind the loop over the elements. -/
def avRowPost (B base : Nat) (cnt : Int) (xs : List Arv) (t : Rd) (y0 : World) (u0 u1 u2 u3 u5 u6 u7 u8 u9 u10 u11 u12 u17 u18 u19 u20 u21 u22 u23 u24 u25 u26 u27 u28 u29 u30 u31 u32 u33 u34 u35 u36 u37 u38 u39 u40 u41 u42 u43 u44 u45 u46 u47 u48 u49 u50 u51 u52 u53 u54 u55 u56 u57 u58 u59 u60 u61 u62 u63 u64 u65 u66 u67 u68 u69 u70 u71 u72 u73 u74 u75 u76 u77 u78 u79 u80 u81 u82 u83 u84 u85 u86 u87 u88 u89 u90 u91 u92 u115 u116 u117 u118 u119 u120 u121 u122 u123 u124 u125 u126 u127 u128 u129 u130 u131 u132 u133 u134 u135 u136 u137 u138 u139 u140 u141 u142 u143 u144 u145 : Value) (a' : Act) (y : World) : Prop :=
  ∃ (v : Value) (u15 u16 u93 u94 u95 u96 u97 u98 u99 u100 u101 u102 u103 u104 u105 u106 u107 u108 u109 u110 u111 u112 u113 u114 : Value), a' = { tmps := #[u0, u1, u2, u3, .pointer (some ⟨B, 0, none⟩), u5, u6, u7, u8, u9, u10, u11, u12, .int .i64 cnt, v, u15, u16, u17, u18, u19, u20, u21, u22, u23, u24, u25, u26, u27, u28, u29, u30, u31, u32, u33, u34, u35, u36, u37, u38, u39, u40, u41, u42, u43, u44, u45, u46, u47, u48, u49, u50, u51, u52, u53, u54, u55, u56, u57, u58, u59, u60, u61, u62, u63, u64, u65, u66, u67, u68, u69, u70, u71, u72, u73, u74, u75, u76, u77, u78, u79, u80, u81, u82, u83, u84, u85, u86, u87, u88, u89, u90, u91, u92, u93, u94, u95, u96, u97, u98, u99, u100, u101, u102, u103, u104, u105, u106, u107, u108, u109, u110, u111, u112, u113, u114, u115, u116, u117, u118, u119, u120, u121, u122, u123, u124, u125, u126, u127, u128, u129, u130, u131, u132, u133, u134, u135, u136, u137, u138, u139, u140, u141, u142, u143, u144, u145], defers := [] } ∧ Dq B t y ∧ Only B y0 y ∧ Rowed 46 2 ElV base y v xs
set_option maxRecDepth 100000 in
set_option maxHeartbeats 4000000 in
theorem avRow {B base : Nat} {cnt : Int} {t t' : Rd} {xs : List Arv} {y0 z : World} (e : readN arvR cnt.toNat t = (xs, t')) (hc : cnt ≤ 400) (hb : base = y0.heap.size) (hB : B < y0.heap.size) (hd : Dq B t z) (ho : Only B y0 z) (u0 u1 u2 u3 u5 u6 u7 u8 u9 u10 u11 u12 u16 u17 u18 u19 u20 u21 u22 u23 u24 u25 u26 u27 u28 u29 u30 u31 u32 u33 u34 u35 u36 u37 u38 u39 u40 u41 u42 u43 u44 u45 u46 u47 u48 u49 u50 u51 u52 u53 u54 u55 u56 u57 u58 u59 u60 u61 u62 u63 u64 u65 u66 u67 u68 u69 u70 u71 u72 u73 u74 u75 u76 u77 u78 u79 u80 u81 u82 u83 u84 u85 u86 u87 u88 u89 u90 u91 u92 u93 u94 u95 u96 u97 u98 u99 u100 u101 u102 u103 u104 u105 u106 u107 u108 u109 u110 u111 u112 u113 u114 u115 u116 u117 u118 u119 u120 u121 u122 u123 u124 u125 u126 u127 u128 u129 u130 u131 u132 u133 u134 u135 u136 u137 u138 u139 u140 u141 u142 u143 u144 u145 : Value) :
    (bodyAt Tryz.f6 [1, 1, 1, 1, 1, 1, 1, 0, 1, 2, 2, 1, 0, 2, 1, 1, 0, 1]).wp Tryz.prog (Ends (avRowPost B base cnt xs t' y0 u0 u1 u2 u3 u5 u6 u7 u8 u9 u10 u11 u12 u17 u18 u19 u20 u21 u22 u23 u24 u25 u26 u27 u28 u29 u30 u31 u32 u33 u34 u35 u36 u37 u38 u39 u40 u41 u42 u43 u44 u45 u46 u47 u48 u49 u50 u51 u52 u53 u54 u55 u56 u57 u58 u59 u60 u61 u62 u63 u64 u65 u66 u67 u68 u69 u70 u71 u72 u73 u74 u75 u76 u77 u78 u79 u80 u81 u82 u83 u84 u85 u86 u87 u88 u89 u90 u91 u92 u115 u116 u117 u118 u119 u120 u121 u122 u123 u124 u125 u126 u127 u128 u129 u130 u131 u132 u133 u134 u135 u136 u137 u138 u139 u140 u141 u142 u143 u144 u145)) ({ tmps := #[u0, u1, u2, u3, .pointer (some ⟨B, 0, none⟩), u5, u6, u7, u8, u9, u10, u11, u12, .int .i64 cnt, .slice none 0 0, .int .i64 0, u16, u17, u18, u19, u20, u21, u22, u23, u24, u25, u26, u27, u28, u29, u30, u31, u32, u33, u34, u35, u36, u37, u38, u39, u40, u41, u42, u43, u44, u45, u46, u47, u48, u49, u50, u51, u52, u53, u54, u55, u56, u57, u58, u59, u60, u61, u62, u63, u64, u65, u66, u67, u68, u69, u70, u71, u72, u73, u74, u75, u76, u77, u78, u79, u80, u81, u82, u83, u84, u85, u86, u87, u88, u89, u90, u91, u92, u93, u94, u95, u96, u97, u98, u99, u100, u101, u102, u103, u104, u105, u106, u107, u108, u109, u110, u111, u112, u113, u114, u115, u116, u117, u118, u119, u120, u121, u122, u123, u124, u125, u126, u127, u128, u129, u130, u131, u132, u133, u134, u135, u136, u137, u138, u139, u140, u141, u142, u143, u144, u145], defers := [] }) z := by
  have E := hid e
  have HG := hid (And.intro hc (And.intro hb hB))
  have HD := hid hd
  have HO := hid ho
  clear e hb hd ho
  unfold bodyAt Tryz.f6
  simp only [codeAt]
  go_wp2
  go_loopw [14, 15] (fun vl vj wy => ∃ i : Nat, vj = .int .i64 i ∧ i ≤ cnt.toNat ∧ Hid (Dq B (readN arvR i t).2 wy ∧ Only B y0 wy ∧ Rowed 46 2 ElV base wy vl (readN arvR i t).1 ∧ (readN arvR i t).1.length = i)) (fun _ vj _ => (cnt.toNat - intOf vj).toNat)
  case atStart => exact ⟨0, rfl, Nat.zero_le _, HD.out, HO.out, Rowed.nil _ _ _ _ _, rfl⟩
  case round =>
    obtain ⟨i, rfl, hi, HJ⟩ := hrel
    obtain ⟨qs, ti, hti⟩ : ∃ qs ti, readN arvR i t = (qs, ti) := ⟨_, _, rfl⟩
    rw [hti] at HJ
    have c1 := HJ.out.1.cell1
    clear HD HO
    by_cases hit : (i : Int) < cnt
    · by_cases he : ti.e = 0
      · have hE : ((ti.e : Int) == 0) = true := by simp [he]
        obtain ⟨x, tj, hx⟩ : ∃ x tj, arvR ti = (x, tj) := ⟨_, _, rfl⟩
        have HS : Hid (readN arvR (i + 1) t = (qs ++ [x], tj)) := by
          have := readN_snoc arvR i t (by rw [hti]; exact he)
          rw [hti, hx] at this; exact this
        have HX := hid hx
        clear he hti hx
        go_upto_block 7 with (fail)
        refine wp_block ?_
        refine wp_meet (avPost B base cnt i (qs ++ [x]) tj y0 _ _ _ _ _ _ _ _ _ _ _ _ _ _ _ _ _ _ _ _ _ _ _ _ _ _ _ _ _ _ _ _ _ _ _ _ _ _ _ _ _ _ _ _ _ _ _ _ _ _ _ _ _ _ _ _ _ _ _ _ _ _ _ _ _ _ _ _ _ _ _ _ _ _ _ _ _ _ _ _ _ _ _ _ _ _ _ _ _ _ _ _ _ _ _ _ _ _ _ _ _ _ _ _ _ _ _ _ _ _ _ _ _ _ _ _ _ _ _ _ _ _ _ _ _ _ _ _ _ _ _) (avOne HX.out (by have := HJ.out.2.2.2; omega) HG.out.2.1 HG.out.2.2 HJ.out.1 HJ.out.2.1 HJ.out.2.2.1 _ _ _ _ _ _ _ _ _ _ _ _ _ _ _ _ _ _ _ _ _ _ _ _ _ _ _ _ _ _ _ _ _ _ _ _ _ _ _ _ _ _ _ _ _ _ _ _ _ _ _ _ _ _ _ _ _ _ _ _ _ _ _ _ _ _ _ _ _ _ _ _ _ _ _ _ _ _ _ _ _ _ _ _ _ _ _ _ _ _ _ _ _ _ _ _ _ _ _ _ _ _ _ _ _ _ _ _ _ _ _ _ _ _ _ _ _ _ _ _ _ _ _ _ _ _ _ _ _ _ _ _ _ _ _ _ _ _ _ _ _ _) ?_
        refine fun a' y => ex_elim fun v' => ex_elim fun u16 => ex_elim fun u105 => ex_elim fun u106 => ex_elim fun u107 => ex_elim fun u108 => ex_elim fun u109 => ex_elim fun u110 => ex_elim fun u111 => ex_elim fun u112 => ex_elim fun u113 => ex_elim fun u114 => ?_
        rintro ⟨rfl, hx, ho, hr⟩
        have HX5 := hid hx
        have HO5 := hid ho
        have HR5 := hid hr
        clear hx ho hr c1
        go_wp2
        go_roundw
        case rel => exact ⟨i + 1, by go_num, by omega, by rw [HS.out]; exact ⟨HX5.out, HO5.out, HR5.out, by rw [List.length_append, HJ.out.2.2.2]; rfl⟩⟩
        case measure => simp [intOf]; omega
      · have hE : ((ti.e : Int) == 0) = false := by simpa using he
        have HT : Hid (xs = qs ∧ t' = ti) := by
          have := readN_stays arvR (by rw [hti]; exact he) cnt.toNat hi
          rw [E.out, hti, Prod.mk.injEq] at this; exact this
        clear he hti
        go_wp2
        exact ⟨rfl, _, _, _, _, _, _, _, _, _, _, _, _, _, _, _, _, _, _, _, _, _, _, _, _, _, rfl, by rw [HT.out.2]; exact HJ.out.1, HJ.out.2.1, by rw [HT.out.1]; exact HJ.out.2.2.1⟩
    · have HT : Hid (xs = qs ∧ t' = ti) := by
        have := E.out
        rw [show cnt.toNat = i by omega, hti, Prod.mk.injEq] at this; exact ⟨this.1.symm, this.2.symm⟩
      clear hti
      go_wp2
      exact ⟨rfl, _, _, _, _, _, _, _, _, _, _, _, _, _, _, _, _, _, _, _, _, _, _, _, _, _, rfl, by rw [HT.out.2]; exact HJ.out.1, HJ.out.2.1, by rw [HT.out.1]; exact HJ.out.2.2.1⟩

/-- Behind one row of them. -/
def avRoundPost (B C : Nat) (r : Rd) (fr ep hz : Int) (pv dv sv : Value) (q : List (List Int)) (ds : List Dom) (ss : List (List Axn)) (vs : List (List Arv)) (W0 : World) (u0 u1 u2 u3 u6 u7 u8 u9 u10 u11 u12 u17 u18 u19 u20 u21 u22 u23 u24 u25 u26 u27 u28 u29 u30 u31 u32 u33 u34 u35 u36 u37 u38 u39 u40 u41 u42 u43 u44 u45 u46 u47 u48 u49 u50 u51 u52 u53 u54 u55 u56 u57 u58 u59 u60 u61 u62 u63 u64 u65 u66 u67 u68 u69 u70 u71 u72 u73 u74 u75 u76 u77 u78 u79 u80 u81 u82 u83 u84 u85 u86 u87 u88 u89 u90 u121 u122 u123 u124 u125 u126 u127 u128 u129 u130 u131 u132 u133 u134 u135 u136 u137 u138 u139 u140 u141 u142 u143 u144 u145 : Value) (a' : Act) (y : World) : Prop :=
  ∃ (av : Value) (u13 u14 u15 u16 u91 u92 u93 u94 u95 u96 u97 u98 u99 u100 u101 u102 u103 u104 u105 u106 u107 u108 u109 u110 u111 u112 u113 u114 u115 u116 u117 u118 u119 u120 : Value), a' = { tmps := #[u0, u1, u2, u3, .pointer (some ⟨B, 0, none⟩), .pointer (some ⟨C, 0, none⟩), u6, u7, u8, u9, u10, u11, u12, u13, u14, u15, u16, u17, u18, u19, u20, u21, u22, u23, u24, u25, u26, u27, u28, u29, u30, u31, u32, u33, u34, u35, u36, u37, u38, u39, u40, u41, u42, u43, u44, u45, u46, u47, u48, u49, u50, u51, u52, u53, u54, u55, u56, u57, u58, u59, u60, u61, u62, u63, u64, u65, u66, u67, u68, u69, u70, u71, u72, u73, u74, u75, u76, u77, u78, u79, u80, u81, u82, u83, u84, u85, u86, u87, u88, u89, u90, u91, u92, u93, u94, u95, u96, u97, u98, u99, u100, u101, u102, u103, u104, u105, u106, u107, u108, u109, u110, u111, u112, u113, u114, u115, u116, u117, u118, u119, u120, u121, u122, u123, u124, u125, u126, u127, u128, u129, u130, u131, u132, u133, u134, u135, u136, u137, u138, u139, u140, u141, u142, u143, u144, u145], defers := [] } ∧ Ds B C r fr ep hz pv dv sv av q ds ss vs W0 y
set_option maxRecDepth 100000 in
set_option maxHeartbeats 4000000 in
theorem avRound {B C : Nat} {r r' : Rd} {fr ep hz : Int} {pv dv sv av : Value} {q : List (List Int)} {ds : List Dom} {ss : List (List Axn)} {vs : List (List Arv)} {l : List Arv} {W0 z : World} (e : countR 100 arvR r = (l, r')) (hs : vs.length ≤ 6) (h : Ds B C r fr ep hz pv dv sv av q ds ss vs W0 z) (u0 u1 u2 u3 u6 u7 u8 u9 u10 u11 u12 u13 u14 u15 u16 u17 u18 u19 u20 u21 u22 u23 u24 u25 u26 u27 u28 u29 u30 u31 u32 u33 u34 u35 u36 u37 u38 u39 u40 u41 u42 u43 u44 u45 u46 u47 u48 u49 u50 u51 u52 u53 u54 u55 u56 u57 u58 u59 u60 u61 u62 u63 u64 u65 u66 u67 u68 u69 u70 u71 u72 u73 u74 u75 u76 u77 u78 u79 u80 u81 u82 u83 u84 u85 u86 u87 u88 u89 u90 u91 u92 u93 u94 u95 u96 u97 u98 u99 u100 u101 u102 u103 u104 u105 u106 u107 u108 u109 u110 u111 u112 u113 u114 u115 u116 u117 u118 u119 u120 u121 u122 u123 u124 u125 u126 u127 u128 u129 u130 u131 u132 u133 u134 u135 u136 u137 u138 u139 u140 u141 u142 u143 u144 u145 : Value) :
    (bodyAt Tryz.f6 [1, 1, 1, 1, 1, 1, 1, 0, 1, 2, 2, 1, 0, 2]).wp Tryz.prog (Ends (avRoundPost B C r' fr ep hz pv dv sv q ds ss (vs ++ [l]) W0 u0 u1 u2 u3 u6 u7 u8 u9 u10 u11 u12 u17 u18 u19 u20 u21 u22 u23 u24 u25 u26 u27 u28 u29 u30 u31 u32 u33 u34 u35 u36 u37 u38 u39 u40 u41 u42 u43 u44 u45 u46 u47 u48 u49 u50 u51 u52 u53 u54 u55 u56 u57 u58 u59 u60 u61 u62 u63 u64 u65 u66 u67 u68 u69 u70 u71 u72 u73 u74 u75 u76 u77 u78 u79 u80 u81 u82 u83 u84 u85 u86 u87 u88 u89 u90 u121 u122 u123 u124 u125 u126 u127 u128 u129 u130 u131 u132 u133 u134 u135 u136 u137 u138 u139 u140 u141 u142 u143 u144 u145)) ({ tmps := #[u0, u1, u2, u3, .pointer (some ⟨B, 0, none⟩), .pointer (some ⟨C, 0, none⟩), u6, u7, u8, u9, u10, u11, u12, u13, u14, u15, u16, u17, u18, u19, u20, u21, u22, u23, u24, u25, u26, u27, u28, u29, u30, u31, u32, u33, u34, u35, u36, u37, u38, u39, u40, u41, u42, u43, u44, u45, u46, u47, u48, u49, u50, u51, u52, u53, u54, u55, u56, u57, u58, u59, u60, u61, u62, u63, u64, u65, u66, u67, u68, u69, u70, u71, u72, u73, u74, u75, u76, u77, u78, u79, u80, u81, u82, u83, u84, u85, u86, u87, u88, u89, u90, u91, u92, u93, u94, u95, u96, u97, u98, u99, u100, u101, u102, u103, u104, u105, u106, u107, u108, u109, u110, u111, u112, u113, u114, u115, u116, u117, u118, u119, u120, u121, u122, u123, u124, u125, u126, u127, u128, u129, u130, u131, u132, u133, u134, u135, u136, u137, u138, u139, u140, u141, u142, u143, u144, u145], defers := [] }) z := by
  obtain ⟨cnt, r1, e1⟩ : ∃ x t, numR 100 r = (x, t) := ⟨_, _, rfl⟩
  have hc : cnt ≤ 100 := by have := num_most r (most := 100) (by decide); have h3 := congrArg Prod.fst e1; simp only [numR] at h3; omega
  have e2 : readN arvR cnt.toNat r1 = (l, r') := by
    simp only [numR, Prod.mk.injEq] at e1
    simp only [countR, e1] at e
    exact e
  obtain ⟨pm, cm, rfl, -, -⟩ := h.arrivals.shape
  have H := hid h
  have E1 := hid e1
  have E2 := hid e2
  have HG := hid (And.intro (show cnt ≤ 400 by omega) hs)
  clear e e1 e2 h hc hs
  unfold bodyAt Tryz.f6
  simp only [codeAt]
  go_upto_block 6 with (go_at_call 18; refine (dnum_to E1.out H.out.rd).mono ?_; rintro e z1 ⟨rfl, hr1, ho1⟩; have H1 := hid (H.out.num hr1 ho1); clear hr1 ho1)
  clear H
  refine wp_meet (avRowPost B z1.heap.size cnt l r' z1 _ _ _ _ _ _ _ _ _ _ _ _ _ _ _ _ _ _ _ _ _ _ _ _ _ _ _ _ _ _ _ _ _ _ _ _ _ _ _ _ _ _ _ _ _ _ _ _ _ _ _ _ _ _ _ _ _ _ _ _ _ _ _ _ _ _ _ _ _ _ _ _ _ _ _ _ _ _ _ _ _ _ _ _ _ _ _ _ _ _ _ _ _ _ _ _ _ _ _ _ _ _ _ _ _ _ _ _ _ _ _ _ _ _ _ _ _ _ _) (avRow E2.out HG.out.1 rfl H1.out.rd.lt H1.out.rd (Only.refl B z1) _ _ _ _ _ _ _ _ _ _ _ _ _ _ _ _ _ _ _ _ _ _ _ _ _ _ _ _ _ _ _ _ _ _ _ _ _ _ _ _ _ _ _ _ _ _ _ _ _ _ _ _ _ _ _ _ _ _ _ _ _ _ _ _ _ _ _ _ _ _ _ _ _ _ _ _ _ _ _ _ _ _ _ _ _ _ _ _ _ _ _ _ _ _ _ _ _ _ _ _ _ _ _ _ _ _ _ _ _ _ _ _ _ _ _ _ _ _ _ _ _ _ _ _ _ _ _ _ _ _ _ _ _ _ _ _ _ _ _ _ _ _) ?_
  refine fun a' y => ex_elim fun v => ex_elim fun u15 => ex_elim fun u16 => ex_elim fun u93 => ex_elim fun u94 => ex_elim fun u95 => ex_elim fun u96 => ex_elim fun u97 => ex_elim fun u98 => ex_elim fun u99 => ex_elim fun u100 => ex_elim fun u101 => ex_elim fun u102 => ex_elim fun u103 => ex_elim fun u104 => ex_elim fun u105 => ex_elim fun u106 => ex_elim fun u107 => ex_elim fun u108 => ex_elim fun u109 => ex_elim fun u110 => ex_elim fun u111 => ex_elim fun u112 => ex_elim fun u113 => ex_elim fun u114 => ?_
  rintro ⟨rfl, hx, ho, hr⟩
  obtain ⟨pl, cl, rfl, -, -⟩ := hr.shape
  have H2 := hid (H1.out.num hx ho)
  have HR2 := hid hr
  clear hx ho hr H1
  have g0 : y.cell? ⟨C, 6, none⟩ = some (.slice pm vs.length cm) := H2.out.cells 6
  have f0 := blk_free H2.out.cb 6
  have hlt : C < y.heap.size := lt_of_block H2.out.cb
  go_wp2_with (at_builtin; refine wpList_push_doc rfl (.tmp 116) (.tmp 118) 28 47 (.slice none 0 0) 1 24 rfl Tryz.underlying28 infoVs rfl (by decide) [30, 94, 89, 3, 43, 46, 44] l H2.out.arrivals rfl (by intro u hu; simp only [List.mem_cons, List.not_mem_nil, or_false] at hu; subst hu; rfl) (by have := HG.out; omega) (by decide) H2.out.rd (by decide) H2.out.on (Nat.le_refl _) H2.out.on.size (by decide) ⟨_, rfl, HR2.out.weak (Nat.zero_le _)⟩ (fun _ hk => ElW.kept (hk.sub (by simp))) rfl rfl rfl ?_; intro p1 cap1 w9 hr9 hs9 ht9 hk9; have HR9 := hid hr9; have HS9 := hid hs9; have HT9 := hid ht9; have HK9 := hid hk9; clear hr9 hs9 ht9 hk9 g0 f0; have hcb : w9.heap[C]? = some (scrO fr ep pv dv hz sv (.slice pm vs.length cm)) := HK9.out _ _ _ H2.out.cb (by simp); have HC9 := hid hcb; have g1 : w9.cell? ⟨C, 6, none⟩ = some (.slice pm vs.length cm) := blk_cell hcb 6; have f1 := blk_free hcb 6; clear hcb)
  obtain ⟨k1, k2, k3⟩ := store_kept (good := goodS) (j := 6) HS9.out HT9.out HC9.out H2.out.hC H2.out.hB (by decide) (.slice p1 (vs.length + 1) cap1)
  exact ⟨rfl, _, _, _, _, _, _, _, _, _, _, _, _, _, _, _, _, _, _, _, _, _, _, _, _, _, _, _, _, _, _, _, _, _, _, _, rfl, ⟨k1, k2, blk_set HC9.out 6 _, H2.out.hC, H2.out.hB, (H2.out.plans.kept HK9.out (by simp) (ElR.kept (HK9.out.sub (by simp)))).kept k3 (by simp) (ElR.kept (k3.sub (by simp))), (H2.out.doms.kept HK9.out (by simp) (ElD.kept (HK9.out.sub (by simp)))).kept k3 (by simp) (ElD.kept (k3.sub (by simp))), (H2.out.streams.kept HK9.out (by simp) (ElS.kept (HK9.out.sub (by simp)))).kept k3 (by simp) (ElS.kept (k3.sub (by simp))), HR9.out.kept k3 (by simp) (ElW.kept (k3.sub (by simp)))⟩⟩

/-- Behind all of them. -/
def avAllPost (B C N : Nat) (r : Rd) (fr ep hz : Int) (pv dv sv : Value) (q : List (List Int)) (ds : List Dom) (ss : List (List Axn)) (vs : List (List Arv)) (W0 : World) (u0 u1 u2 u3 u7 u8 u9 u10 u11 u17 u18 u19 u20 u21 u22 u23 u24 u25 u26 u27 u28 u29 u30 u31 u32 u33 u34 u35 u36 u37 u38 u39 u40 u41 u42 u43 u44 u45 u46 u47 u48 u49 u50 u51 u52 u53 u54 u55 u56 u57 u58 u59 u60 u61 u62 u63 u64 u65 u66 u67 u68 u69 u70 u71 u72 u73 u74 u75 u76 u77 u78 u121 u122 u123 u124 u125 u126 u127 u128 u129 u130 u131 u132 u133 u134 u135 u136 u137 u138 u139 u140 u141 u142 u143 u144 u145 : Value) (a' : Act) (y : World) : Prop :=
  ∃ (av : Value) (u12 u13 u14 u15 u16 u79 u80 u81 u82 u83 u84 u85 u86 u87 u88 u89 u90 u91 u92 u93 u94 u95 u96 u97 u98 u99 u100 u101 u102 u103 u104 u105 u106 u107 u108 u109 u110 u111 u112 u113 u114 u115 u116 u117 u118 u119 u120 : Value), a' = { tmps := #[u0, u1, u2, u3, .pointer (some ⟨B, 0, none⟩), .pointer (some ⟨C, 0, none⟩), .int .i64 N, u7, u8, u9, u10, u11, u12, u13, u14, u15, u16, u17, u18, u19, u20, u21, u22, u23, u24, u25, u26, u27, u28, u29, u30, u31, u32, u33, u34, u35, u36, u37, u38, u39, u40, u41, u42, u43, u44, u45, u46, u47, u48, u49, u50, u51, u52, u53, u54, u55, u56, u57, u58, u59, u60, u61, u62, u63, u64, u65, u66, u67, u68, u69, u70, u71, u72, u73, u74, u75, u76, u77, u78, u79, u80, u81, u82, u83, u84, u85, u86, u87, u88, u89, u90, u91, u92, u93, u94, u95, u96, u97, u98, u99, u100, u101, u102, u103, u104, u105, u106, u107, u108, u109, u110, u111, u112, u113, u114, u115, u116, u117, u118, u119, u120, u121, u122, u123, u124, u125, u126, u127, u128, u129, u130, u131, u132, u133, u134, u135, u136, u137, u138, u139, u140, u141, u142, u143, u144, u145], defers := [] } ∧ Ds B C r fr ep hz pv dv sv av q ds ss vs W0 y
set_option maxRecDepth 100000 in
set_option maxHeartbeats 4000000 in
theorem avAll {B C N : Nat} {r r' : Rd} {fr ep hz : Int} {pv dv sv : Value} {q : List (List Int)} {ds : List Dom} {ss : List (List Axn)} {ls : List (List Arv)} {W0 z : World} (e : readN (countR 100 arvR) N r = (ls, r')) (hN : N ≤ 6)
    (h : Ds B C r fr ep hz pv dv sv (.slice none 0 0) q ds ss [] W0 z) (u0 u1 u2 u3 u7 u8 u9 u10 u11 u13 u14 u15 u16 u17 u18 u19 u20 u21 u22 u23 u24 u25 u26 u27 u28 u29 u30 u31 u32 u33 u34 u35 u36 u37 u38 u39 u40 u41 u42 u43 u44 u45 u46 u47 u48 u49 u50 u51 u52 u53 u54 u55 u56 u57 u58 u59 u60 u61 u62 u63 u64 u65 u66 u67 u68 u69 u70 u71 u72 u73 u74 u75 u76 u77 u78 u79 u80 u81 u82 u83 u84 u85 u86 u87 u88 u89 u90 u91 u92 u93 u94 u95 u96 u97 u98 u99 u100 u101 u102 u103 u104 u105 u106 u107 u108 u109 u110 u111 u112 u113 u114 u115 u116 u117 u118 u119 u120 u121 u122 u123 u124 u125 u126 u127 u128 u129 u130 u131 u132 u133 u134 u135 u136 u137 u138 u139 u140 u141 u142 u143 u144 u145 : Value) :
    (bodyAt Tryz.f6 [1, 1, 1, 1, 1, 1, 1, 0, 1]).wp Tryz.prog (Ends (avAllPost B C N r' fr ep hz pv dv sv q ds ss ls W0 u0 u1 u2 u3 u7 u8 u9 u10 u11 u17 u18 u19 u20 u21 u22 u23 u24 u25 u26 u27 u28 u29 u30 u31 u32 u33 u34 u35 u36 u37 u38 u39 u40 u41 u42 u43 u44 u45 u46 u47 u48 u49 u50 u51 u52 u53 u54 u55 u56 u57 u58 u59 u60 u61 u62 u63 u64 u65 u66 u67 u68 u69 u70 u71 u72 u73 u74 u75 u76 u77 u78 u121 u122 u123 u124 u125 u126 u127 u128 u129 u130 u131 u132 u133 u134 u135 u136 u137 u138 u139 u140 u141 u142 u143 u144 u145)) ({ tmps := #[u0, u1, u2, u3, .pointer (some ⟨B, 0, none⟩), .pointer (some ⟨C, 0, none⟩), .int .i64 N, u7, u8, u9, u10, u11, .int .i64 0, u13, u14, u15, u16, u17, u18, u19, u20, u21, u22, u23, u24, u25, u26, u27, u28, u29, u30, u31, u32, u33, u34, u35, u36, u37, u38, u39, u40, u41, u42, u43, u44, u45, u46, u47, u48, u49, u50, u51, u52, u53, u54, u55, u56, u57, u58, u59, u60, u61, u62, u63, u64, u65, u66, u67, u68, u69, u70, u71, u72, u73, u74, u75, u76, u77, u78, u79, u80, u81, u82, u83, u84, u85, u86, u87, u88, u89, u90, u91, u92, u93, u94, u95, u96, u97, u98, u99, u100, u101, u102, u103, u104, u105, u106, u107, u108, u109, u110, u111, u112, u113, u114, u115, u116, u117, u118, u119, u120, u121, u122, u123, u124, u125, u126, u127, u128, u129, u130, u131, u132, u133, u134, u135, u136, u137, u138, u139, u140, u141, u142, u143, u144, u145], defers := [] }) z := by
  have E := hid e
  have H := hid h
  clear e h
  unfold bodyAt Tryz.f6
  simp only [codeAt]
  go_wp2
  go_loopw [12] (fun vi wy => ∃ (k : Nat) (mv : Value), vi = .int .i64 k ∧ k ≤ N ∧ Hid (Ds B C (readN (countR 100 arvR) k r).2 fr ep hz pv dv sv mv q ds ss (readN (countR 100 arvR) k r).1 W0 wy ∧ (readN (countR 100 arvR) k r).1.length = k)) (fun vi _ => (N - (intOf vi).toNat))
  case atStart => exact ⟨0, _, rfl, Nat.zero_le _, H.out, rfl⟩
  case round =>
    obtain ⟨k, mv, rfl, hk, HJ⟩ := hrel
    obtain ⟨qs, ti, hti⟩ : ∃ qs ti, readN (countR 100 arvR) k r = (qs, ti) := ⟨_, _, rfl⟩
    rw [hti] at HJ
    have c1 := HJ.out.1.rd.cell1
    clear H
    by_cases hkn : (k : Int) < N
    · by_cases he : ti.e = 0
      · have hE : ((ti.e : Int) == 0) = true := by simp [he]
        obtain ⟨l, tj, hx⟩ : ∃ x tj, (countR 100 arvR) ti = (x, tj) := ⟨_, _, rfl⟩
        have HS : Hid (readN (countR 100 arvR) (k + 1) r = (qs ++ [l], tj)) := by
          have := readN_snoc (countR 100 arvR) k r (by rw [hti]; exact he)
          rw [hti, hx] at this; exact this
        have HX := hid hx
        clear he hti hx
        go_upto_block 5 with (fail)
        refine wp_block ?_
        refine wp_meet (avRoundPost B C tj fr ep hz pv dv sv q ds ss (qs ++ [l]) W0 _ _ _ _ _ _ _ _ _ _ _ _ _ _ _ _ _ _ _ _ _ _ _ _ _ _ _ _ _ _ _ _ _ _ _ _ _ _ _ _ _ _ _ _ _ _ _ _ _ _ _ _ _ _ _ _ _ _ _ _ _ _ _ _ _ _ _ _ _ _ _ _ _ _ _ _ _ _ _ _ _ _ _ _ _ _ _ _ _ _ _ _ _ _ _ _ _ _ _ _ _ _ _ _ _ _ _ _ _ _) (avRound HX.out (by have := HJ.out.2; omega) HJ.out.1 _ _ _ _ _ _ _ _ _ _ _ _ _ _ _ _ _ _ _ _ _ _ _ _ _ _ _ _ _ _ _ _ _ _ _ _ _ _ _ _ _ _ _ _ _ _ _ _ _ _ _ _ _ _ _ _ _ _ _ _ _ _ _ _ _ _ _ _ _ _ _ _ _ _ _ _ _ _ _ _ _ _ _ _ _ _ _ _ _ _ _ _ _ _ _ _ _ _ _ _ _ _ _ _ _ _ _ _ _ _ _ _ _ _ _ _ _ _ _ _ _ _ _ _ _ _ _ _ _ _ _ _ _ _ _ _ _ _ _ _ _ _ _ _) ?_
        refine fun a' y => ex_elim fun mv' => ex_elim fun u13 => ex_elim fun u14 => ex_elim fun u15 => ex_elim fun u16 => ex_elim fun u91 => ex_elim fun u92 => ex_elim fun u93 => ex_elim fun u94 => ex_elim fun u95 => ex_elim fun u96 => ex_elim fun u97 => ex_elim fun u98 => ex_elim fun u99 => ex_elim fun u100 => ex_elim fun u101 => ex_elim fun u102 => ex_elim fun u103 => ex_elim fun u104 => ex_elim fun u105 => ex_elim fun u106 => ex_elim fun u107 => ex_elim fun u108 => ex_elim fun u109 => ex_elim fun u110 => ex_elim fun u111 => ex_elim fun u112 => ex_elim fun u113 => ex_elim fun u114 => ex_elim fun u115 => ex_elim fun u116 => ex_elim fun u117 => ex_elim fun u118 => ex_elim fun u119 => ex_elim fun u120 => ?_
        rintro ⟨rfl, hx⟩
        have HX5 := hid hx
        clear hx c1
        go_wp2
        go_roundw
        case rel => exact ⟨k + 1, _, by go_num, by omega, by rw [HS.out]; exact ⟨HX5.out, by rw [List.length_append, HJ.out.2]; rfl⟩⟩
        case measure => simp [intOf]; omega
      · have hE : ((ti.e : Int) == 0) = false := by simpa using he
        have HT : Hid (ls = qs ∧ r' = ti) := by
          have := readN_stays (countR 100 arvR) (by rw [hti]; exact he) N hk
          rw [E.out, hti, Prod.mk.injEq] at this; exact this
        clear he hti
        go_wp2
        exact ⟨rfl, _, _, _, _, _, _, _, _, _, _, _, _, _, _, _, _, _, _, _, _, _, _, _, _, _, _, _, _, _, _, _, _, _, _, _, _, _, _, _, _, _, _, _, _, _, _, _, _, rfl, by rw [HT.out.1, HT.out.2]; exact HJ.out.1⟩
    · have HT : Hid (ls = qs ∧ r' = ti) := by
        have := E.out
        rw [show N = k by omega, hti, Prod.mk.injEq] at this; exact ⟨this.1.symm, this.2.symm⟩
      clear hti
      go_wp2
      exact ⟨rfl, _, _, _, _, _, _, _, _, _, _, _, _, _, _, _, _, _, _, _, _, _, _, _, _, _, _, _, _, _, _, _, _, _, _, _, _, _, _, _, _, _, _, _, _, _, _, _, _, rfl, by rw [HT.out.1, HT.out.2]; exact HJ.out.1⟩
end Go.Proofs.YtmpgeabfogcblaaGreat
