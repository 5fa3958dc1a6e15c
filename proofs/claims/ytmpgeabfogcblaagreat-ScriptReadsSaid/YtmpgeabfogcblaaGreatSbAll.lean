/- What script.Bytes comes to. -/
import Derived.Test.YtmpgeabfogcblaaGreatWire
import Derived.Test.YtmpgeabfogcblaaGreatScr
import Derived.Test.YtmpgeabfogcblaaGreatSc1
import Derived.Test.YtmpgeabfogcblaaGreatMath4c
import Derived.Test.YtmpgeabfogcblaaGreatRead
import Derived.Test.YtmpgeabfogcblaaGreatLays
import Derived.Deep.RegionHeld3
import Derived.Deep.CutRange
namespace Go.Proofs.YtmpgeabfogcblaaGreat
open Go.RowKit

/-- Blocks of other types than these two are as they were. -/
def Kw (T T' : TypeId) (w w' : World) : Prop := ∀ (i : Nat) cs X, w.heap[i]? = some (.cells cs X (0, 0)) → X ≠ T → X ≠ T' → w'.heap[i]? = some (.cells cs X (0, 0))
abbrev KW (w w' : World) : Prop := Kw 5 117 w w'
theorem Kw.refl (T T' : TypeId) (w : World) : Kw T T' w w := fun _ _ _ h _ _ => h
theorem Kw.trans {T T' : TypeId} {x y z : World} (h : Kw T T' x y) (k : Kw T T' y z) : Kw T T' x z := fun i cs X hi h1 h2 => k i cs X (h i cs X hi h1 h2) h1 h2
theorem Kw.drew {T T' : TypeId} {x y : World} (h : Kw T T' x.drew y) : Kw T T' x y := h
theorem Kw.of_ext {T T' : TypeId} {x y : World} (h : Ext x y) : Kw T T' x y := fun i cs X hi _ _ => by
  rw [h.below.block i (lt_of_block hi)]; exact hi

/-- x.f = append(x.f, c), c a byte, f the one field of x: behind the append. -/
theorem wp_put_byteK {P : Program} {o : Oper} {a : Act} {w : World} {K : Act → World → Prop} {Q : Exit → Act → World → Prop} (s x : Operand) (t T T' : TypeId)
    (ho : o.op = .call { callee := .builtin .append, args := #[s, x], argTypes := #[t, t] }) (ht : P.underlying t = some (.slice T)) (hi : (P.info? T).map (fun i => (i.zero, i.size, i.bytes)) = some (some (.int .u8 0), 1, 1)) (hT : T' ≠ T)
    {base b : Nat} {l : List UInt8} {v : Value} {c : UInt8} {n : Int} (hb : base ≤ b) (hv : w.heap[b]? = some (.cells #[v] T' (0, 0))) (hown : OwnB w base T v l) (hlen : l.length ≤ 100000000000000) (hcn : (c.toNat : Int) = n)
    (hs : a.eval s = v) (hx : a.eval x = .slice (some ⟨w.heap.size, 0, none⟩) 1 1)
    (k : ∀ (p : Option Addr) (m cap : Nat) w1, w1.cell? ⟨b, 0, none⟩ = some v → w1.frozen? ⟨b, 0, none⟩ = false → Below base w w1 → (w1.setCell ⟨b, 0, none⟩ (.slice p m cap)).heap[b]? = some (.cells #[.slice p m cap] T' (0, 0)) → OwnB (w1.setCell ⟨b, 0, none⟩ (.slice p m cap)) base T (.slice p m cap) (l ++ [c]) → Kw T T' w (w1.setCell ⟨b, 0, none⟩ (.slice p m cap)) → K (a.put o.dst (.slice p m cap)) w1) :
    o.wp P a (w.alloc (.cells #[.int .u8 n] T)) K Q := by
  obtain ⟨i0, hi, hz0, hz1, hz2⟩ := info_parts hi
  have hlt := lt_of_block hv
  refine wp_append_own _ s x t ho base T i0 (.int .u8 0) 1 1 ht hi hz0 hz1 hz2 rfl (by decide) v l.length (l.map bcell) hs (World.ownsRow.alloc hown _) ⟨w.heap.size, 0, none⟩ 1 1 [.int .u8 n] hx rfl ?_ ?_ ?_ ?_ ?_ ?_
  · intro j u hj
    match j, hj with
    | 0, hj => simp at hj; subst hj; simp [Addr.add]
  · intro u hu; simp at hu; subst hu; rfl
  · unfold maxLen; omega
  · omega
  · simp; omega
  · intro v' w1 ho' hg _
    have hv1 := alloc_block hv (.cells #[.int .u8 n] T)
    have hne := own_ne hT hv hown
    have hv2 : w1.heap[b]? = some (.cells #[v] T' (0, 0)) := by rw [hg.block b (lt_of_block hv1) hne]; exact hv1
    have hne' := own_ne hT hv2 ho'
    obtain ⟨p, m, cap, rfl⟩ : ∃ p m cap, v' = .slice p m cap := by
      rcases ho'.2 with ⟨rfl, _⟩ | ⟨g, cap, cur, rfl, _⟩
      · exact ⟨_, _, _, rfl⟩
      · exact ⟨_, _, _, rfl⟩
    refine k p m cap w1 (cell_of_one hv2) (free_of_one hv2) ?_ (one_setCell hv2) ?_ ?_
    · refine Below.grown (Below.alloc (Below.refl _ _) (by omega) _) hg (by simp; omega) fun k hk => ?_
      exact (hown.lt k hk).1
    · have := ownsRow_setCell_other ho' (a := ⟨b, 0, none⟩) (Ne.symm hne') (.slice p m cap)
      unfold OwnB
      subst hcn
      simpa [bcell] using this
    · intro i cs X hi h1 h2
      have hb' : i ≠ b := fun e => by subst e; rw [hv] at hi; simp at hi; exact h2 hi.2.symm
      have hne2 : some i ≠ v.ownBlock := fun e => by
        rcases hown.2 with ⟨rfl, _⟩ | ⟨g, cap', cur, rfl, _, e3, _⟩
        · simp [Value.ownBlock] at e
        · simp only [Value.ownBlock, Option.some.injEq] at e
          subst e
          rw [hi] at e3
          simp at e3
          exact h1 e3.2
      rw [Below.heap_setCell _ _ _ _ (by simpa using hb'), hg.block i (lt_of_block (alloc_block hi _)) hne2]
      exact alloc_block hi _

theorem wpList_put_byteK {P : Program} {ops : Array Oper} {rest : List Oper} {o : Oper} {a : Act} {w : World} {Q : Exit → Act → World → Prop} (hgd : o.guard = none) (s x : Operand) (t T T' : TypeId)
    (ho : o.op = .call { callee := .builtin .append, args := #[s, x], argTypes := #[t, t] }) (ht : P.underlying t = some (.slice T)) (hi : (P.info? T).map (fun i => (i.zero, i.size, i.bytes)) = some (some (.int .u8 0), 1, 1)) (hT : T' ≠ T)
    {base b : Nat} {l : List UInt8} {v : Value} {c : UInt8} {n : Int} (hb : base ≤ b) (hv : w.heap[b]? = some (.cells #[v] T' (0, 0))) (hown : OwnB w base T v l) (hlen : l.length ≤ 100000000000000) (hcn : (c.toNat : Int) = n)
    (hs : a.eval s = v) (hx : a.eval x = .slice (some ⟨w.heap.size, 0, none⟩) 1 1)
    (k : ∀ (p : Option Addr) (m cap : Nat) w1, w1.cell? ⟨b, 0, none⟩ = some v → w1.frozen? ⟨b, 0, none⟩ = false → Below base w w1 → (w1.setCell ⟨b, 0, none⟩ (.slice p m cap)).heap[b]? = some (.cells #[.slice p m cap] T' (0, 0)) → OwnB (w1.setCell ⟨b, 0, none⟩ (.slice p m cap)) base T (.slice p m cap) (l ++ [c]) → Kw T T' w (w1.setCell ⟨b, 0, none⟩ (.slice p m cap)) → wpList P ops Q rest (a.put o.dst (.slice p m cap)) w1) :
    wpList P ops Q (o :: rest) a (w.alloc (.cells #[.int .u8 n] T)) :=
  wpList_plain hgd fun _ hK => wp_put_byteK s x t T T' ho ht hi hT hb hv hown hlen hcn hs hx fun p m cap w1 h1 h2 h3 h4 h5 h6 => hK _ _ (k p m cap w1 h1 h2 h3 h4 h5 h6)

theorem step_put_byteK {P : Program} {ops : Array Oper} {o : Oper} {a : Act} {w : World} {K : Act → World → Prop} {Q : Exit → Act → World → Prop} {E : Prop} {W : World} (hgd : o.guard = none) (s x : Operand) (t T T' : TypeId)
    (ho : o.op = .call { callee := .builtin .append, args := #[s, x], argTypes := #[t, t] }) (ht : P.underlying t = some (.slice T)) (hi : (P.info? T).map (fun i => (i.zero, i.size, i.bytes)) = some (some (.int .u8 0), 1, 1)) (hT : T' ≠ T)
    {base b : Nat} {l : List UInt8} {v : Value} {c : UInt8} {n : Int} (hb : base ≤ b) (hv : w.heap[b]? = some (.cells #[v] T' (0, 0))) (hown : OwnB w base T v l) (hlen : l.length ≤ 100000000000000) (hcn : (c.toNat : Int) = n)
    (hW : W = w.alloc (.cells #[.int .u8 n] T)) (hs : a.eval s = v) (hx : a.eval x = .slice (some ⟨w.heap.size, 0, none⟩) 1 1)
    (k : ∀ (p : Option Addr) (m cap : Nat) w1, w1.cell? ⟨b, 0, none⟩ = some v → w1.frozen? ⟨b, 0, none⟩ = false → Below base w w1 → (w1.setCell ⟨b, 0, none⟩ (.slice p m cap)).heap[b]? = some (.cells #[.slice p m cap] T' (0, 0)) → OwnB (w1.setCell ⟨b, 0, none⟩ (.slice p m cap)) base T (.slice p m cap) (l ++ [c]) → Kw T T' w (w1.setCell ⟨b, 0, none⟩ (.slice p m cap)) → K (a.put o.dst (.slice p m cap)) w1) :
    if Region.wanted o (yielded ops a.tmps) = true then Oper.wp P o a W K Q else E := by
  subst hW
  have hw : Region.wanted o (yielded ops a.tmps) = true := by simp [Region.wanted, hgd]
  rw [if_pos hw]
  exact wp_put_byteK s x t T T' ho ht hi hT hb hv hown hlen hcn hs hx k
set_option maxRecDepth 100000 in
set_option maxHeartbeats 1000000 in
theorem wnum_all (base b : Nat) (l : List UInt8) (n : Int) (w : World) (h : Wr base b l w) (hl : l.length ≤ 1000000) :
    Calls Tryz.prog 29 #[.pointer (some ⟨b, 0, none⟩), .int .i64 n] w fun e w' => e = .returned (.tuple #[]) ∧ Below base w w' ∧ Wr base b (l ++ numB n) w' ∧ KW w w' := by
  have hbb := h.ge
  have hlt := h.lt
  have hh := heldN_le n
  go_enter Tryz.func29, Tryz.ntmps29
  refine wp_mid (fun a' wx => ∃ (u2 u3 u5 u6 u7 u8 u9 u10 u11 u12 u13 u14 u15 u16 u17 u18 u19 u20 u21 u22 u23 u24 u25 u26 u27 u28 u29 u30 u31 u32 u33 u34 u35 u36 : Value), a' = { tmps := #[.pointer (some ⟨b, 0, none⟩), .int .i64 n, u2, u3, .int .i64 (heldN n), u5, u6, u7, u8, u9, u10, u11, u12, u13, u14, u15, u16, u17, u18, u19, u20, u21, u22, u23, u24, u25, u26, u27, u28, u29, u30, u31, u32, u33, u34, u35, u36], defers := [] } ∧ wx = w) ?_ ?_
  · rcases (show n < -1 ∨ (-1 ≤ n ∧ n ≤ 1048576) ∨ 1048576 < n from by omega) with h1 | h1 | h1
    · have hv := heldN_low h1
      go_wp2
      all_goals (first | (intros; omega) | (refine ⟨rfl, _, _, _, _, _, _, _, _, _, _, _, _, _, _, _, _, _, _, _, _, _, _, _, _, _, _, _, _, _, _, _, _, _, _, ?_, rfl⟩; simp [hv] <;> omega))
    · have hv := heldN_in h1.1 h1.2
      go_wp2
      all_goals (first | (intros; omega) | (refine ⟨rfl, _, _, _, _, _, _, _, _, _, _, _, _, _, _, _, _, _, _, _, _, _, _, _, _, _, _, _, _, _, _, _, _, _, _, ?_, rfl⟩; simp [hv] <;> omega))
    · have hv := heldN_high h1
      go_wp2
      all_goals (first | (intros; omega) | (refine ⟨rfl, _, _, _, _, _, _, _, _, _, _, _, _, _, _, _, _, _, _, _, _, _, _, _, _, _, _, _, _, _, _, _, _, _, _, ?_, rfl⟩; simp [hv] <;> omega))
  · rintro _ w ⟨u2, u3, u5, u6, u7, u8, u9, u10, u11, u12, u13, u14, u15, u16, u17, u18, u19, u20, u21, u22, u23, u24, u25, u26, u27, u28, u29, u30, u31, u32, u33, u34, u35, u36, rfl, rfl⟩
    go_wp2
    go_loopw [4] (fun v wr => ∃ (r : Nat) (pre : List UInt8), v = .int .i64 r ∧ r ≤ 1048577 ∧ pre ++ encN r = numB n ∧ Wr base b (l ++ pre) wr ∧ Below base w wr ∧ KW w wr) (fun v _ => (intOf v).toNat)
    case atStart => exact ⟨heldN n, [], rfl, hh, rfl, by simpa using h, Below.refl _ _, Kw.refl _ _ _⟩
    case round =>
      obtain ⟨r, pre, rfl, hr, hpre, ⟨_, v, hblk, hown⟩, hbel, hkw⟩ := hrel
      have HKW := hid hkw
      clear hkw
      have hc := cell_of_one hblk
      have hf := free_of_one hblk
      have hsz := lt_of_block hblk
      have hpl := congrArg List.length hpre
      have hnl := numB_length n
      rw [List.length_append] at hpl
      by_cases hge : 128 ≤ r
      · have hq : encN r = _ := encN_ge hge
        have hH := hid (And.intro hq hpre)
        have hll : (l ++ pre).length ≤ 100000000000000 := by rw [List.length_append]; omega
        have hcn : ((UInt8.ofNat (128 + r % 128)).toNat : Int) = 128 + (r : Int) % 128 := by rw [UInt8.toNat_ofNat']; omega
        have hH2 := hid (And.intro hll hcn)
        clear hq hpre hll hcn hpl
        go_wp2_with (at_builtin; refine wpList_put_byteK rfl (.tmp 15) (.tmp 20) 115 5 117 rfl Tryz.underlying115 Tryz.info5 (by decide) hbb hblk hown hH2.out.1 hH2.out.2 rfl rfl ?_; intro p m cap w1 hc1 hf1 hb1 hblk1 hown1 hkw1)
        go_roundw
        case rel => exact ⟨r / 128, pre ++ [UInt8.ofNat (128 + r % 128)], by go_num, by omega, by rw [← hH.out.2, hH.out.1]; simp, ⟨hbb, _, hblk1, by simpa using hown1⟩, (hbel.trans hb1).setCell hbb _, HKW.out.trans hkw1⟩
        case measure => simp [intOf]; omega
      · have hq : encN r = _ := encN_lt (show r < 128 by omega)
        have hH := hid (And.intro hq hpre)
        have hll : (l ++ pre).length ≤ 100000000000000 := by rw [List.length_append]; omega
        have hcn : ((UInt8.ofNat r).toNat : Int) = (r : Int) := by rw [UInt8.toNat_ofNat']; omega
        have hH2 := hid (And.intro hll hcn)
        clear hq hpre hll hcn hpl
        go_wp2_with (at_builtin; refine wpList_put_byteK rfl (.tmp 30) (.tmp 33) 115 5 117 rfl Tryz.underlying115 Tryz.info5 (by decide) hbb hblk hown hH2.out.1 hH2.out.2 rfl rfl ?_; intro p m cap w1 hc1 hf1 hb1 hblk1 hown1 hkw1)
        go_returns
        refine ⟨rfl, (hbel.trans hb1).setCell hbb _, ⟨hbb, _, hblk1, ?_⟩, HKW.out.trans hkw1⟩
        have e : l ++ numB n = l ++ pre ++ [UInt8.ofNat r] := by rw [← hH.out.2, hH.out.1]; simp
        rw [e]; exact hown1

set_option maxRecDepth 100000 in
set_option maxHeartbeats 1000000 in
theorem wbits_all (base b : Nat) (l : List UInt8) (n : Int) (hn : 0 ≤ n) (hn' : n < 18446744073709551616) (w : World) (h : Wr base b l w) (hl : l.length ≤ 1000000) :
    Calls Tryz.prog 87 #[.pointer (some ⟨b, 0, none⟩), .int .u64 n] w fun e w' => e = .returned (.tuple #[]) ∧ Below base w w' ∧ Wr base b (l ++ bitsB n) w' ∧ KW w w' := by
  have hbb := h.ge
  have hlt := h.lt
  have HN := hid hn'
  clear hn'
  go_enter Tryz.func87, Tryz.ntmps87
  go_wp2
  go_loopw [5] (fun v wr => ∃ k : Nat, v = .int .i64 k ∧ k ≤ 8 ∧ Wr base b (l ++ leB k n.toNat) wr ∧ Below base w wr ∧ KW w wr) (fun v _ => (8 - intOf v).toNat)
  case atStart => exact ⟨0, rfl, by omega, by simpa [leB] using h, Below.refl _ _, Kw.refl _ _ _⟩
  case round =>
    obtain ⟨k, rfl, hk, ⟨_, v, hblk, hown⟩, hbel, hkw⟩ := hrel
    have HKW := hid hkw
    clear hkw
    have hc := cell_of_one hblk
    have hf := free_of_one hblk
    have hsz := lt_of_block hblk
    have hll : (l ++ leB k n.toNat).length ≤ 100000000000000 := by rw [List.length_append, leB_length]; omega
    have hlh := hid hll
    clear hll
    by_cases hlt : k < 8
    · go_wp2_with fail
      have hcn := hid (byte_shr hn k)
      have e1 : IntKind.i64.wrap (8 * (k : Int)) = 8 * (k : Int) := IntWalk.i64_in _ (by omega)
      have e2 : (0 : Int) ≤ 8 * (k : Int) := by omega
      have e3 : 8 * (k : Int) ≤ 64 := by omega
      have e4 : (8 * (k : Int)).toNat = 8 * k := by omega
      go_region_law (refine step_put_byteK rfl (.tmp 12) (.tmp 18) 115 5 117 rfl Tryz.underlying115 Tryz.info5 (by decide) hbb hblk hown.drew hlh.out hcn.out (w := wr.drew) rfl (by simp [Act.eval]) (by simp [Act.eval]) ?_; intro p m cap w1 hc1 hf1 hb1 hblk1 hown1 hkw1)
      all_goals
        clear e1 e2 e3 e4
        go_wp2
        go_roundw
        case rel => exact ⟨k + 1, by go_num, by omega, ⟨hbb, _, ‹_›, by rw [leB_snoc, ← List.append_assoc]; assumption⟩, (hbel.drew.trans hb1).setCell hbb _, HKW.out.trans (Kw.drew ‹_›)⟩
        case measure => simp [intOf]; omega
    · obtain rfl : k = 8 := by omega
      go_wp2
      go_returns
      exact ⟨rfl, hbel, ⟨hbb, _, hblk, hown⟩, HKW.out⟩

end Go.Proofs.YtmpgeabfogcblaaGreat

namespace Go.Proofs.YtmpgeabfogcblaaGreat
open Go.RowKit

/-- What a call that writes comes to. -/
def Writes (base b : Nat) (l : List UInt8) (w : World) (e : Ending) (w' : World) : Prop := e = .returned (.tuple #[]) ∧ Below base w w' ∧ Wr base b l w' ∧ KW w w'
/-- A row of numbers, whatever they are. -/
def IntAt (w : World) (b off : Nat) (x : Int) : Prop := w.cell? ⟨b, off, none⟩ = some (.int .i64 x)
abbrev IntsV (w : World) (v : Value) (l : List Int) : Prop := Slc 1 IntAt w v l
theorem ints_of_nums {w : World} {v : Value} {l : List Int} (h : Nums .i64 w v l) : IntsV w v l := by
  obtain ⟨p, cap, h0, h1, h2, h3⟩ := h
  exact ⟨p, cap, h0, h1, h2, fun hp => by
    obtain ⟨b, off, e, h4⟩ := h3 hp
    exact ⟨b, off, e, fun i x hx => (h4 i x hx).1⟩⟩
theorem flat3 (l : List Int) : (l.flatMap numB).length ≤ 3 * l.length := by
  induction l with
  | nil => simp
  | cons x l ih =>
    have := numB_length x
    rw [List.flatMap_cons, List.length_append, List.length_cons]
    omega
set_option maxRecDepth 100000 in
set_option maxHeartbeats 2000000 in
/-- A row of numbers: v tells l, whatever the Writer does. -/
theorem put_any (base b : Nat) (pre : List UInt8) (v : Value) (l : List Int) (w : World) (h : Wr base b pre w) (hN : ∀ w', Below base w w' → KW w w' → IntsV w' v l) (hl : pre.length + 3 * l.length ≤ 900000) :
    Calls Tryz.prog 30 #[.pointer (some ⟨b, 0, none⟩), v] w (Writes base b (pre ++ l.flatMap numB) w) := by
  obtain ⟨p, cap, rfl, hc1, hc2⟩ := (hN w (Below.refl _ _) (Kw.refl _ _ _)).shape
  unfold maxLen at hc2
  have HN := hid hN
  have H := hid h
  clear h hN
  go_enter Tryz.func30, Tryz.ntmps30
  go_wp2
  go_loopw [8] (fun v8 wr => ∃ k : Nat, v8 = .int .i64 k ∧ k ≤ l.length ∧ Hid (Wr base b (pre ++ (l.take k).flatMap numB) wr ∧ Below base w wr ∧ KW w wr)) (fun v8 _ => (l.length - intOf v8).toNat)
  case atStart => exact ⟨0, rfl, by omega, by simpa using H.out, Below.refl _ _, Kw.refl _ _ _⟩
  case round =>
    obtain ⟨k, rfl, hk, ht⟩ := hrel
    by_cases hlt : k < l.length
    · obtain ⟨ba, oa, rfl, a0⟩ := (HN.out wr ht.out.2.1 ht.out.2.2).at k hlt
      simp only [Nat.mul_one, IntAt] at a0
      have hT : Hid ((l.take (k + 1)).flatMap numB = (l.take k).flatMap numB ++ numB l[k]) := by
        unfold Hid
        rw [List.take_succ_eq_append_getElem hlt, List.flatMap_append, List.flatMap_singleton]
      have h3 := flat3 (l.take k)
      rw [List.length_take, Nat.min_eq_left hk] at h3
      have H3 : Hid ((pre ++ (l.take k).flatMap numB).length ≤ 1000000) := by unfold Hid; rw [List.length_append]; omega
      clear h3
      generalize l[k] = x at *
      have i1 : (k : Int) < l.length := by omega
      go_wp2_with (go_at_call 29; refine (wnum_all _ _ _ _ _ ht.out.1 H3.out).mono ?_; rintro e w1 ⟨rfl, hb1, hw1, hk1⟩; have HF := hid (And.intro hw1 (And.intro (ht.out.2.1.trans hb1) (ht.out.2.2.trans hk1))); clear hb1 hw1 hk1)
      go_roundw
      case rel => exact ⟨k + 1, by go_num, by omega, by unfold Hid; rw [hT.out, ← List.append_assoc]; exact HF.out⟩
      case measure => simp [intOf]; omega
    · obtain rfl : k = l.length := by omega
      have hf := ht.out
      rw [List.take_length] at hf
      have HF := hid hf
      clear hf
      go_wp2
      go_returns
      exact ⟨rfl, HF.out.2.1, HF.out.1, HF.out.2.2⟩
theorem wnum_w {base b : Nat} {pre : List UInt8} (n : Int) {w : World} (h : Wr base b pre w) (hl : pre.length ≤ 900000) :
    Calls Tryz.prog 29 #[.pointer (some ⟨b, 0, none⟩), .int .i64 n] w (Writes base b (pre ++ numB n) w) := wnum_all base b pre n w h (by omega)
theorem wbits_w {base b : Nat} {pre : List UInt8} {n : Int} (hn : U64 n) {w : World} (h : Wr base b pre w) (hl : pre.length ≤ 900000) :
    Calls Tryz.prog 87 #[.pointer (some ⟨b, 0, none⟩), .int .u64 n] w (Writes base b (pre ++ bitsB n) w) := wbits_all base b pre n hn.1 hn.2 w h (by omega)
/-- A row in memory of the caller's. -/
theorem put_old {base b : Nat} {pre : List UInt8} {v : Value} {l : List Int} {W w : World} (hW : W.heap.size = base) (hx : Ext W w) (hN : Nums .i64 W v l) (h : Wr base b pre w) (hl : pre.length + 3 * l.length ≤ 900000) :
    Calls Tryz.prog 30 #[.pointer (some ⟨b, 0, none⟩), v] w (Writes base b (pre ++ l.flatMap numB) w) :=
  put_any base b pre v l w h (fun w' hb _ => ints_of_nums <| hN.ext ⟨by have := hx.below; rw [hW] at this ⊢; exact this.trans hb⟩) hl
/-- A row just made: each a number. -/
theorem put_new {base b g n : Nat} {pre : List UInt8} {l : List Int} {w : World} (hg : w.heap[g]? = some (.cells (l.map (fun x => Value.int .i64 x)).toArray 3 (0, 0))) (hn : l.length = n) (h : Wr base b pre w) (hl : pre.length + 3 * l.length ≤ 900000) :
    Calls Tryz.prog 30 #[.pointer (some ⟨b, 0, none⟩), .slice (some ⟨g, 0, none⟩) n n] w (Writes base b (pre ++ l.flatMap numB) w) := by
  subst hn
  refine put_any base b pre _ l w h (fun w' _ hk => ?_) hl
  have hg' := hk g _ _ hg (by decide) (by decide)
  refine ⟨_, _, rfl, Nat.le_refl _, by unfold maxLen; omega, fun _ => ⟨g, 0, rfl, fun i x hi => ?_⟩⟩
  unfold IntAt
  rw [blk_cell hg']
  simp [hi]
end Go.Proofs.YtmpgeabfogcblaaGreat

namespace Go.Proofs.YtmpgeabfogcblaaGreat
open Go.RowKit

abbrev domO (d : Dom) (vr ve : Value) : Obj := .cells #[.int .i64 d.level, .int .u64 d.cats, vr, ve, .int .i64 d.to, .int .i64 d.threads, .int .i64 d.groups, .int .i64 d.ring, .int .i64 d.sends, .int .i64 d.box] 94 (0, 0)
/-- Where the writing stands: P is written, the box lies, all below is as it was. -/
structure Wrs (base b N : Nat) (o : Obj) (P : List UInt8) (W w : World) : Prop where
  wr : Wr base b P w
  ext : Ext W w
  below : Below base W w
  box : w.heap[N]? = some o
theorem Wrs.step {base b N : Nat} {cs : Array Value} {T : TypeId} {P P' : List UInt8} {W w w' : World} (h : Wrs base b N (.cells cs T (0, 0)) P W w) (hW : W.heap.size = base) (hb : Below base w w') (hw : Wr base b P' w') (hk : KW w w') (h1 : T ≠ 5) (h2 : T ≠ 117) : Wrs base b N (.cells cs T (0, 0)) P' W w' :=
  ⟨hw, ⟨by have := h.below.trans hb; rwa [hW]⟩, h.below.trans hb, hk N cs T h.box h1 h2⟩
theorem Wrs.more {base b N : Nat} {o : Obj} {P : List UInt8} {W w w' : World} (h : Wrs base b N o P W w) (hW : W.heap.size = base) (hx : Ext w w') : Wrs base b N o P W w' :=
  ⟨h.wr.keep hx.below, h.ext.trans hx, (h.ext.trans hx).below.mono (by omega), block_ext hx h.box⟩
theorem Wr.ext {base b : Nat} {l : List UInt8} {w w' : World} (h : Wr base b l w) (k : Ext w w') : Wr base b l w' := h.keep k.below

theorem flat_take_len {α : Type} (g : α → List UInt8) (l : List α) (k : Nat) : ((l.take k).flatMap g).length ≤ (l.flatMap g).length := by
  have := congrArg List.length (List.flatMap_append (xs := l.take k) (ys := l.drop k) (f := g))
  rw [List.take_append_drop, List.length_append] at this
  omega
theorem domBytes_eq (d : Dom) : domBytes d = ((((((numB d.level ++ bitsB d.cats) ++ numB d.routes.length) ++ d.routes.flatMap rowB) ++ [d.to, (d.release.length : Int)].flatMap numB) ++ d.release.flatMap numB) ++ [d.threads, d.groups, d.ring, d.sends, d.box].flatMap numB) := by
  simp only [domBytes, rowB, List.flatMap_cons, List.flatMap_nil, List.append_nil, List.append_assoc]

set_option maxRecDepth 100000 in
set_option maxHeartbeats 8000000 in
theorem putDomain_any (base b : Nat) (pre : List UInt8) (d : Dom) (vr ve : Value) (W w : World) (hW : W.heap.size = base) (hx : Ext W w) (hr : RowsV W vr d.routes) (he : Nums .i64 W ve d.release) (hi : DomIn d) (h : Wr base b pre w) (hl : pre.length + (domBytes d).length ≤ 100000) :
    Calls Tryz.prog 57 #[.pointer (some ⟨b, 0, none⟩), .agg #[.int .i64 d.level, .int .u64 d.cats, vr, ve, .int .i64 d.to, .int .i64 d.threads, .int .i64 d.groups, .int .i64 d.ring, .int .i64 d.sends, .int .i64 d.box]] w (Writes base b (pre ++ domBytes d) w) := by
  obtain ⟨pr, cr, rfl, hr1, hr2⟩ := hr.shape
  obtain ⟨pe, ce, rfl, he1, he2⟩ := he.shape
  unfold maxLen at hr2 he2
  rw [domBytes_eq] at hl ⊢
  obtain ⟨P1, p1⟩ : ∃ P, P = numB d.level := ⟨_, rfl⟩
  obtain ⟨P2, p2⟩ : ∃ P, P = bitsB d.cats := ⟨_, rfl⟩
  obtain ⟨P3, p3⟩ : ∃ P, P = numB d.routes.length := ⟨_, rfl⟩
  obtain ⟨P4, p4⟩ : ∃ P, P = d.routes.flatMap rowB := ⟨_, rfl⟩
  obtain ⟨P5, p5⟩ : ∃ P, P = [d.to, (d.release.length : Int)].flatMap numB := ⟨_, rfl⟩
  obtain ⟨P6, p6⟩ : ∃ P, P = d.release.flatMap numB := ⟨_, rfl⟩
  obtain ⟨P7, p7⟩ : ∃ P, P = [d.threads, d.groups, d.ring, d.sends, d.box].flatMap numB := ⟨_, rfl⟩
  rw [← p1, ← p2, ← p3, ← p4, ← p5, ← p6, ← p7] at hl ⊢
  simp only [List.length_append] at hl
  have hrl : d.release.length ≤ 4 := hi.release.1
  have HP := hid (And.intro p1 (And.intro p2 (And.intro p3 (And.intro p4 (And.intro p5 (And.intro p6 p7))))))
  have HL := hid hl
  have HRL := hid hrl
  have HW := hid hW
  have HR := hid hr
  have HE := hid he
  have HI := hid hi
  have H0 : Hid (Wrs base b w.heap.size (domO d (.slice pr d.routes.length cr) (.slice pe d.release.length ce)) pre W (w.alloc (domO d (.slice pr d.routes.length cr) (.slice pe d.release.length ce)))) :=
    ⟨h.ext (Ext.alloc (Ext.refl _) _), hx.alloc _, (hx.alloc _).below.mono (by omega), heap_alloc_new w _⟩
  have HX := hid (And.intro h.ge hx.size)
  clear p1 p2 p3 p4 p5 p6 p7 hl hrl hW hr he hi h hx
  go_enter Tryz.func57, Tryz.ntmps57
  go_wp2_with fail
  refine (wnum_w d.level H0.out.wr (by have := HL.out; omega)).mono ?_
  rintro e w1 ⟨rfl, hb, hw, hk⟩
  have H1 := hid (H0.out.step HW.out hb hw hk (by decide) (by decide))
  have K1 := hid (And.intro hb hk)
  clear hb hw hk
  have k1 := blk_cell H1.out.box 1
  simp only [List.getElem?_toArray, List.getElem?_cons_zero, List.getElem?_cons_succ] at k1
  go_wp2_with fail
  refine (wbits_w HI.out.cats H1.out.wr (by rw [← HP.out.1, List.length_append]; have := HL.out; omega)).mono ?_
  rintro e w2 ⟨rfl, hb, hw, hk⟩
  have H2 := hid (H1.out.step HW.out hb hw hk (by decide) (by decide))
  have K2 := hid (And.intro (K1.out.1.trans hb) (K1.out.2.trans hk))
  clear hb hw hk k1 K1 H1
  have k2 := blk_cell H2.out.box 2
  simp only [List.getElem?_toArray, List.getElem?_cons_zero, List.getElem?_cons_succ] at k2
  go_wp2_with fail
  refine (wnum_w d.routes.length H2.out.wr (by rw [← HP.out.1, ← HP.out.2.1, List.length_append, List.length_append]; have := HL.out; omega)).mono ?_
  rintro e w3 ⟨rfl, hb, hw, hk⟩
  have H3 := hid (H2.out.step HW.out hb hw hk (by decide) (by decide))
  have K3 := hid (And.intro (K2.out.1.trans hb) (K2.out.2.trans hk))
  clear hb hw hk k2 K2 H2
  rw [← HP.out.1, ← HP.out.2.1, ← HP.out.2.2.1] at H3
  have k3 := blk_cell H3.out.box 2
  simp only [List.getElem?_toArray, List.getElem?_cons_zero, List.getElem?_cons_succ] at k3
  go_wp2_with fail
  clear k3
  go_loopw [24] (fun v24 wr => ∃ k : Nat, v24 = .int .i64 k ∧ k ≤ d.routes.length ∧ Hid (Wrs base b w.heap.size (domO d (.slice pr d.routes.length cr) (.slice pe d.release.length ce)) (pre ++ P1 ++ P2 ++ P3 ++ (d.routes.take k).flatMap rowB) W wr ∧ Below base w3 wr ∧ KW w3 wr)) (fun v24 _ => (d.routes.length - intOf v24).toNat)
  case atStart => exact ⟨0, rfl, by omega, by simpa using H3.out, Below.refl _ _, Kw.refl _ _ _⟩
  case round =>
    obtain ⟨k, rfl, hk, ht⟩ := hrel
    by_cases hlt : k < d.routes.length
    · obtain ⟨rb, ro, rfl, rv, r0, rn⟩ := HR.out.at k hlt
      obtain ⟨rp, rc, rfl, hrr1, hrr2⟩ := rn.shape
      unfold maxLen at hrr2
      simp only [Nat.mul_one] at r0
      have RN := hid rn
      have e0 := ht.out.1.ext.cell r0
      have hrb : rb < wr.heap.size := World.block_lt_of_cell? _ _ e0
      have hT : Hid ((d.routes.take (k + 1)).flatMap rowB = (d.routes.take k).flatMap rowB ++ rowB d.routes[k]) := by
        unfold Hid
        rw [List.take_succ_eq_append_getElem hlt, List.flatMap_append, List.flatMap_singleton]
      have hTL := hid (flat_take_len rowB d.routes (k + 1))
      have hRl : Hid (d.routes[k].length ≤ 300) := (HI.out.route _ (List.getElem_mem hlt)).1
      have i1 : (k : Int) < d.routes.length := by omega
      clear r0 rn
      generalize d.routes[k] = row at *
      have HB : Hid (pre.length + P1.length + P2.length + P3.length + ((d.routes.take k).flatMap rowB).length + (rowB row).length ≤ 100000) := by
        unfold Hid
        have h1 := hTL.out
        rw [hT.out, List.length_append, ← HP.out.2.2.2.1] at h1
        have := HL.out
        omega
      have HB2 : Hid ((pre ++ P1 ++ P2 ++ P3 ++ (d.routes.take k).flatMap rowB).length ≤ 100000) := by
        unfold Hid
        simp only [List.length_append]
        have := HB.out
        omega
      go_wp2_with fail
      refine (wnum_w row.length ht.out.1.wr (by have := HB2.out; omega)).mono ?_
      rintro e w4 ⟨rfl, hb, hw, hkk⟩
      have H4 := hid (ht.out.1.step HW.out hb hw hkk (by decide) (by decide))
      have K4 := hid (And.intro (ht.out.2.1.trans hb) (ht.out.2.2.trans hkk))
      clear hb hw hkk
      go_wp2_with fail
      refine (put_old HW.out H4.out.ext RN.out H4.out.wr (by rw [List.length_append]; have := HB2.out; have := hRl.out; have := numB_length (row.length : Int); omega)).mono ?_
      rintro e w5 ⟨rfl, hb, hw, hkk⟩
      have H5 := hid (H4.out.step HW.out hb hw hkk (by decide) (by decide))
      have K5 := hid (And.intro (K4.out.1.trans hb) (K4.out.2.trans hkk))
      clear hb hw hkk H4 K4
      go_wp2_with fail
      go_roundw
      case rel => exact ⟨k + 1, by go_num, by omega, by unfold Hid; rw [hT.out]; have := H5.out; simp only [List.append_assoc, rowB] at this ⊢; exact ⟨this, K5.out.1, K5.out.2⟩⟩
      case measure => simp [intOf]; omega
    · obtain rfl : k = d.routes.length := by omega
      have hf := ht.out
      rw [List.take_length, ← HP.out.2.2.2.1] at hf
      have H4 := hid hf.1
      have K4 := hid (And.intro (K3.out.1.trans hf.2.1) (K3.out.2.trans hf.2.2))
      clear hf ht H3 K3
      have hbox := H4.out.box
      have k2 := blk_cell hbox 3
      have k3 := blk_cell hbox 4
      simp only [List.getElem?_toArray, List.getElem?_cons_zero, List.getElem?_cons_succ] at k2 k3
      clear hbox
      go_wp2_with fail
      have X5 := hid (H4.out.more HW.out (Ext.alloc (Ext.refl wr) (.cells #[.int .i64 d.to, .int .i64 d.release.length] 3 (0, 0))))
      refine (put_new (l := [d.to, (d.release.length : Int)]) (heap_alloc_new wr _) rfl X5.out.wr (by simp only [List.length_append, List.length_cons, List.length_nil]; have := HL.out; omega)).mono ?_
      rintro e w5 ⟨rfl, hb, hw, hk⟩
      have H5 := hid (X5.out.step HW.out hb hw hk (by decide) (by decide))
      have K5 := hid (And.intro (((K4.out.1.alloc (by have := HX.out.2; have := HW.out; have := K4.out.1.size; simp at this; omega) _)).trans hb) ((K4.out.2.trans (Kw.of_ext (Ext.alloc (Ext.refl wr) _))).trans hk))
      clear hb hw hk X5 H4 K4 k2 k3
      rw [← HP.out.2.2.2.2.1] at H5
      have k2 := blk_cell H5.out.box 3
      simp only [List.getElem?_toArray, List.getElem?_cons_zero, List.getElem?_cons_succ] at k2
      go_wp2_with fail
      refine (put_old HW.out H5.out.ext HE.out H5.out.wr (by simp only [List.length_append]; have := HL.out; have := HRL.out; omega)).mono ?_
      rintro e w6 ⟨rfl, hb, hw, hk⟩
      have H6 := hid (H5.out.step HW.out hb hw hk (by decide) (by decide))
      have K6 := hid (And.intro (K5.out.1.trans hb) (K5.out.2.trans hk))
      clear hb hw hk H5 K5 k2
      rw [← HP.out.2.2.2.2.2.1] at H6
      have hbox := H6.out.box
      have k5 := blk_cell hbox 5
      have k6 := blk_cell hbox 6
      have k7 := blk_cell hbox 7
      have k8 := blk_cell hbox 8
      have k9 := blk_cell hbox 9
      simp only [List.getElem?_toArray, List.getElem?_cons_zero, List.getElem?_cons_succ] at k5 k6 k7 k8 k9
      clear hbox
      go_wp2_with fail
      have X7 := hid (H6.out.more HW.out (Ext.alloc (Ext.refl w6) (.cells #[.int .i64 d.threads, .int .i64 d.groups, .int .i64 d.ring, .int .i64 d.sends, .int .i64 d.box] 3 (0, 0))))
      refine (put_new (l := [d.threads, d.groups, d.ring, d.sends, d.box]) (heap_alloc_new w6 _) rfl X7.out.wr (by simp only [List.length_append, List.length_cons, List.length_nil]; have := HL.out; omega)).mono ?_
      rintro e w7 ⟨rfl, hb, hw, hk⟩
      have K7 := hid (And.intro (((K6.out.1.alloc (by have := HX.out.2; have := HW.out; have := K6.out.1.size; simp at this; omega) _)).trans hb) ((K6.out.2.trans (Kw.of_ext (Ext.alloc (Ext.refl w6) _))).trans hk))
      have HWR := hid hw
      clear hb hw hk X7 H6 K6 k5 k6 k7 k8 k9
      rw [← HP.out.2.2.2.2.2.2] at HWR
      go_wp2_with fail
      go_returns
      exact ⟨rfl, ((Below.refl base w).alloc (by have := HX.out.2; have := HW.out; omega) _).trans K7.out.1, by simpa only [List.append_assoc] using HWR.out, (Kw.of_ext (Ext.alloc (Ext.refl w) _)).trans K7.out.2⟩
end Go.Proofs.YtmpgeabfogcblaaGreat

namespace Go.Proofs.YtmpgeabfogcblaaGreat
open Go.RowKit

theorem confBytes_eq (c : Cnf) : confBytes c = ([c.frame, c.epoch, (c.plans.length : Int), (c.doms.length : Int)].flatMap numB ++ c.plans.flatMap (fun p => p.flatMap numB)) ++ c.doms.flatMap domBytes := by
  simp only [confBytes, headBytes, plansBytes, List.flatMap_cons, List.flatMap_nil, List.append_nil, List.append_assoc]

set_option maxRecDepth 100000 in
set_option maxHeartbeats 8000000 in
theorem putConf_any (base b : Nat) (pre : List UInt8) (c : Cnf) (pv dv : Value) (W w : World) (hW : W.heap.size = base) (hx : Ext W w) (hc : ConfV W c pv dv) (hi : CnfIn c) (h : Wr base b pre w) (hl : pre.length + (confBytes c).length ≤ 90000) :
    Calls Tryz.prog 28 #[.pointer (some ⟨b, 0, none⟩), confV c pv dv] w (Writes base b (pre ++ confBytes c) w) := by
  obtain ⟨pp, cp, rfl, hp1, hp2⟩ := hc.plans.shape
  obtain ⟨pd, cd, rfl, hd1, hd2⟩ := hc.doms.shape
  unfold maxLen at hp2 hd2
  rw [confBytes_eq] at hl ⊢
  obtain ⟨P1, p1⟩ : ∃ P, P = [c.frame, c.epoch, (c.plans.length : Int), (c.doms.length : Int)].flatMap numB := ⟨_, rfl⟩
  obtain ⟨P2, p2⟩ : ∃ P, P = c.plans.flatMap (fun p => p.flatMap numB) := ⟨_, rfl⟩
  obtain ⟨P3, p3⟩ : ∃ P, P = c.doms.flatMap domBytes := ⟨_, rfl⟩
  rw [← p1, ← p2, ← p3] at hl ⊢
  simp only [List.length_append] at hl
  have HP := hid (And.intro p1 (And.intro p2 p3))
  have HL := hid hl
  have HW := hid hW
  have HC := hid hc
  have HI := hid hi
  have H0 : Hid (Wrs base b w.heap.size (.cells #[.int .i64 c.frame, .int .i64 c.epoch, .slice pp c.plans.length cp, .slice pd c.doms.length cd] 26 (0, 0)) pre W (w.alloc (.cells #[.int .i64 c.frame, .int .i64 c.epoch, .slice pp c.plans.length cp, .slice pd c.doms.length cd] 26 (0, 0)))) :=
    ⟨h.ext (Ext.alloc (Ext.refl _) _), hx.alloc _, (hx.alloc _).below.mono (by omega), heap_alloc_new w _⟩
  have HX := hid (And.intro h.ge hx.size)
  clear p1 p2 p3 hl hW hc hi h hx
  go_enter Tryz.func28, Tryz.ntmps28
  go_wp2_with fail
  have X1 := hid (H0.out.more HW.out (Ext.alloc (Ext.refl _) (.cells #[.int .i64 c.frame, .int .i64 c.epoch, .int .i64 c.plans.length, .int .i64 c.doms.length] 3 (0, 0))))
  refine (put_new (l := [c.frame, c.epoch, (c.plans.length : Int), (c.doms.length : Int)]) (by have := heap_alloc_new (w.alloc (.cells #[.int .i64 c.frame, .int .i64 c.epoch, .slice pp c.plans.length cp, .slice pd c.doms.length cd] 26 (0, 0))) (.cells #[.int .i64 c.frame, .int .i64 c.epoch, .int .i64 c.plans.length, .int .i64 c.doms.length] 3 (0, 0)); rw [World.size_alloc] at this; exact this) rfl X1.out.wr (by simp only [List.length_cons, List.length_nil]; have := HL.out; omega)).mono ?_
  rintro e w1 ⟨rfl, hb, hw, hk⟩
  have H1 := hid (X1.out.step HW.out hb hw hk (by decide) (by decide))
  have hE2 : Ext w ((w.alloc (.cells #[.int .i64 c.frame, .int .i64 c.epoch, .slice pp c.plans.length cp, .slice pd c.doms.length cd] 26 (0, 0))).alloc (.cells #[.int .i64 c.frame, .int .i64 c.epoch, .int .i64 c.plans.length, .int .i64 c.doms.length] 3 (0, 0))) := (by repeat (first | exact Ext.refl _ | assumption | refine Ext.more ?_ _ | refine Ext.drew ?_ | refine Ext.drewN ?_ _ | refine Ext.alloc ?_ _ | refine Ext.setCell ?_ (by simp; try omega) _ | refine Ext.trans ?_ (by assumption)))
  have K1 := hid (And.intro ((hE2.below.mono (by have := HX.out.2; have := HW.out; omega)).trans hb) ((Kw.of_ext hE2).trans hk))
  clear hb hw hk hE2 X1 H0
  rw [← HP.out.1] at H1
  have hbox := H1.out.box
  have k2 := blk_cell hbox 2
  simp only [List.getElem?_toArray, List.getElem?_cons_zero, List.getElem?_cons_succ] at k2
  clear hbox
  go_wp2_with fail
  clear k2
  go_loopw [24] (fun v24 wr => ∃ k : Nat, v24 = .int .i64 k ∧ k ≤ c.plans.length ∧ Hid (Wrs base b w.heap.size (.cells #[.int .i64 c.frame, .int .i64 c.epoch, .slice pp c.plans.length cp, .slice pd c.doms.length cd] 26 (0, 0)) (pre ++ P1 ++ (c.plans.take k).flatMap (fun p => p.flatMap numB)) W wr ∧ Below base w1 wr ∧ KW w1 wr)) (fun v24 _ => (c.plans.length - intOf v24).toNat)
  case atStart => exact ⟨0, rfl, by omega, by simpa using H1.out, Below.refl _ _, Kw.refl _ _ _⟩
  case round =>
    obtain ⟨k, rfl, hk, ht⟩ := hrel
    by_cases hlt : k < c.plans.length
    · obtain ⟨rb, ro, rfl, rv, r0, rn⟩ := HC.out.plans.at k hlt
      obtain ⟨rp, rc, rfl, hrr1, hrr2⟩ := rn.shape
      unfold maxLen at hrr2
      simp only [Nat.mul_one] at r0
      have RN := hid rn
      have e0 := ht.out.1.ext.cell r0
      have hrb : rb < wr.heap.size := World.block_lt_of_cell? _ _ e0
      have hT : Hid ((c.plans.take (k + 1)).flatMap (fun p => p.flatMap numB) = (c.plans.take k).flatMap (fun p => p.flatMap numB) ++ c.plans[k].flatMap numB) := by
        unfold Hid
        rw [List.take_succ_eq_append_getElem hlt, List.flatMap_append, List.flatMap_singleton]
      have hTL := hid (flat_take_len (fun p : List Int => p.flatMap numB) c.plans k)
      have hRl : Hid (c.plans[k].length ≤ 6) := by unfold Hid; rw [(HI.out.plan _ (List.getElem_mem hlt)).1]; exact HI.out.doms
      have i1 : (k : Int) < c.plans.length := by omega
      clear r0 rn
      generalize c.plans[k] = row at *
      have HB2 : Hid ((pre ++ P1 ++ (c.plans.take k).flatMap (fun p => p.flatMap numB)).length ≤ 100000) := by
        unfold Hid
        simp only [List.length_append]
        have h1 := hTL.out
        rw [← HP.out.2.1] at h1
        have := HL.out
        omega
      go_wp2_with fail
      refine (put_old HW.out ht.out.1.ext RN.out ht.out.1.wr (by have := HB2.out; have := hRl.out; omega)).mono ?_
      rintro e w5 ⟨rfl, hb, hw, hkk⟩
      have H5 := hid (ht.out.1.step HW.out hb hw hkk (by decide) (by decide))
      have K5 := hid (And.intro (ht.out.2.1.trans hb) (ht.out.2.2.trans hkk))
      clear hb hw hkk
      go_wp2_with fail
      go_roundw
      case rel => exact ⟨k + 1, by go_num, by omega, by unfold Hid; rw [hT.out]; have := H5.out; simp only [List.append_assoc] at this ⊢; exact ⟨this, K5.out.1, K5.out.2⟩⟩
      case measure => simp [intOf]; omega
    · obtain rfl : k = c.plans.length := by omega
      have hf := ht.out
      rw [List.take_length, ← HP.out.2.1] at hf
      have H4 := hid hf.1
      have K4 := hid (And.intro (K1.out.1.trans hf.2.1) (K1.out.2.trans hf.2.2))
      clear hf ht H1 K1
      have hbox := H4.out.box
      have k2 := blk_cell hbox 3
      simp only [List.getElem?_toArray, List.getElem?_cons_zero, List.getElem?_cons_succ] at k2
      clear hbox
      go_wp2_with fail
      clear k2
      have w4e : ∃ w4, w4 = wr := ⟨_, rfl⟩
      obtain ⟨w4, hw4⟩ := w4e
      have S4 : Hid (Below base w4 wr ∧ KW w4 wr) := by rw [hw4]; exact ⟨Below.refl _ _, Kw.refl _ _ _⟩
      rw [← hw4] at K4
      clear hw4
      go_loopw [35] (fun v35 wr => ∃ k : Nat, v35 = .int .i64 k ∧ k ≤ c.doms.length ∧ Hid (Wrs base b w.heap.size (.cells #[.int .i64 c.frame, .int .i64 c.epoch, .slice pp c.plans.length cp, .slice pd c.doms.length cd] 26 (0, 0)) (pre ++ P1 ++ P2 ++ (c.doms.take k).flatMap domBytes) W wr ∧ Below base w4 wr ∧ KW w4 wr)) (fun v35 _ => (c.doms.length - intOf v35).toNat)
      case atStart => exact ⟨0, rfl, by omega, by simpa using H4.out, S4.out.1, S4.out.2⟩
      case round =>
        clear hlt H4 S4 hk
        obtain ⟨k, rfl, hk, ht⟩ := hrel
        by_cases hlt : k < c.doms.length
        · obtain ⟨db, doff, rfl, vr, ve, D, DR, DE, hU⟩ := HC.out.doms.at k hlt
          obtain ⟨rp, rc, rfl, -, -⟩ := DR.shape
          obtain ⟨ep, ec, rfl, -, -⟩ := DE.shape
          have HDR := hid DR
          have HDE := hid DE
          obtain ⟨d0, d1, d2, d3, d4, d5, d6, d7, d8, d9⟩ := D.ext ht.out.1.ext
          have hdb : db < wr.heap.size := World.block_lt_of_cell? _ _ d0
          have hT : Hid ((c.doms.take (k + 1)).flatMap domBytes = (c.doms.take k).flatMap domBytes ++ domBytes c.doms[k]) := by
            unfold Hid
            rw [List.take_succ_eq_append_getElem hlt, List.flatMap_append, List.flatMap_singleton]
          have hTL := hid (flat_take_len domBytes c.doms (k + 1))
          have HDI := hid (HI.out.dom _ (List.getElem_mem hlt))
          have i1 : (k : Int) < c.doms.length := by omega
          clear D DR DE hU
          generalize c.doms[k] = d at *
          have HB2 : Hid ((pre ++ P1 ++ P2 ++ (c.doms.take k).flatMap domBytes).length + (domBytes d).length ≤ 100000) := by
            unfold Hid
            simp only [List.length_append]
            have h1 := hTL.out
            rw [hT.out, ← HP.out.2.2, List.length_append] at h1
            have := HL.out
            omega
          have X5 := hid (ht.out.1.more HW.out (Ext.alloc (Ext.refl wr) (domO d (.slice rp d.routes.length rc) (.slice ep d.release.length ec))))
          go_wp2_with fail
          refine (putDomain_any base b _ d _ _ W _ HW.out X5.out.ext HDR.out HDE.out HDI.out X5.out.wr HB2.out).mono ?_
          rintro e w5 ⟨rfl, hb, hw, hkk⟩
          have H5 := hid (X5.out.step HW.out hb hw hkk (by decide) (by decide))
          have K5 := hid (And.intro ((ht.out.2.1.alloc (by have := HX.out.2; have := HW.out; have := ht.out.1.ext.size; omega) _).trans hb) ((ht.out.2.2.trans (Kw.of_ext (Ext.alloc (Ext.refl wr) _))).trans hkk))
          clear hb hw hkk X5 d0 d1 d2 d3 d4 d5 d6 d7 d8 d9
          go_wp2_with fail
          go_roundw
          case rel => exact ⟨k + 1, by go_num, by omega, by unfold Hid; rw [hT.out]; have := H5.out; simp only [List.append_assoc] at this ⊢; exact ⟨this, K5.out.1, K5.out.2⟩⟩
          case measure => simp [intOf]; omega
        · obtain rfl : k = c.doms.length := by omega
          have hf := ht.out
          rw [List.take_length, ← HP.out.2.2] at hf
          have HF := hid hf
          clear hf ht
          go_wp2
          go_returns
          exact ⟨rfl, K4.out.1.trans HF.out.2.1, by simpa only [List.append_assoc] using HF.out.1.wr, K4.out.2.trans HF.out.2.2⟩
end Go.Proofs.YtmpgeabfogcblaaGreat

namespace Go.Proofs.YtmpgeabfogcblaaGreat
open Go.RowKit

theorem allBytes_eq (s : Scr) : allBytes s = ((confBytes s.conf ++ numB s.horizon) ++ s.streams.flatMap streamBytes) ++ s.arrivals.flatMap arrBytes := rfl
theorem axnBytes_eq (x : Axn) : axnBytes x = [x.op, x.a, x.b].flatMap numB := by simp [axnBytes]
theorem arvBytes_eq (x : Arv) : arvBytes x = [x.tick, x.obj].flatMap numB := by simp [arvBytes]
theorem streamBytes_eq (l : List Axn) : streamBytes l = numB l.length ++ l.flatMap axnBytes := rfl
theorem arrBytes_eq (l : List Arv) : arrBytes l = numB l.length ++ l.flatMap arvBytes := rfl

set_option maxRecDepth 100000 in
set_option maxHeartbeats 2000000 in
theorem scrBytes_no (w : World) (s : Scr) (pv dv sv av : Value) (hc : ScrV w s pv dv sv av) (hn : isScr s ≠ 0) :
    Calls Tryz.prog 10 #[scrV s pv dv sv av] w (Yields w (.string (str []))) := by
  have hI := scrIs_any w s pv dv sv av hc
  rw [errV_pos hn] at hI
  have HC := hid hc
  have HN := hid (errV_pos hn)
  clear hc hn hI
  have hne := fun v w => run_neq_iface_nil (P := Tryz.prog) w 39 v Tryz.underlying32
  go_enter Tryz.func10, Tryz.ntmps10
  go_wp2_with (go_at_call 11; refine (scrIs_any _ s _ _ _ _ (HC.out.ext (by repeat (first | exact Ext.refl _ | assumption | refine Ext.more ?_ _ | refine Ext.drew ?_ | refine Ext.drewN ?_ _ | refine Ext.alloc ?_ _ | refine Ext.setCell ?_ (by simp; try omega) _ | refine Ext.trans ?_ (by assumption))))).yields ?_; rw [HN.out]; intro p1)
  go_returns
  exact ⟨by simp [str_nil], (by repeat (first | exact Ext.refl _ | assumption | refine Ext.more ?_ _ | refine Ext.drew ?_ | refine Ext.drewN ?_ _ | refine Ext.alloc ?_ _ | refine Ext.setCell ?_ (by simp; try omega) _ | refine Ext.trans ?_ (by assumption)))⟩

set_option maxRecDepth 100000 in
set_option maxHeartbeats 8000000 in
theorem scrBytes_yes (w : World) (s : Scr) (pv dv sv av : Value) (hc : ScrV w s pv dv sv av) (hn : isScr s = 0) (hi : CnfIn s.conf) (hl : (allBytes s).length ≤ 80000) :
    Calls Tryz.prog 10 #[scrV s pv dv sv av] w (Yields w (.string (str (allBytes s)))) := by
  obtain ⟨pp, cp, rfl, -, -⟩ := hc.conf.plans.shape
  obtain ⟨pd, cd, rfl, -, -⟩ := hc.conf.doms.shape
  obtain ⟨ps, cs, rfl, hs1, hs2⟩ := hc.streams.shape
  obtain ⟨pa, ca, rfl, ha1, ha2⟩ := hc.arrivals.shape
  unfold maxLen at hs2 ha2
  have hI := scrIs_any w s _ _ _ _ hc
  rw [hn, errV_0] at hI
  have hp := isScr_parts hn
  have HSL : Hid ((∀ l ∈ s.streams, l.length ≤ 400) ∧ ∀ l ∈ s.arrivals, l.length ≤ 100) := ⟨fun l hl => by
    have := hp.2.2.2.2.1 l hl
    simp only [streamB, Bool.and_eq_true, decide_eq_true_eq] at this
    exact this.2, hp.2.2.2.2.2.1⟩
  rw [allBytes_eq] at hl ⊢
  obtain ⟨P1, p1⟩ : ∃ P, P = confBytes s.conf := ⟨_, rfl⟩
  obtain ⟨P2, p2⟩ : ∃ P, P = numB s.horizon := ⟨_, rfl⟩
  obtain ⟨P3, p3⟩ : ∃ P, P = s.streams.flatMap streamBytes := ⟨_, rfl⟩
  obtain ⟨P4, p4⟩ : ∃ P, P = s.arrivals.flatMap arrBytes := ⟨_, rfl⟩
  rw [← p1, ← p2, ← p3, ← p4] at hl ⊢
  simp only [List.length_append] at hl
  have HP := hid (And.intro p1 (And.intro p2 (And.intro p3 p4)))
  have HL := hid hl
  have HC := hid hc
  have HI := hid hi
  have HN := hid (show errV (isScr s) = .nilIface by rw [hn, errV_0])
  clear p1 p2 p3 p4 hl hc hi hn hI hp
  have hnn := fun w => run_neq_nil_nil' (P := Tryz.prog) w Tryz.underlying32
  go_enter Tryz.func10, Tryz.ntmps10
  go_wp2_with (go_at_call 11; refine (scrIs_any _ s _ _ _ _ (HC.out.ext (by repeat (first | exact Ext.refl _ | assumption | refine Ext.more ?_ _ | refine Ext.drew ?_ | refine Ext.drewN ?_ _ | refine Ext.alloc ?_ _ | refine Ext.setCell ?_ (by simp; try omega) _ | refine Ext.trans ?_ (by assumption))))).yields ?_; rw [HN.out]; intro p1)
  have hxW : Ext w (more (w.alloc (.cells #[.int .i64 s.conf.frame, .int .i64 s.conf.epoch, .slice pp s.conf.plans.length cp, .slice pd s.conf.doms.length cd, .int .i64 s.horizon, .slice ps s.streams.length cs, .slice pa s.arrivals.length ca] 30 (0, 0))) p1) := (by repeat (first | exact Ext.refl _ | assumption | refine Ext.more ?_ _ | refine Ext.drew ?_ | refine Ext.drewN ?_ _ | refine Ext.alloc ?_ _ | refine Ext.setCell ?_ (by simp; try omega) _ | refine Ext.trans ?_ (by assumption)))
  have hbW : (more (w.alloc (.cells #[.int .i64 s.conf.frame, .int .i64 s.conf.epoch, .slice pp s.conf.plans.length cp, .slice pd s.conf.doms.length cd, .int .i64 s.horizon, .slice ps s.streams.length cs, .slice pa s.arrivals.length ca] 30 (0, 0))) p1).heap[w.heap.size]? = some (.cells #[.int .i64 s.conf.frame, .int .i64 s.conf.epoch, .slice pp s.conf.plans.length cp, .slice pd s.conf.doms.length cd, .int .i64 s.horizon, .slice ps s.streams.length cs, .slice pa s.arrivals.length ca] 30 (0, 0)) := block_ext (ext_more _ _) (heap_alloc_new w _)
  refine calls_forget (fun v => Ext w v ∧ v.heap[w.heap.size]? = some (.cells #[.int .i64 s.conf.frame, .int .i64 s.conf.epoch, .slice pp s.conf.plans.length cp, .slice pd s.conf.doms.length cd, .int .i64 s.horizon, .slice ps s.streams.length cs, .slice pa s.arrivals.length ca] 30 (0, 0))) ⟨hxW, hbW⟩ ?_
  clear hxW hbW
  clear p1
  rintro W ⟨hxW, hbW⟩
  have HXW := hid hxW
  have HCW := hid (HC.out.ext hxW)
  refine (new_any W).mono ?_
  rintro e w0 ⟨rfl, rfl⟩
  have H0 : Hid (Wrs W.heap.size W.heap.size w.heap.size (.cells #[.int .i64 s.conf.frame, .int .i64 s.conf.epoch, .slice pp s.conf.plans.length cp, .slice pd s.conf.doms.length cd, .int .i64 s.horizon, .slice ps s.streams.length cs, .slice pa s.arrivals.length ca] 30 (0, 0)) [] W (W.alloc (.cells #[.slice none 0 0] 117 (0, 0)))) :=
    ⟨Wr.new W, Ext.alloc (Ext.refl _) _, (Ext.alloc (Ext.refl W) _).below, block_ext (Ext.alloc (Ext.refl _) _) hbW⟩
  clear hbW hxW HC
  generalize W.alloc (.cells #[.slice none 0 0] 117 (0, 0)) = w0 at *
  obtain ⟨base, hbase⟩ : ∃ n, n = W.heap.size := ⟨_, rfl⟩
  have HW : Hid (W.heap.size = base) := hbase.symm
  rw [← hbase] at H0 ⊢
  clear hbase
  obtain ⟨bx, hbx⟩ : ∃ bx : Array Value, bx = #[.int .i64 s.conf.frame, .int .i64 s.conf.epoch, .slice pp s.conf.plans.length cp, .slice pd s.conf.doms.length cd, .int .i64 s.horizon, .slice ps s.streams.length cs, .slice pa s.arrivals.length ca] := ⟨_, rfl⟩
  rw [← hbx] at H0
  have HBX := hid hbx
  have hbox := H0.out.box
  rw [hbx] at hbox
  clear hbx
  have k0 := blk_cell hbox 0
  have k1 := blk_cell hbox 1
  have k2 := blk_cell hbox 2
  have k3 := blk_cell hbox 3
  simp only [List.getElem?_toArray, List.getElem?_cons_zero, List.getElem?_cons_succ] at k0 k1 k2 k3
  clear hbox
  go_wp2_with fail
  refine (putConf_any base base [] s.conf _ _ W _ HW.out H0.out.ext HCW.out.conf HI.out H0.out.wr (by rw [← HP.out.1]; simp only [List.length_nil]; have := HL.out; omega)).mono ?_
  rintro e w1 ⟨rfl, hb, hw, hk⟩
  rw [List.nil_append, ← HP.out.1] at hw
  have H1 := hid (H0.out.step HW.out hb hw hk (by decide) (by decide))
  clear hb hw hk k0 k1 k2 k3 H0
  have k4 := blk_cell H1.out.box 4
  rw [HBX.out] at k4
  simp only [List.getElem?_toArray, List.getElem?_cons_zero, List.getElem?_cons_succ] at k4
  go_wp2_with fail
  refine (wnum_w s.horizon H1.out.wr (by have := HL.out; omega)).mono ?_
  rintro e w2 ⟨rfl, hb, hw, hk⟩
  rw [← HP.out.2.1] at hw
  have H2 := hid (H1.out.step HW.out hb hw hk (by decide) (by decide))
  clear hb hw hk k4 H1
  have k5 := blk_cell H2.out.box 5
  rw [HBX.out] at k5
  simp only [List.getElem?_toArray, List.getElem?_cons_zero, List.getElem?_cons_succ] at k5
  go_wp2_with fail
  clear k5
  go_loopw [27] (fun vo wr => ∃ k : Nat, vo = .int .i64 k ∧ k ≤ s.streams.length ∧ Hid (Wrs base base w.heap.size (.cells bx 30 (0, 0)) (P1 ++ P2 ++ (s.streams.take k).flatMap streamBytes) W wr)) (fun vo _ => (s.streams.length - intOf vo).toNat)
  case atStart => exact ⟨0, rfl, by omega, by unfold Hid; simpa using H2.out⟩
  case round =>
    obtain ⟨k, rfl, hk, ht⟩ := hrel
    by_cases hlt : k < s.streams.length
    · obtain ⟨rb, ro, rfl, rv, r0, rn⟩ := HCW.out.streams.at k hlt
      obtain ⟨rp, rc, rfl, hrr1, hrr2⟩ := rn.shape
      unfold maxLen at hrr2
      simp only [Nat.mul_one] at r0
      have RN := hid rn
      have e0 := ht.out.ext.cell r0
      have hrb : rb < wr.heap.size := World.block_lt_of_cell? _ _ e0
      have hT : Hid ((s.streams.take (k + 1)).flatMap streamBytes = (s.streams.take k).flatMap streamBytes ++ streamBytes s.streams[k]) := by
        unfold Hid
        rw [List.take_succ_eq_append_getElem hlt, List.flatMap_append, List.flatMap_singleton]
      have hTL := hid (flat_take_len streamBytes s.streams (k + 1))
      have hRl : Hid (s.streams[k].length ≤ 400) := HSL.out.1 _ (List.getElem_mem hlt)
      have i1 : (k : Int) < s.streams.length := by omega
      clear r0 rn
      generalize s.streams[k] = row at *
      have HB2 : Hid ((P1 ++ P2 ++ (s.streams.take k).flatMap streamBytes).length + (numB (row.length : Int)).length + (row.flatMap axnBytes).length ≤ 80000) := by
        unfold Hid
        simp only [List.length_append]
        have h1 := hTL.out
        rw [hT.out, ← HP.out.2.2.1, List.length_append, streamBytes_eq, List.length_append] at h1
        have := HL.out
        omega
      go_wp2_with fail
      refine (wnum_w row.length ht.out.wr (by have := HB2.out; omega)).mono ?_
      rintro e w4 ⟨rfl, hb, hw, hkk⟩
      have H4 := hid (ht.out.step HW.out hb hw hkk (by decide) (by decide))
      clear hb hw hkk
      go_wp2_with fail
      go_loopw [37] (fun vi wr => ∃ j : Nat, vi = .int .i64 j ∧ j ≤ row.length ∧ Hid (Wrs base base w.heap.size (.cells bx 30 (0, 0)) (P1 ++ P2 ++ (s.streams.take k).flatMap streamBytes ++ numB row.length ++ (row.take j).flatMap axnBytes) W wr)) (fun vi _ => (row.length - intOf vi).toNat)
      case atStart => exact ⟨0, rfl, by omega, by unfold Hid; simpa using H4.out⟩
      case round =>
        clear H4 e0 hrb
        obtain ⟨j, rfl, hj, ht'⟩ := hrel
        by_cases hjl : j < row.length
        · obtain ⟨eb, eo, rfl, s0, s1, s2⟩ := RN.out.at j hjl
          have f0 := ht'.out.ext.cell s0
          have f1 := ht'.out.ext.cell s1
          have f2 := ht'.out.ext.cell s2
          have heb : eb < wr.heap.size := World.block_lt_of_cell? _ _ f0
          have hTj : Hid ((row.take (j + 1)).flatMap axnBytes = (row.take j).flatMap axnBytes ++ axnBytes row[j]) := by
            unfold Hid
            rw [List.take_succ_eq_append_getElem hjl, List.flatMap_append, List.flatMap_singleton]
          have hTLj := hid (flat_take_len axnBytes row j)
          have i2 : (j : Int) < row.length := by omega
          clear s0 s1 s2
          generalize row[j] = x at *
          have HB3 : Hid ((P1 ++ P2 ++ (s.streams.take k).flatMap streamBytes ++ numB row.length ++ (row.take j).flatMap axnBytes).length ≤ 80000) := by
            unfold Hid
            rw [List.length_append, List.length_append]
            have h1 := hTLj.out
            have := HB2.out
            omega
          have X5 := hid ((ht'.out.more HW.out (Ext.alloc (Ext.refl wr) (.cells #[.int .i64 x.op, .int .i64 x.a, .int .i64 x.b] 43 (0, 0)))).more HW.out (Ext.alloc (Ext.refl _) (.cells #[.int .i64 x.op, .int .i64 x.a, .int .i64 x.b] 3 (0, 0))))
          go_wp2_with fail
          refine (put_new (l := [x.op, x.a, x.b]) (by have := heap_alloc_new (wr.alloc (.cells #[.int .i64 x.op, .int .i64 x.a, .int .i64 x.b] 43 (0, 0))) (.cells #[.int .i64 x.op, .int .i64 x.a, .int .i64 x.b] 3 (0, 0)); rw [World.size_alloc] at this; exact this) rfl X5.out.wr (by have := HB3.out; simp only [List.length_cons, List.length_nil]; omega)).mono ?_
          rintro e w5 ⟨rfl, hb, hw, hkk⟩
          have H5 := hid (X5.out.step HW.out hb hw hkk (by decide) (by decide))
          clear hb hw hkk X5 f0 f1 f2
          go_wp2_with fail
          go_roundw
          case rel => exact ⟨j + 1, by go_num, by omega, by unfold Hid; rw [hTj.out, axnBytes_eq]; have := H5.out; simp only [List.append_assoc] at this ⊢; exact this⟩
          case measure => simp [intOf]; omega
        · obtain rfl : j = row.length := by omega
          have hf := ht'.out
          rw [List.take_length] at hf
          have H6 := hid hf
          clear hf ht'
          go_wp2_with fail
          go_roundw
          case rel => exact ⟨k + 1, by go_num, by omega, by unfold Hid; rw [hT.out, streamBytes_eq]; have := H6.out; simp only [List.append_assoc] at this ⊢; exact this⟩
          case measure => simp [intOf]; omega
    · obtain rfl : k = s.streams.length := by omega
      have hf := ht.out
      rw [List.take_length, ← HP.out.2.2.1] at hf
      have H3 := hid hf
      clear hf ht
      have k6 := blk_cell H3.out.box 6
      rw [HBX.out] at k6
      simp only [List.getElem?_toArray, List.getElem?_cons_zero, List.getElem?_cons_succ] at k6
      go_wp2_with fail
      clear k6 hlt hk
      go_loopw [55] (fun vo wr => ∃ k : Nat, vo = .int .i64 k ∧ k ≤ s.arrivals.length ∧ Hid (Wrs base base w.heap.size (.cells bx 30 (0, 0)) (P1 ++ P2 ++ P3 ++ (s.arrivals.take k).flatMap arrBytes) W wr)) (fun vo _ => (s.arrivals.length - intOf vo).toNat)
      case atStart => exact ⟨0, rfl, by omega, by unfold Hid; simpa using H3.out⟩
      case round =>
        clear H3
        obtain ⟨k, rfl, hk, ht⟩ := hrel
        by_cases hlt : k < s.arrivals.length
        · obtain ⟨rb, ro, rfl, rv, r0, rn⟩ := HCW.out.arrivals.at k hlt
          obtain ⟨rp, rc, rfl, hrr1, hrr2⟩ := rn.shape
          unfold maxLen at hrr2
          simp only [Nat.mul_one] at r0
          have RN := hid rn
          have e0 := ht.out.ext.cell r0
          have hrb : rb < wr.heap.size := World.block_lt_of_cell? _ _ e0
          have hT : Hid ((s.arrivals.take (k + 1)).flatMap arrBytes = (s.arrivals.take k).flatMap arrBytes ++ arrBytes s.arrivals[k]) := by
            unfold Hid
            rw [List.take_succ_eq_append_getElem hlt, List.flatMap_append, List.flatMap_singleton]
          have hTL := hid (flat_take_len arrBytes s.arrivals (k + 1))
          have hRl : Hid (s.arrivals[k].length ≤ 100) := HSL.out.2 _ (List.getElem_mem hlt)
          have i1 : (k : Int) < s.arrivals.length := by omega
          clear r0 rn
          generalize s.arrivals[k] = row at *
          have HB2 : Hid ((P1 ++ P2 ++ P3 ++ (s.arrivals.take k).flatMap arrBytes).length + (numB (row.length : Int)).length + (row.flatMap arvBytes).length ≤ 80000) := by
            unfold Hid
            simp only [List.length_append]
            have h1 := hTL.out
            rw [hT.out, ← HP.out.2.2.2, List.length_append, arrBytes_eq, List.length_append] at h1
            have := HL.out
            omega
          go_wp2_with fail
          refine (wnum_w row.length ht.out.wr (by have := HB2.out; omega)).mono ?_
          rintro e w4 ⟨rfl, hb, hw, hkk⟩
          have H4 := hid (ht.out.step HW.out hb hw hkk (by decide) (by decide))
          clear hb hw hkk
          go_wp2_with fail
          go_loopw [65] (fun vi wr => ∃ j : Nat, vi = .int .i64 j ∧ j ≤ row.length ∧ Hid (Wrs base base w.heap.size (.cells bx 30 (0, 0)) (P1 ++ P2 ++ P3 ++ (s.arrivals.take k).flatMap arrBytes ++ numB row.length ++ (row.take j).flatMap arvBytes) W wr)) (fun vi _ => (row.length - intOf vi).toNat)
          case atStart => exact ⟨0, rfl, by omega, by unfold Hid; simpa using H4.out⟩
          case round =>
            clear H4 e0 hrb
            obtain ⟨j, rfl, hj, ht'⟩ := hrel
            by_cases hjl : j < row.length
            · obtain ⟨eb, eo, rfl, s0, s1⟩ := RN.out.at j hjl
              have f0 := ht'.out.ext.cell s0
              have f1 := ht'.out.ext.cell s1
              have heb : eb < wr.heap.size := World.block_lt_of_cell? _ _ f0
              have hTj : Hid ((row.take (j + 1)).flatMap arvBytes = (row.take j).flatMap arvBytes ++ arvBytes row[j]) := by
                unfold Hid
                rw [List.take_succ_eq_append_getElem hjl, List.flatMap_append, List.flatMap_singleton]
              have hTLj := hid (flat_take_len arvBytes row j)
              have i2 : (j : Int) < row.length := by omega
              clear s0 s1
              generalize row[j] = x at *
              have HB3 : Hid ((P1 ++ P2 ++ P3 ++ (s.arrivals.take k).flatMap arrBytes ++ numB row.length ++ (row.take j).flatMap arvBytes).length ≤ 80000) := by
                unfold Hid
                rw [List.length_append, List.length_append]
                have h1 := hTLj.out
                have := HB2.out
                omega
              have X5 := hid ((ht'.out.more HW.out (Ext.alloc (Ext.refl wr) (.cells #[.int .i64 x.tick, .int .i64 x.obj] 46 (0, 0)))).more HW.out (Ext.alloc (Ext.refl _) (.cells #[.int .i64 x.tick, .int .i64 x.obj] 3 (0, 0))))
              go_wp2_with fail
              refine (put_new (l := [x.tick, x.obj]) (by have := heap_alloc_new (wr.alloc (.cells #[.int .i64 x.tick, .int .i64 x.obj] 46 (0, 0))) (.cells #[.int .i64 x.tick, .int .i64 x.obj] 3 (0, 0)); rw [World.size_alloc] at this; exact this) rfl X5.out.wr (by have := HB3.out; simp only [List.length_cons, List.length_nil]; omega)).mono ?_
              rintro e w5 ⟨rfl, hb, hw, hkk⟩
              have H5 := hid (X5.out.step HW.out hb hw hkk (by decide) (by decide))
              clear hb hw hkk X5 f0 f1
              go_wp2_with fail
              go_roundw
              case rel => exact ⟨j + 1, by go_num, by omega, by unfold Hid; rw [hTj.out, arvBytes_eq]; have := H5.out; simp only [List.append_assoc] at this ⊢; exact this⟩
              case measure => simp [intOf]; omega
            · obtain rfl : j = row.length := by omega
              have hf := ht'.out
              rw [List.take_length] at hf
              have H6 := hid hf
              clear hf ht'
              go_wp2_with fail
              go_roundw
              case rel => exact ⟨k + 1, by go_num, by omega, by unfold Hid; rw [hT.out, arrBytes_eq]; have := H6.out; simp only [List.append_assoc] at this ⊢; exact this⟩
              case measure => simp [intOf]; omega
        · obtain rfl : k = s.arrivals.length := by omega
          have hf := ht.out
          rw [List.take_length, ← HP.out.2.2.2] at hf
          have H3 := hid hf
          clear hf ht
          go_wp2_with fail
          refine (wstr_any _ _ _ _ H3.out.wr).mono ?_
          rintro e w9 ⟨rfl, rfl⟩
          go_wp2_with fail
          go_returns
          exact ⟨by simp only [List.append_assoc]; rfl, HXW.out.trans H3.out.ext⟩

end Go.Proofs.YtmpgeabfogcblaaGreat
