/- What the calls of package wire come to. -/
import Derived.Test.YtmpgeabfogcblaaGreatRows
import Derived.Test.YtmpgeabfogcblaaGreatStr
import Derived.Test.YtmpgeabfogcblaaGreatMath2
import Derived.WalkKit
import Derived.WalkSpells
import Derived.WalkLawsBesides
import Derived.OwnWalk
import Derived.Deep.QuietTactic
import Derived.Deep.RegionLaw
import Derived.BigQuiet
import Derived.Handy
namespace Go.Proofs.YtmpgeabfogcblaaGreat
open Go.RowKit

/-- A Writer at block b that has written these bytes; all that is its own lies from base on. -/
structure Wr (base b : Nat) (l : List UInt8) (w : World) : Prop where
  ge : base ≤ b
  ex : ∃ v, w.heap[b]? = some (.cells #[v] 117 (0, 0)) ∧ OwnB w base 5 v l

theorem Wr.lt {base b : Nat} {l : List UInt8} {w : World} (h : Wr base b l w) : b < w.heap.size := by
  obtain ⟨_, v, hb, _⟩ := h; exact lt_of_block hb
theorem Wr.keep {base b : Nat} {l : List UInt8} {w w' : World} (h : Wr base b l w) (k : Below w.heap.size w w') : Wr base b l w' := by
  obtain ⟨h1, v, hb, ho⟩ := h
  have hlt := lt_of_block hb
  refine ⟨h1, v, by rw [k.block b hlt]; exact hb, ho.1, ?_⟩
  rcases ho.2 with hn | ⟨g, cap, cur, e1, e2, e3, r⟩
  · exact .inl hn
  · exact .inr ⟨g, cap, cur, e1, e2, by rw [k.block g (lt_of_block e3)]; exact e3, r⟩

theorem Tryz.info5 : (Tryz.prog.info? 5).map (fun i => (i.zero, i.size, i.bytes)) = some (some (.int .u8 0), 1, 1) := by kernel_rfl

set_option maxHeartbeats 400000 in
theorem new_any (w : World) : Calls Tryz.prog 27 #[] w fun e w' => e = .returned (.pointer (some ⟨w.heap.size, 0, none⟩)) ∧ w' = w.alloc (.cells #[.slice none 0 0] 117 (0, 0)) := by
  go_enter Tryz.func27, Tryz.ntmps27
  go_wp2
  go_returns
  exact ⟨rfl, rfl⟩
theorem Wr.new (w : World) : Wr w.heap.size w.heap.size [] (w.alloc (.cells #[.slice none 0 0] 117 (0, 0))) :=
  ⟨Nat.le_refl _, _, heap_alloc_new w _, OwnB.nil _ _ _⟩

theorem alloc_block {w : World} {b : Nat} {o : Obj} (h : w.heap[b]? = some o) (o' : Obj) : (w.alloc o').heap[b]? = some o := by
  rw [Below.heap_alloc _ _ _ (lt_of_block h)]; exact h
theorem own_ne {w : World} {b base n T T' : Nat} {v u : Value} {xs : List Value} (hT : T' ≠ T) (h : w.heap[b]? = some (.cells #[u] T' (0, 0))) (ho : w.ownsRow base T 1 v n xs) : some b ≠ v.ownBlock := by
  rcases ho.2 with ⟨rfl, _⟩ | ⟨g, cap, cur, rfl, _, e3, _⟩
  · simp [Value.ownBlock]
  · simp only [Value.ownBlock]
    intro he
    cases he
    rw [h] at e3
    simp at e3
    exact hT e3.2

/-- x.f = append(x.f, c), c a byte, f the one field of x: behind the append. -/
theorem wp_put_byte {P : Program} {o : Oper} {a : Act} {w : World} {K : Act → World → Prop} {Q : Exit → Act → World → Prop} (s x : Operand) (t T T' : TypeId)
    (ho : o.op = .call { callee := .builtin .append, args := #[s, x], argTypes := #[t, t] }) (ht : P.underlying t = some (.slice T)) (hi : (P.info? T).map (fun i => (i.zero, i.size, i.bytes)) = some (some (.int .u8 0), 1, 1)) (hT : T' ≠ T)
    {base b : Nat} {l : List UInt8} {v : Value} {c : UInt8} {n : Int} (hb : base ≤ b) (hv : w.heap[b]? = some (.cells #[v] T' (0, 0))) (hown : OwnB w base T v l) (hlen : l.length ≤ 100000000000000) (hcn : (c.toNat : Int) = n)
    (hs : a.eval s = v) (hx : a.eval x = .slice (some ⟨w.heap.size, 0, none⟩) 1 1)
    (k : ∀ (p : Option Addr) (m cap : Nat) w1, w1.cell? ⟨b, 0, none⟩ = some v → w1.frozen? ⟨b, 0, none⟩ = false → Below base w w1 → (w1.setCell ⟨b, 0, none⟩ (.slice p m cap)).heap[b]? = some (.cells #[.slice p m cap] T' (0, 0)) → OwnB (w1.setCell ⟨b, 0, none⟩ (.slice p m cap)) base T (.slice p m cap) (l ++ [c]) → K (a.put o.dst (.slice p m cap)) w1) :
    o.wp P a (w.alloc (.cells #[.int .u8 n] T)) K Q := by
  obtain ⟨i0, hi, hz0, hz1, hz2⟩ := info_parts hi
  have hlt := lt_of_block hv
  refine wp_append_own _ s x t ho base T i0 (.int .u8 0) 1 1 ht hi hz0 hz1 hz2 rfl (by decide) v l.length (l.map bcell) hs (World.ownsRow.alloc hown _) ⟨w.heap.size, 0, none⟩ 1 1 [.int .u8 n] hx rfl ?_ ?_ ?_ ?_ ?_ ?_
  · intro j u hj
    match j, hj with
    | 0, hj => simp at hj; subst hj; simp [Addr.add]
  · intro u hu; simp at hu; subst hu; rfl
  · unfold maxLen; omega
  · omega
  · simp; omega
  · intro v' w1 ho' hg _
    have hv1 := alloc_block hv (.cells #[.int .u8 n] T)
    have hne := own_ne hT hv hown
    have hv2 : w1.heap[b]? = some (.cells #[v] T' (0, 0)) := by rw [hg.block b (lt_of_block hv1) hne]; exact hv1
    have hne' := own_ne hT hv2 ho'
    obtain ⟨p, m, cap, rfl⟩ : ∃ p m cap, v' = .slice p m cap := by
      rcases ho'.2 with ⟨rfl, _⟩ | ⟨g, cap, cur, rfl, _⟩
      · exact ⟨_, _, _, rfl⟩
      · exact ⟨_, _, _, rfl⟩
    refine k p m cap w1 (cell_of_one hv2) (free_of_one hv2) ?_ (one_setCell hv2) ?_
    · refine Below.grown (Below.alloc (Below.refl _ _) (by omega) _) hg (by simp; omega) fun k hk => ?_
      exact (hown.lt k hk).1
    · have := ownsRow_setCell_other ho' (a := ⟨b, 0, none⟩) (Ne.symm hne') (.slice p m cap)
      unfold OwnB
      subst hcn
      simpa [bcell] using this

theorem wpList_put_byte {P : Program} {ops : Array Oper} {rest : List Oper} {o : Oper} {a : Act} {w : World} {Q : Exit → Act → World → Prop} (hgd : o.guard = none) (s x : Operand) (t T T' : TypeId)
    (ho : o.op = .call { callee := .builtin .append, args := #[s, x], argTypes := #[t, t] }) (ht : P.underlying t = some (.slice T)) (hi : (P.info? T).map (fun i => (i.zero, i.size, i.bytes)) = some (some (.int .u8 0), 1, 1)) (hT : T' ≠ T)
    {base b : Nat} {l : List UInt8} {v : Value} {c : UInt8} {n : Int} (hb : base ≤ b) (hv : w.heap[b]? = some (.cells #[v] T' (0, 0))) (hown : OwnB w base T v l) (hlen : l.length ≤ 100000000000000) (hcn : (c.toNat : Int) = n)
    (hs : a.eval s = v) (hx : a.eval x = .slice (some ⟨w.heap.size, 0, none⟩) 1 1)
    (k : ∀ (p : Option Addr) (m cap : Nat) w1, w1.cell? ⟨b, 0, none⟩ = some v → w1.frozen? ⟨b, 0, none⟩ = false → Below base w w1 → (w1.setCell ⟨b, 0, none⟩ (.slice p m cap)).heap[b]? = some (.cells #[.slice p m cap] T' (0, 0)) → OwnB (w1.setCell ⟨b, 0, none⟩ (.slice p m cap)) base T (.slice p m cap) (l ++ [c]) → wpList P ops Q rest (a.put o.dst (.slice p m cap)) w1) :
    wpList P ops Q (o :: rest) a (w.alloc (.cells #[.int .u8 n] T)) :=
  wpList_plain hgd fun _ hK => wp_put_byte s x t T T' ho ht hi hT hb hv hown hlen hcn hs hx fun p m cap w1 h1 h2 h3 h4 h5 => hK _ _ (k p m cap w1 h1 h2 h3 h4 h5)

theorem step_put_byte {P : Program} {ops : Array Oper} {o : Oper} {a : Act} {w : World} {K : Act → World → Prop} {Q : Exit → Act → World → Prop} {E : Prop} {W : World} (hgd : o.guard = none) (s x : Operand) (t T T' : TypeId)
    (ho : o.op = .call { callee := .builtin .append, args := #[s, x], argTypes := #[t, t] }) (ht : P.underlying t = some (.slice T)) (hi : (P.info? T).map (fun i => (i.zero, i.size, i.bytes)) = some (some (.int .u8 0), 1, 1)) (hT : T' ≠ T)
    {base b : Nat} {l : List UInt8} {v : Value} {c : UInt8} {n : Int} (hb : base ≤ b) (hv : w.heap[b]? = some (.cells #[v] T' (0, 0))) (hown : OwnB w base T v l) (hlen : l.length ≤ 100000000000000) (hcn : (c.toNat : Int) = n)
    (hW : W = w.alloc (.cells #[.int .u8 n] T)) (hs : a.eval s = v) (hx : a.eval x = .slice (some ⟨w.heap.size, 0, none⟩) 1 1)
    (k : ∀ (p : Option Addr) (m cap : Nat) w1, w1.cell? ⟨b, 0, none⟩ = some v → w1.frozen? ⟨b, 0, none⟩ = false → Below base w w1 → (w1.setCell ⟨b, 0, none⟩ (.slice p m cap)).heap[b]? = some (.cells #[.slice p m cap] T' (0, 0)) → OwnB (w1.setCell ⟨b, 0, none⟩ (.slice p m cap)) base T (.slice p m cap) (l ++ [c]) → K (a.put o.dst (.slice p m cap)) w1) :
    if Region.wanted o (yielded ops a.tmps) = true then Oper.wp P o a W K Q else E := by
  subst hW
  have hw : Region.wanted o (yielded ops a.tmps) = true := by simp [Region.wanted, hgd]
  rw [if_pos hw]
  exact wp_put_byte s x t T T' ho ht hi hT hb hv hown hlen hcn hs hx k
set_option maxRecDepth 100000 in
set_option maxHeartbeats 1000000 in
theorem wnum_any (base b : Nat) (l : List UInt8) (n : Int) (w : World) (h : Wr base b l w) (hl : l.length ≤ 1000000) :
    Calls Tryz.prog 29 #[.pointer (some ⟨b, 0, none⟩), .int .i64 n] w fun e w' => e = .returned (.tuple #[]) ∧ Below base w w' ∧ Wr base b (l ++ numB n) w' := by
  have hbb := h.ge
  have hlt := h.lt
  have hh := heldN_le n
  go_enter Tryz.func29, Tryz.ntmps29
  refine wp_mid (fun a' wx => ∃ (u2 u3 u5 u6 u7 u8 u9 u10 u11 u12 u13 u14 u15 u16 u17 u18 u19 u20 u21 u22 u23 u24 u25 u26 u27 u28 u29 u30 u31 u32 u33 u34 u35 u36 : Value), a' = { tmps := #[.pointer (some ⟨b, 0, none⟩), .int .i64 n, u2, u3, .int .i64 (heldN n), u5, u6, u7, u8, u9, u10, u11, u12, u13, u14, u15, u16, u17, u18, u19, u20, u21, u22, u23, u24, u25, u26, u27, u28, u29, u30, u31, u32, u33, u34, u35, u36], defers := [] } ∧ wx = w) ?_ ?_
  · rcases (show n < -1 ∨ (-1 ≤ n ∧ n ≤ 1048576) ∨ 1048576 < n from by omega) with h1 | h1 | h1
    · have hv := heldN_low h1
      go_wp2
      all_goals (first | (intros; omega) | (refine ⟨rfl, _, _, _, _, _, _, _, _, _, _, _, _, _, _, _, _, _, _, _, _, _, _, _, _, _, _, _, _, _, _, _, _, _, _, ?_, rfl⟩; simp [hv] <;> omega))
    · have hv := heldN_in h1.1 h1.2
      go_wp2
      all_goals (first | (intros; omega) | (refine ⟨rfl, _, _, _, _, _, _, _, _, _, _, _, _, _, _, _, _, _, _, _, _, _, _, _, _, _, _, _, _, _, _, _, _, _, _, ?_, rfl⟩; simp [hv] <;> omega))
    · have hv := heldN_high h1
      go_wp2
      all_goals (first | (intros; omega) | (refine ⟨rfl, _, _, _, _, _, _, _, _, _, _, _, _, _, _, _, _, _, _, _, _, _, _, _, _, _, _, _, _, _, _, _, _, _, _, ?_, rfl⟩; simp [hv] <;> omega))
  · rintro _ w ⟨u2, u3, u5, u6, u7, u8, u9, u10, u11, u12, u13, u14, u15, u16, u17, u18, u19, u20, u21, u22, u23, u24, u25, u26, u27, u28, u29, u30, u31, u32, u33, u34, u35, u36, rfl, rfl⟩
    go_wp2
    go_loopw [4] (fun v wr => ∃ (r : Nat) (pre : List UInt8), v = .int .i64 r ∧ r ≤ 1048577 ∧ pre ++ encN r = numB n ∧ Wr base b (l ++ pre) wr ∧ Below base w wr) (fun v _ => (intOf v).toNat)
    case atStart => exact ⟨heldN n, [], rfl, hh, rfl, by simpa using h, Below.refl _ _⟩
    case round =>
      obtain ⟨r, pre, rfl, hr, hpre, ⟨_, v, hblk, hown⟩, hbel⟩ := hrel
      have hc := cell_of_one hblk
      have hf := free_of_one hblk
      have hsz := lt_of_block hblk
      have hpl := congrArg List.length hpre
      have hnl := numB_length n
      rw [List.length_append] at hpl
      by_cases hge : 128 ≤ r
      · have hq : encN r = _ := encN_ge hge
        have hH := hid (And.intro hq hpre)
        have hll : (l ++ pre).length ≤ 100000000000000 := by rw [List.length_append]; omega
        have hcn : ((UInt8.ofNat (128 + r % 128)).toNat : Int) = 128 + (r : Int) % 128 := by rw [UInt8.toNat_ofNat']; omega
        have hH2 := hid (And.intro hll hcn)
        clear hq hpre hll hcn hpl
        go_wp2_with (at_builtin; refine wpList_put_byte rfl (.tmp 15) (.tmp 20) 115 5 117 rfl Tryz.underlying115 Tryz.info5 (by decide) hbb hblk hown hH2.out.1 hH2.out.2 rfl rfl ?_; intro p m cap w1 hc1 hf1 hb1 hblk1 hown1)
        go_roundw
        case rel => exact ⟨r / 128, pre ++ [UInt8.ofNat (128 + r % 128)], by go_num, by omega, by rw [← hH.out.2, hH.out.1]; simp, ⟨hbb, _, hblk1, by simpa using hown1⟩, (hbel.trans hb1).setCell hbb _⟩
        case measure => simp [intOf]; omega
      · have hq : encN r = _ := encN_lt (show r < 128 by omega)
        have hH := hid (And.intro hq hpre)
        have hll : (l ++ pre).length ≤ 100000000000000 := by rw [List.length_append]; omega
        have hcn : ((UInt8.ofNat r).toNat : Int) = (r : Int) := by rw [UInt8.toNat_ofNat']; omega
        have hH2 := hid (And.intro hll hcn)
        clear hq hpre hll hcn hpl
        go_wp2_with (at_builtin; refine wpList_put_byte rfl (.tmp 30) (.tmp 33) 115 5 117 rfl Tryz.underlying115 Tryz.info5 (by decide) hbb hblk hown hH2.out.1 hH2.out.2 rfl rfl ?_; intro p m cap w1 hc1 hf1 hb1 hblk1 hown1)
        go_returns
        refine ⟨rfl, (hbel.trans hb1).setCell hbb _, hbb, _, hblk1, ?_⟩
        have e : l ++ numB n = l ++ pre ++ [UInt8.ofNat r] := by rw [← hH.out.2, hH.out.1]; simp
        rw [e]; exact hown1

set_option maxRecDepth 100000 in
set_option maxHeartbeats 1000000 in
theorem wbits_any (base b : Nat) (l : List UInt8) (n : Int) (hn : 0 ≤ n) (hn' : n < 18446744073709551616) (w : World) (h : Wr base b l w) (hl : l.length ≤ 1000000) :
    Calls Tryz.prog 87 #[.pointer (some ⟨b, 0, none⟩), .int .u64 n] w fun e w' => e = .returned (.tuple #[]) ∧ Below base w w' ∧ Wr base b (l ++ bitsB n) w' := by
  have hbb := h.ge
  have hlt := h.lt
  have HN := hid hn'
  clear hn'
  go_enter Tryz.func87, Tryz.ntmps87
  go_wp2
  go_loopw [5] (fun v wr => ∃ k : Nat, v = .int .i64 k ∧ k ≤ 8 ∧ Wr base b (l ++ leB k n.toNat) wr ∧ Below base w wr) (fun v _ => (8 - intOf v).toNat)
  case atStart => exact ⟨0, rfl, by omega, by simpa [leB] using h, Below.refl _ _⟩
  case round =>
    obtain ⟨k, rfl, hk, ⟨_, v, hblk, hown⟩, hbel⟩ := hrel
    have hc := cell_of_one hblk
    have hf := free_of_one hblk
    have hsz := lt_of_block hblk
    have hll : (l ++ leB k n.toNat).length ≤ 100000000000000 := by rw [List.length_append, leB_length]; omega
    have hlh := hid hll
    clear hll
    by_cases hlt : k < 8
    · go_wp2_with fail
      have hcn := hid (byte_shr hn k)
      have e1 : IntKind.i64.wrap (8 * (k : Int)) = 8 * (k : Int) := IntWalk.i64_in _ (by omega)
      have e2 : (0 : Int) ≤ 8 * (k : Int) := by omega
      have e3 : 8 * (k : Int) ≤ 64 := by omega
      have e4 : (8 * (k : Int)).toNat = 8 * k := by omega
      go_region_law (refine step_put_byte rfl (.tmp 12) (.tmp 18) 115 5 117 rfl Tryz.underlying115 Tryz.info5 (by decide) hbb hblk hown.drew hlh.out hcn.out (w := wr.drew) rfl (by simp [Act.eval]) (by simp [Act.eval]) ?_; intro p m cap w1 hc1 hf1 hb1 hblk1 hown1)
      all_goals
        clear e1 e2 e3 e4
        go_wp2
        go_roundw
        case rel => exact ⟨k + 1, by go_num, by omega, ⟨hbb, _, ‹_›, by rw [leB_snoc, ← List.append_assoc]; assumption⟩, (hbel.drew.trans hb1).setCell hbb _⟩
        case measure => simp [intOf]; omega
    · obtain rfl : k = 8 := by omega
      go_wp2
      go_returns
      exact ⟨rfl, hbel, hbb, _, hblk, hown⟩

set_option maxHeartbeats 400000 in
theorem wstr_any (base b : Nat) (l : List UInt8) (w : World) (h : Wr base b l w) :
    Calls Tryz.prog 31 #[.pointer (some ⟨b, 0, none⟩)] w fun e w' => e = .returned (.string (str l)) ∧ w' = w := by
  obtain ⟨_, v, hblk, hown⟩ := h
  have hc := cell_of_one hblk
  have hs := hown.ofBytes (P := Tryz.prog) (src := 115) (dst := 9) Tryz.underlying115 Tryz.underlying5 Tryz.underlying9
  go_enter Tryz.func31, Tryz.ntmps31
  go_wp2
  go_returns
  exact ⟨rfl, rfl⟩
end Go.Proofs.YtmpgeabfogcblaaGreat
