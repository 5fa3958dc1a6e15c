/- What script's writing comes to: rows of numbers, a domain. -/
import Derived.Test.YtbllibgddiiboaaSb0
import Derived.Test.YtbllibgddiiboaaSc1
import Derived.Test.YtbllibgddiiboaaMath4c
import Derived.Test.YtbllibgddiiboaaRead
namespace Go.Proofs.Ytbllibgddiiboaa
open Go.RowKit

/-- What a call that writes comes to. -/
def Writes (base b : Nat) (l : List UInt8) (w : World) (e : Ending) (w' : World) : Prop := e = .returned (.tuple #[]) ∧ Below base w w' ∧ Wr base b l w' ∧ KW w w'
/-- A row of numbers, whatever they are. -/
def IntAt (w : World) (b off : Nat) (x : Int) : Prop := w.cell? ⟨b, off, none⟩ = some (.int .i64 x)
abbrev IntsV (w : World) (v : Value) (l : List Int) : Prop := Slc 1 IntAt w v l
theorem ints_of_nums {w : World} {v : Value} {l : List Int} (h : Nums .i64 w v l) : IntsV w v l := by
  obtain ⟨p, cap, h0, h1, h2, h3⟩ := h
  exact ⟨p, cap, h0, h1, h2, fun hp => by
    obtain ⟨b, off, e, h4⟩ := h3 hp
    exact ⟨b, off, e, fun i x hx => (h4 i x hx).1⟩⟩
theorem flat3 (l : List Int) : (l.flatMap numB).length ≤ 3 * l.length := by
  induction l with
  | nil => simp
  | cons x l ih =>
    have := numB_length x
    rw [List.flatMap_cons, List.length_append, List.length_cons]
    omega
set_option maxRecDepth 100000 in
set_option maxHeartbeats 2000000 in
/-- A row of numbers: v tells l, whatever the Writer does. -/
theorem put_any (base b : Nat) (pre : List UInt8) (v : Value) (l : List Int) (w : World) (h : Wr base b pre w) (hN : ∀ w', Below base w w' → KW w w' → IntsV w' v l) (hl : pre.length + 3 * l.length ≤ 900000) :
    Calls Try.prog 22 #[.pointer (some ⟨b, 0, none⟩), v] w (Writes base b (pre ++ l.flatMap numB) w) := by
  obtain ⟨p, cap, rfl, hc1, hc2⟩ := (hN w (Below.refl _ _) (Kw.refl _ _ _)).shape
  unfold maxLen at hc2
  have HN := hid hN
  have H := hid h
  clear h hN
  go_enter Try.func22, Try.ntmps22
  go_wp2
  go_loopw [8] (fun v8 wr => ∃ k : Nat, v8 = .int .i64 k ∧ k ≤ l.length ∧ Hid (Wr base b (pre ++ (l.take k).flatMap numB) wr ∧ Below base w wr ∧ KW w wr)) (fun v8 _ => (l.length - intOf v8).toNat)
  case atStart => exact ⟨0, rfl, by omega, by simpa using H.out, Below.refl _ _, Kw.refl _ _ _⟩
  case round =>
    obtain ⟨k, rfl, hk, ht⟩ := hrel
    by_cases hlt : k < l.length
    · obtain ⟨ba, oa, rfl, a0⟩ := (HN.out wr ht.out.2.1 ht.out.2.2).at k hlt
      simp only [Nat.mul_one, IntAt] at a0
      have hT : Hid ((l.take (k + 1)).flatMap numB = (l.take k).flatMap numB ++ numB l[k]) := by
        unfold Hid
        rw [List.take_succ_eq_append_getElem hlt, List.flatMap_append, List.flatMap_singleton]
      have h3 := flat3 (l.take k)
      rw [List.length_take, Nat.min_eq_left hk] at h3
      have H3 : Hid ((pre ++ (l.take k).flatMap numB).length ≤ 1000000) := by unfold Hid; rw [List.length_append]; omega
      clear h3
      generalize l[k] = x at *
      have i1 : (k : Int) < l.length := by omega
      go_wp2_with (go_at_call 21; refine (wnum_all _ _ _ _ _ ht.out.1 H3.out).mono ?_; rintro e w1 ⟨rfl, hb1, hw1, hk1⟩; have HF := hid (And.intro hw1 (And.intro (ht.out.2.1.trans hb1) (ht.out.2.2.trans hk1))); clear hb1 hw1 hk1)
      go_roundw
      case rel => exact ⟨k + 1, by go_num, by omega, by unfold Hid; rw [hT.out, ← List.append_assoc]; exact HF.out⟩
      case measure => simp [intOf]; omega
    · obtain rfl : k = l.length := by omega
      have hf := ht.out
      rw [List.take_length] at hf
      have HF := hid hf
      clear hf
      go_wp2
      go_returns
      exact ⟨rfl, HF.out.2.1, HF.out.1, HF.out.2.2⟩
theorem wnum_w {base b : Nat} {pre : List UInt8} (n : Int) {w : World} (h : Wr base b pre w) (hl : pre.length ≤ 900000) :
    Calls Try.prog 21 #[.pointer (some ⟨b, 0, none⟩), .int .i64 n] w (Writes base b (pre ++ numB n) w) := wnum_all base b pre n w h (by omega)
theorem wbits_w {base b : Nat} {pre : List UInt8} {n : Int} (hn : U64 n) {w : World} (h : Wr base b pre w) (hl : pre.length ≤ 900000) :
    Calls Try.prog 60 #[.pointer (some ⟨b, 0, none⟩), .int .u64 n] w (Writes base b (pre ++ bitsB n) w) := wbits_all base b pre n hn.1 hn.2 w h (by omega)
/-- A row in memory of the caller's. -/
theorem put_old {base b : Nat} {pre : List UInt8} {v : Value} {l : List Int} {W w : World} (hW : W.heap.size = base) (hx : Ext W w) (hN : Nums .i64 W v l) (h : Wr base b pre w) (hl : pre.length + 3 * l.length ≤ 900000) :
    Calls Try.prog 22 #[.pointer (some ⟨b, 0, none⟩), v] w (Writes base b (pre ++ l.flatMap numB) w) :=
  put_any base b pre v l w h (fun w' hb _ => ints_of_nums <| hN.ext ⟨by have := hx.below; rw [hW] at this ⊢; exact this.trans hb⟩) hl
/-- A row just made: each a number. -/
theorem put_new {base b g n : Nat} {pre : List UInt8} {l : List Int} {w : World} (hg : w.heap[g]? = some (.cells (l.map (fun x => Value.int .i64 x)).toArray 3 (0, 0))) (hn : l.length = n) (h : Wr base b pre w) (hl : pre.length + 3 * l.length ≤ 900000) :
    Calls Try.prog 22 #[.pointer (some ⟨b, 0, none⟩), .slice (some ⟨g, 0, none⟩) n n] w (Writes base b (pre ++ l.flatMap numB) w) := by
  subst hn
  refine put_any base b pre _ l w h (fun w' _ hk => ?_) hl
  have hg' := hk g _ _ hg (by decide) (by decide)
  refine ⟨_, _, rfl, Nat.le_refl _, by unfold maxLen; omega, fun _ => ⟨g, 0, rfl, fun i x hi => ?_⟩⟩
  unfold IntAt
  rw [blk_cell hg']
  simp [hi]
end Go.Proofs.Ytbllibgddiiboaa
