/- wire's examples, as every statement of its layer asks them first. -/
import Derived.Test.YtjldcchlnnfbgaaDoorWire
import Derived.Test.YtjldcchlnnfbgaaDoorRead2
import Derived.Test.YtjldcchlnnfbgaaDoorErr
namespace Go.Proofs.YtjldcchlnnfbgaaDoor
open Go.RowKit

theorem enc_m1 : numB (-1) = [0] := by
  have : heldN (-1) = 0 := by decide
  rw [numB, this, encN_lt (by omega)]; rfl
theorem enc_300 : numB 300 = [173, 2] := by
  have : heldN 300 = 301 := by decide
  rw [numB, this, encN_ge (by omega), encN_lt (by omega)]; rfl
theorem wnum_to (base b : Nat) (l l' : List UInt8) (n : Int) (w : World) (h : Wr base b l w) (hl : l.length ≤ 1000000) (e : l ++ numB n = l') :
    Calls Tryd.prog 6 #[.pointer (some ⟨b, 0, none⟩), .int .i64 n] w fun e w' => e = .returned (.tuple #[]) ∧ Below base w w' ∧ Wr base b l' w' := e ▸ wnum_any base b l n w h hl
theorem wbits_to (base b : Nat) (l l' : List UInt8) (n : Int) (hn : 0 ≤ n) (hn' : n < 18446744073709551616) (w : World) (h : Wr base b l w) (hl : l.length ≤ 1000000) (e : l ++ bitsB n = l') :
    Calls Tryd.prog 7 #[.pointer (some ⟨b, 0, none⟩), .int .u64 n] w fun e w' => e = .returned (.tuple #[]) ∧ Below base w w' ∧ Wr base b l' w' := e ▸ wbits_any base b l n hn hn' w h hl
theorem rnum_to (b : Nat) (r r' : Rd) (most x : Int) (w : World) (h : Rr b r w) (hlen : r.s.length ≤ 140737488355328) (e : r.num most = x) (e' : r.afterNum most = r') :
    Calls Tryd.prog 12 #[.pointer (some ⟨b, 0, none⟩), .int .i64 most] w fun e w' => e = .returned (.int .i64 x) ∧ Rr b r' w' ∧ Only b w w' := e ▸ e' ▸ rnum_any b r most w h hlen
theorem rbits_to (b : Nat) (r r' : Rd) (x : Int) (w : World) (h : Rr b r w) (hlen : r.s.length ≤ 140737488355328) (e : r.bits = x) (e' : r.afterBits = r') :
    Calls Tryd.prog 14 #[.pointer (some ⟨b, 0, none⟩)] w fun e w' => e = .returned (.int .u64 x) ∧ Rr b r' w' ∧ Only b w w' := e ▸ e' ▸ rbits_any b r w h hlen

set_option maxRecDepth 100000 in
set_option maxHeartbeats 2000000 in
theorem known_any (w : World) : Calls Tryd.prog 4 #[] w (Yields w (.bool true)) := by
  go_enter Tryd.func4, Tryd.ntmps4
  go_wp2_with fail
  refine (new_any _).mono ?_
  rintro e w0 ⟨rfl, rfl⟩
  have h0 := Wr.new w
  go_wp2_with fail
  refine (wnum_to _ _ _ [0] _ _ h0 (by simp) (by rw [enc_m1]; rfl)).mono ?_
  rintro e w1 ⟨rfl, b1, h1⟩
  go_wp2_with fail
  refine (wnum_to _ _ _ [0, 173, 2] _ _ h1 (by simp) (by rw [enc_300]; rfl)).mono ?_
  rintro e w2 ⟨rfl, b2, h2⟩
  go_wp2_with fail
  refine (wbits_to _ _ _ [0, 173, 2, 2, 1, 0, 0, 0, 0, 0, 0] _ (by omega) (by omega) _ h2 (by simp) (by rfl)).mono ?_
  rintro e w3 ⟨rfl, b3, h3⟩
  go_wp2_with fail
  refine (wstr_any _ _ _ _ h3).mono ?_
  rintro e w4 ⟨rfl, rfl⟩
  go_wp2_with fail
  refine (of_any _ _).mono ?_
  rintro e w5 ⟨rfl, rfl⟩
  have r5 := Rr.new [0, 173, 2, 2, 1, 0, 0, 0, 0, 0, 0] w4
  have k5 : Below w4.heap.size w4 (w4.alloc (.cells #[.string (str [0, 173, 2, 2, 1, 0, 0, 0, 0, 0, 0]), .nilIface] 54 (0, 0))) := (Below.refl _ _).alloc (Nat.le_refl _) _
  generalize w4.alloc (.cells #[.string (str [0, 173, 2, 2, 1, 0, 0, 0, 0, 0, 0]), .nilIface] 54 (0, 0)) = w5 at *
  go_wp2_with fail
  refine (rnum_to _ _ ⟨[173, 2, 2, 1, 0, 0, 0, 0, 0, 0], 0⟩ _ (-1) _ r5 (by simp) (by decide) (by rfl)).mono ?_
  rintro e w6 ⟨rfl, r6, o6⟩
  go_wp2_with fail
  refine (rnum_to _ _ ⟨[2, 1, 0, 0, 0, 0, 0, 0], 0⟩ _ 300 _ r6 (by simp) (by decide) (by rfl)).mono ?_
  rintro e w7 ⟨rfl, r7, o7⟩
  go_wp2_with fail
  refine (rbits_to _ _ ⟨[], 0⟩ 258 _ r7 (by simp) (by decide) (by rfl)).mono ?_
  rintro e w8 ⟨rfl, r8, o8⟩
  go_wp2_with fail
  refine (of_any [128, 0] _).mono ?_
  rintro e w9 ⟨rfl, rfl⟩
  have r9 := Rr.new [128, 0] w8
  have r9' : Rr w4.heap.size ⟨[], 0⟩ (w8.alloc (.cells #[.string (str [128, 0]), .nilIface] 54 (0, 0))) := by
    unfold Rr; rw [Below.heap_alloc _ _ _ (lt_of_block r8)]; exact r8
  have k8 := ((o6.trans o7).trans o8).below (base := w4.heap.size) (Nat.le_refl _) k5.size
  have s48 : w4.heap.size < w8.heap.size := lt_of_block r8
  have k9 : Below w4.heap.size w4 (w8.alloc (.cells #[.string (str [128, 0]), .nilIface] 54 (0, 0))) := (k5.trans k8).alloc (by omega) _
  generalize w8.alloc (.cells #[.string (str [128, 0]), .nilIface] 54 (0, 0)) = w9 at *
  go_wp2_with fail
  refine (rnum_to _ _ ⟨[128, 0], 10⟩ _ 0 _ r9 (by simp) (by decide) (by rfl)).mono ?_
  rintro e wa ⟨rfl, ra, oa⟩
  have rb : Rr w4.heap.size ⟨[], 0⟩ wa := oa.blk r9' (by omega)
  have ka : Below w4.heap.size w4 wa := k9.trans (oa.below (by omega) k9.size)
  have hw := h3.keep ka
  have hE : Ext w wa := ⟨((Below.refl w.heap.size w).alloc (Nat.le_refl _) _).trans (b1.trans (b2.trans (b3.trans (ka.mono (by have := h0.lt; have := b1.size; have := b2.size; have := b3.size; omega)))))⟩
  clear k9 k8 k5 oa o6 o7 o8 r9 r9' r8 r7 r6 r5 h0 h1 h2 h3 b1 b2 b3
  go_wp2_with fail
  refine (wstr_any _ _ _ _ hw).mono ?_
  rintro e wb ⟨rfl, rfl⟩
  go_wp2_with fail
  refine (left_any _ _ _ rb).mono ?_
  rintro e wb ⟨rfl, rfl⟩
  go_wp2_with fail
  refine (err_any _ _ _ rb).mono ?_
  rintro e wb ⟨rfl, rfl⟩
  rw [errV_0]
  go_wp2_with fail
  refine (err_any _ _ _ ra).mono ?_
  rintro e wb ⟨rfl, rfl⟩
  rw [errV_pos (by decide)]
  go_wp2_with fail
  refine (Err.is_errno 10 10 _).mono ?_
  rintro e wb ⟨rfl, hx⟩
  have rc : Rr w8.heap.size ⟨[128, 0], 10⟩ wb := by unfold Rr; rw [hx.below.block _ (lt_of_block ra)]; exact ra
  go_wp2_with fail
  refine (left_any _ _ _ rc).mono ?_
  rintro e wb ⟨rfl, rfl⟩
  go_wp2_with fail
  go_returns
  exact ⟨rfl, hE.trans hx⟩
end Go.Proofs.YtjldcchlnnfbgaaDoor
