/- What every statement of stage 12 asks first: known. -/
import Derived.Test.YtiejnochddjlmaaSpP
import Derived.Test.YtiejnochddjlmaaSI
import Derived.Test.YtiejnochddjlmaaRwL
namespace Go.Proofs.Ytiejnochddjlmaa
open Go.RowKit

theorem gap_to {d a b : Int} {l : List Int} {v : Value} {w : World} (h : Ints w v l) (hl : l.length ≤ 100) (e : gapL l d = (a, b)) : Calls Try.prog 9 #[v, .int .i64 d] w (Yields w (.tuple #[.int .i64 a, .int .i64 b])) := by
  have := gap_any h hl (d := d)
  rwa [e] at this
theorem lit2 {w : World} {g : Nat} (a b : Int) (hg : g = w.heap.size) : Ints (w.alloc (.cells #[.int .i64 a, .int .i64 b] 3 (0, 0))) (.slice (some ⟨g, 0, none⟩) 2 2) [a, b] := lit_ints [a, b] hg rfl (by simp)
theorem lit4 {w : World} {g : Nat} (a b c d : Int) (hg : g = w.heap.size) : Ints (w.alloc (.cells #[.int .i64 a, .int .i64 b, .int .i64 c, .int .i64 d] 3 (0, 0))) (.slice (some ⟨g, 0, none⟩) 4 4) [a, b, c, d] := lit_ints [a, b, c, d] hg rfl (by simp)
theorem nil_ints (w : World) : Ints w (.slice none 0 0) [] := ⟨none, 0, rfl, by simp, by unfold maxLen; omega, fun hp => by simp at hp⟩
theorem no_ints {w : World} {v : Value} (h : Ints w v []) : ∃ p cap, v = .slice p 0 cap := by
  obtain ⟨p, cap, rfl, _, _⟩ := h.shape
  exact ⟨p, cap, rfl⟩
theorem ks1 : [0, 1, 0, 1] = if mayC [2, 2] = true then slotsL [2, 2] else [] := by decide +kernel
theorem ks2 : [] = if mayC [] = true then slotsL [] else [] := by decide +kernel
theorem ks3 : gapL [0, 1, 0, 1] 0 = (2, 2) := by decide +kernel
theorem ks4 : gapL [0, 1, 1] 0 = (3, 3) := by decide +kernel

set_option maxRecDepth 100000 in
set_option maxHeartbeats 2000000 in
theorem known_any (w : World) : Calls Try.prog 8 #[] w (Yields w (.bool true)) := by
  have E1 := hid ks1
  have E2 := hid ks2
  have E3 := hid ks3
  have E4 := hid ks4
  go_enter Try.func8, Try.ntmps8
  go_upto_region 2 with (go_at_call 12; (with_reducible refine (slots_all (lit2 2 2 ?hg) [0, 1, 0, 1] E1.out).mono ?_); (case hg => simp); rintro e w1 ⟨u, rfl, hx1, hI1⟩)
  have hx2 : Ext w w1 := Ext.trans (Ext.alloc (Ext.refl w) _) hx1
  have HI1 := hid hI1
  clear hx1 hI1
  go_wp2_with (first
    | (go_at_call 9; (with_reducible refine (gap_to (HI1.out) (by decide) E3.out).yields ?_); intro p1)
    | (go_at_call 9; (with_reducible refine (gap_to (lit3 0 1 1 ?hg) (by decide) E4.out).yields ?_); (case hg => simp [more_size]); intro p2)
    | (go_at_call 11; (with_reducible refine (sameI_to (HI1.out.ext ?hx) (lit4 0 1 0 1 ?hg)).yields ?_); (case hx => exact ext_by); (case hg => simp [more_size]); intro p3)
    | (go_at_call 12; (with_reducible refine (slots_all (nil_ints _) [] E2.out).mono ?_); rintro e w5 ⟨u5, rfl, hx5, hI5⟩; obtain ⟨q5, c5, rfl⟩ := no_ints hI5))
  go_returns
  have hx6 : Ext w1 w5 := Ext.trans ext_by hx5
  exact ⟨by simp, hx2.trans hx6⟩
end Go.Proofs.Ytiejnochddjlmaa
