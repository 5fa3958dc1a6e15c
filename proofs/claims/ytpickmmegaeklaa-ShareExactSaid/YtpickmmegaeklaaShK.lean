/- What every statement of stage 11 asks first: known; literals; counts at a literal frame. -/
import Derived.Test.YtpickmmegaeklaaSh3
import Derived.Test.YtpickmmegaeklaaSI
import Derived.Test.YtpickmmegaeklaaOwn2
namespace Go.Proofs.Ytpickmmegaeklaa
open Go.RowKit

/-- A row written out. -/
theorem lit_ints {w : World} {g n : Nat} (l : List Int) (hg : g = w.heap.size) (hn : n = l.length) (hl : l.length ≤ 100) : Ints (w.alloc (.cells (l.map iV).toArray 3 (0, 0))) (.slice (some ⟨g, 0, none⟩) n n) l := by
  subst hg hn
  exact Iz.ints (Blk.new w 3 (l.map iV)) (by unfold maxLen; omega)

theorem lit3 {w : World} {g : Nat} (a b c : Int) (hg : g = w.heap.size) : Ints (w.alloc (.cells #[.int .i64 a, .int .i64 b, .int .i64 c] 3 (0, 0))) (.slice (some ⟨g, 0, none⟩) 3 3) [a, b, c] := lit_ints [a, b, c] hg rfl (by simp)
theorem lit3b {w : World} {g : Nat} (a b c d e f : Int) (hg : g = w.heap.size) : Ints ((w.alloc (.cells #[.int .i64 a, .int .i64 b, .int .i64 c] 3 (0, 0))).alloc (.cells #[.int .i64 d, .int .i64 e, .int .i64 f] 3 (0, 0))) (.slice (some ⟨g, 0, none⟩) 3 3) [a, b, c] := (lit3 a b c hg).ext (Ext.alloc (Ext.refl _) _)
theorem lit1 {w : World} {g : Nat} (a : Int) (hg : g = w.heap.size) : Ints (w.alloc (.cells #[.int .i64 a] 3 (0, 0))) (.slice (some ⟨g, 0, none⟩) 1 1) [a] := lit_ints [a] hg rfl (by simp)
/-- Counts whatever comes in. -/
theorem counts_all {f : Int} {l : List Int} {v : Value} {w : World} (h : Ints w v l) (c : List Int) (hc : c = if mayS f l = true then countsL f l else []) : Calls Try.prog 10 #[.int .i64 f, v] w fun e w' => ∃ u, e = .returned u ∧ Ext w w' ∧ Ints w' u c := by
  subst hc
  cases hm : mayS f l
  · refine (counts_none h hm).mono ?_
    rintro e w' ⟨rfl, hx⟩
    exact ⟨_, rfl, hx, none, 0, rfl, by simp, by unfold maxLen; omega, fun hp => by simp at hp⟩
  · have hM := May.of hm
    refine (counts_any hM hm h).mono ?_
    rintro e w' ⟨g, rfl, _, hx, hI⟩
    refine ⟨_, rfl, hx, ?_⟩
    rw [if_pos rfl]
    have := Iz.ints hI (by rw [countsL_length]; have := hM.len; unfold maxLen; omega)
    rwa [countsL_length] at this

theorem len_none {w : World} {v : Value} (h : Ints w v []) : ∃ p cap, v = .slice p 0 cap := by
  obtain ⟨p, cap, rfl, _, _⟩ := h.shape
  exact ⟨p, cap, rfl⟩

theorem kn1 : [4, 3, 3] = if mayS 10 [1, 1, 1] = true then countsL 10 [1, 1, 1] else [] := by decide +kernel
theorem kn2 : [] = if mayS 0 [1] = true then countsL 0 [1] else [] := by decide +kernel
theorem kn3 : exactL 10 [1, 1, 1] [4, 3, 3] = true := by decide +kernel
theorem kn4 : exactL 10 [1, 1, 1] [5, 3, 2] = false := by decide +kernel
theorem kn5 : ∀ y ∈ [(4 : Int), 3, 3], wf64 y := by unfold wf64; decide
theorem kn6 : ∀ y ∈ [(5 : Int), 3, 2], wf64 y := by unfold wf64; decide
set_option maxRecDepth 100000 in
set_option maxHeartbeats 2000000 in
theorem known_any (w : World) : Calls Try.prog 8 #[] w (Yields w (.bool true)) := by
  have E1 := hid kn1
  have E2 := hid kn2
  have E3 := hid kn3
  have E4 := hid kn4
  go_enter Try.func8, Try.ntmps8
  go_upto_region 2 with (go_at_call 10; refine (counts_all (lit_ints [1, 1, 1] (by simp) rfl (by decide)) [4, 3, 3] E1.out).mono ?_; rintro e w1 ⟨u, rfl, hx1, hI1⟩)
  have hx2 : Ext w w1 := Ext.trans (Ext.alloc (Ext.refl w) _) hx1
  have HI1 := hid hI1
  clear hx1 hI1
  go_wp2_with (first
    | (go_at_call 9; (with_reducible refine (sameI_to (HI1.out.ext ?hx) (lit3 4 3 3 ?hg)).yields ?_); (case hx => exact ext_by); (case hg => simp); intro p1)
    | (go_at_call 12; (with_reducible refine (exact_to (lit3 1 1 1 ?hg) (HI1.out.ext ?hx) kn5 E3.out).yields ?_); (case hx => exact ext_by); (case hg => simp [more_size]); intro p2)
    | (go_at_call 12; (with_reducible refine (exact_to (lit3b 1 1 1 5 3 2 ?hg) (lit3 5 3 2 ?hh) kn6 E4.out).yields ?_); (case hg => simp [more_size]); (case hh => simp [more_size]); intro p3)
    | (go_at_call 10; (with_reducible refine (counts_all (lit1 1 ?hg) [] E2.out).mono ?_); (case hg => simp [more_size]); rintro e w5 ⟨u5, rfl, hx5, hI5⟩; obtain ⟨q5, c5, rfl⟩ := len_none hI5))
  go_returns
  have hx6 : Ext w1 w5 := Ext.trans ext_by hx5
  exact ⟨by simp, hx2.trans hx6⟩
end Go.Proofs.Ytpickmmegaeklaa
