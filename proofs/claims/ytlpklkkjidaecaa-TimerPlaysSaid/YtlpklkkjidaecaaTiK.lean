/- What a Due answers, read; the statements' own check of package timer. -/
import Derived.Test.YtlpklkkjidaecaaTiS
import Derived.WalkKit
import Derived.WalkSpells
import Derived.WalkLawsBesides
import Derived.Handy
namespace Go.Proofs.Ytlpklkkjidaecaa
open Go.RowKit

theorem owns_base {w : World} {base base' T n m : Nat} {v : Value} {xs : List Value} (h : w.ownsRow base T n v m xs) (hb : base' ≤ base) : w.ownsRow base' T n v m xs := by
  refine ⟨h.1, ?_⟩
  rcases h.2 with h1 | ⟨g, cap, cur, e1, e2, r⟩
  · exact .inl h1
  · exact .inr ⟨g, cap, cur, e1, by omega, r⟩
/-- v is a slice of these numbers. -/
abbrev Ints (w : World) (v : Value) (l : List Int) : Prop := Slc 1 (fun w b off x => w.cell? ⟨b, off, none⟩ = some (.int .i64 x)) w v l
theorem ints_of_owns {w : World} {base : Nat} {v : Value} {l : List Int} (h : w.ownsRow base 3 1 v l.length (l.map fun k => .int .i64 k)) : Ints w v l := by
  refine (Slc.of_owns (n := 1) (enc := fun k : Int => [Value.int .i64 k]) (by omega) (fun _ => rfl) (by rw [← List.map_eq_flatMap]; exact h) (fun b off x _ hc => hc 0 (by omega))).2

namespace Ti
open Rw
/-- Numbers that lie in a block of their own. -/
def Res (w0 : World) (ds : List Int) (vd : Value) (A : Nat → Prop) (w : World) : Prop := w.ownsRow w0.heap.size 3 1 vd ds.length (ds.map fun k => .int .i64 k) ∧ ∀ k, vd.ownBlock = some k → ¬ A k
theorem Res.keep {w0 w w' : World} {ds : List Int} {vd : Value} {A B : Nat → Prop} (h : Res w0 ds vd A w) (k : Mvp A B w w') : Res w0 ds vd B w' := by
  have hb := owns_below h.1
  refine ⟨owns_keep h.1 fun g hg => k.block g (hb g hg).2 (h.2 g hg), fun i hi hB => ?_⟩
  rcases k.own i hB with h1 | h1
  · exact h.2 i hi h1
  · have := (hb i hi).2
    omega
theorem Res.ints {w0 w : World} {ds : List Int} {vd : Value} {A : Nat → Prop} (h : Res w0 ds vd A w) : Ints w vd ds := ints_of_owns h.1
theorem Res.ext {w0 w w' : World} {ds : List Int} {vd : Value} {A : Nat → Prop} (h : Res w0 ds vd A w) (k : Ext w w') : Res w0 ds vd A w' := ⟨owns_ext h.1 k, h.2⟩

set_option maxRecDepth 100000 in
set_option maxHeartbeats 8000000 in
theorem known_any (w : World) : Calls Try.prog 7 #[] w (Yields w (.bool true)) := by
  go_enter Try.func7, Try.ntmps7
  go_wp2_with fail
  (with_reducible refine (st_new (Ext.refl w)).mono ?_)
  rintro e w1 ⟨rfl, A1, s1, -, -⟩
  go_wp2_with fail
  (with_reducible refine (st_next s1).mono ?_)
  rintro e w1' ⟨⟨z, rfl, -⟩, hw⟩
  rw [hw]
  clear hw
  clear w1'
  go_wp2_with fail
  (with_reducible refine (st_set s1 2 5 (by decide) (by unfold wf64; omega)).mono ?_)
  rintro e w2 ⟨rfl, A2, s2, -⟩
  clear s1
  go_wp2_with fail
  (with_reducible refine (st_set s2 1 9 (by decide) (by unfold wf64; omega)).mono ?_)
  rintro e w3 ⟨rfl, A3, s3, -⟩
  clear s2
  go_wp2_with fail
  (with_reducible refine (st_set s3 3 5 (by decide) (by unfold wf64; omega)).mono ?_)
  rintro e w4 ⟨rfl, A4, s4, -⟩
  clear s3
  have s4 : St w w.heap.size [(3, 5), (1, 9), (2, 5)] A4 w4 := s4
  go_wp2_with fail
  (with_reducible refine (st_next s4).mono ?_)
  rintro e w4' ⟨⟨z4, rfl, hz4⟩, hw⟩
  rw [hw]
  clear hw
  clear w4'
  obtain rfl : z4 = 5 := hz4.one (.inr ⟨⟨(3, 5), by simp, rfl⟩, by decide⟩)
  clear hz4
  go_wp2_with fail
  (with_reducible refine (st_due s4 5 (by decide)).mono ?_)
  rintro e w5 ⟨vd, A5, rfl, s5, m5, o5, f5⟩
  have s5 : St w w.heap.size [(1, 9)] A5 w5 := s5
  have hd : dueIds 5 [(3, 5), (1, 9), (2, 5)] = [2, 3] := sortI_of (List.Perm.swap 2 3 []) (by decide)
  rw [hd] at o5
  have r5 : Res w [2, 3] vd A5 w5 := ⟨owns_base o5 s4.xt.size, f5⟩
  clear o5 f5 m5 s4 hd
  go_wp2_with fail
  (with_reducible refine (st_drop s5 1 (by decide) (by unfold wf64; omega)).mono ?_)
  rintro e w6 ⟨rfl, A6, s6, m6⟩
  have s6 : St w w.heap.size [] A6 w6 := s6
  have r6 := r5.keep m6
  clear m6 r5 s5
  go_wp2_with fail
  (with_reducible refine (st_drop s6 1 (by decide) (by unfold wf64; omega)).mono ?_)
  rintro e w7 ⟨rfl, A7, s7, m7⟩
  have s7 : St w w.heap.size [] A7 w7 := s7
  have r7 := r6.keep m7
  clear m7 r6 s6
  obtain ⟨p, cap, rfl, -, -, hat⟩ := r7.ints
  obtain ⟨b, off, rfl, hc⟩ := hat (by decide)
  have c0 := hc 0 2 rfl
  have c1 := hc 1 3 rfl
  simp only [Nat.zero_mul, Nat.add_zero, Nat.one_mul] at c0 c1
  have hin1 : isIn 1 [((1 : Int), (9 : Int))] = true := rfl
  have hin2 : isIn 1 ([] : List En) = false := rfl
  rw [hin1, hin2]
  have S7 := hid s7
  clear hc hat r7 s7
  go_wp2_with (go_at_call 18; (with_reducible refine (st_len S7.out).mono ?_); rintro e w8 ⟨rfl, hw⟩; rw [hw]; clear hw; clear w8)
  go_returns
  exact ⟨rfl, S7.out.xt⟩
end Ti
end Go.Proofs.Ytlpklkkjidaecaa
