/- Rows of numbers: owned, read; numbers of 64 bits. -/
import Derived.Test.YtbnjfahjbemleaaRows
import Derived.Test.YtbnjfahjbemleaaPush
import Derived.Test.YtbnjfahjbemleaaMv
import Derived.IntWalk
import Derived.OpenShut
import Derived.WalkArith
import Derived.WalkKit
namespace Go.Proofs.Ytbnjfahjbemleaa
open Go.RowKit

theorem owns_base {w : World} {base base' T n m : Nat} {v : Value} {xs : List Value} (h : w.ownsRow base T n v m xs) (hb : base' ≤ base) : w.ownsRow base' T n v m xs := by
  refine ⟨h.1, ?_⟩
  rcases h.2 with h1 | ⟨g, cap, cur, e1, e2, r⟩
  · exact .inl h1
  · exact .inr ⟨g, cap, cur, e1, by omega, r⟩
/-- v is a slice of these numbers. -/
abbrev Ints (w : World) (v : Value) (l : List Int) : Prop := Slc 1 (fun w b off x => w.cell? ⟨b, off, none⟩ = some (.int .i64 x)) w v l
theorem ints_of_owns {w : World} {base : Nat} {v : Value} {l : List Int} (h : w.ownsRow base 3 1 v l.length (l.map fun k => .int .i64 k)) : Ints w v l := by
  refine (Slc.of_owns (n := 1) (enc := fun k : Int => [Value.int .i64 k]) (by omega) (fun _ => rfl) (by rw [← List.map_eq_flatMap]; exact h) (fun b off x _ hc => hc 0 (by omega))).2
theorem Ints.shape {w : World} {v : Value} {l : List Int} (h : Ints w v l) : ∃ p cap, v = .slice p l.length cap ∧ l.length ≤ cap ∧ cap ≤ maxLen := Slc.shape h
theorem Ints.ext {w w' : World} {v : Value} {l : List Int} (h : Ints w v l) (k : Ext w w') : Ints w' v l := h.mono fun _ _ _ => k.cell
theorem nil_ints (w : World) : Ints w (.slice none 0 0) [] := ⟨none, 0, rfl, by simp, by unfold maxLen; omega, fun hp => by simp at hp⟩
theorem no_ints {w : World} {v : Value} (h : Ints w v []) : ∃ p cap, v = .slice p 0 cap := by
  obtain ⟨p, cap, rfl, _, _⟩ := h.shape
  exact ⟨p, cap, rfl⟩
/-- A row owned is kept by what doesn't touch its block. -/
theorem owns_keep {w w' : World} {base T n m : Nat} {v : Value} {xs : List Value} (h : w.ownsRow base T n v m xs) (k : ∀ g, v.ownBlock = some g → w'.heap[g]? = w.heap[g]?) : w'.ownsRow base T n v m xs := by
  refine ⟨h.1, ?_⟩
  rcases h.2 with hn | ⟨g, cap, cur, e1, e2, e3, r⟩
  · exact .inl hn
  · exact .inr ⟨g, cap, cur, e1, e2, by rw [k g (by rw [e1]; rfl)]; exact e3, r⟩
theorem owns_below {w : World} {base T n m : Nat} {v : Value} {xs : List Value} (h : w.ownsRow base T n v m xs) : ∀ g, v.ownBlock = some g → base ≤ g ∧ g < w.heap.size := by
  intro g hg
  rcases h.2 with ⟨rfl, _⟩ | ⟨g', cap, cur, rfl, e2, e3, _⟩
  · cases hg
  · simp only [Value.ownBlock, Option.some.injEq] at hg
    subst hg
    exact ⟨e2, lt_blk e3⟩

theorem infoI : (Try.prog.info? 3).map (fun i => (i.zero, i.size, i.bytes)) = some (some (.int .i64 0), 1, 8) := by kernel_rfl
def wf64 (k : Int) : Prop := -9223372036854775808 ≤ k ∧ k ≤ 9223372036854775807
theorem wf64.lit {k : Int} (h : wf64 k) : (Lit.int .i64 k).wf = true := by
  exact WalkArith.wf_i64 h
end Go.Proofs.Ytbnjfahjbemleaa
