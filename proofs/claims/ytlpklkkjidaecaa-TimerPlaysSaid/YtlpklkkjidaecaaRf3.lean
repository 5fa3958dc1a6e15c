/- The document's own timers: Next, Due; their state in a walk. -/
import Derived.Test.YtlpklkkjidaecaaRf2
namespace Go.Proofs.Ytlpklkkjidaecaa
open Go.RowKit
namespace Rf
open Rw Ti
set_option linter.unusedSimpArgs false

/-- The least of the first k; 0 of none. -/
def LeastOf (b : Int) (l : List En) : Prop := (l = [] ∧ b = 0) ∨ ((∃ e ∈ l, e.2 = b) ∧ ∀ e ∈ l, b ≤ e.2)
theorem LeastOf.is {b : Int} {l : List En} (h : LeastOf b l) : IsLeast b l := h
theorem LeastOf.less {b : Int} {l : List En} {q : En} (h : LeastOf b l) (hq : l = [] ∨ q.2 < b) : LeastOf q.2 (l ++ [q]) := by
  refine .inr ⟨⟨q, by simp, rfl⟩, fun e he => ?_⟩
  rcases List.mem_append.1 he with he | he
  · rcases h with ⟨h1, _⟩ | ⟨_, h2⟩
    · rw [h1] at he; cases he
    · have := h2 e he
      rcases hq with hq | hq
      · rw [hq] at he; cases he
      · omega
  · rw [List.mem_singleton.1 he]; exact Int.le_refl _
theorem LeastOf.same {b : Int} {l : List En} {q : En} (h : LeastOf b l) (h0 : l ≠ []) (hq : ¬ q.2 < b) : LeastOf b (l ++ [q]) := by
  rcases h with ⟨h1, _⟩ | ⟨⟨e, h1, h2⟩, h3⟩
  · exact absurd h1 h0
  · refine .inr ⟨⟨e, by simp [h1], h2⟩, fun e he => ?_⟩
    rcases List.mem_append.1 he with he | he
    · exact h3 e he
    · rw [List.mem_singleton.1 he]; omega

section
variable {base y : Nat} {v : Value} {l : List En} {w w' : World}
set_option maxRecDepth 100000 in
set_option maxHeartbeats 4000000 in
theorem next_d (h : Rm base y v l w) (hl : l.length ≤ 1000) :
    Calls Try.prog 17 #[.pointer (some ⟨y, 0, none⟩)] w fun e w' => (∃ z, e = .returned (.tuple #[.int .i64 z, .bool (decide ((0 : Int) < (l.length : Int)))]) ∧ IsLeast z l) ∧ Ext w w' := by
  obtain ⟨p, cap, rfl, -, -, -⟩ := h.row.slice
  obtain ⟨c0, f0⟩ := h.cells
  have HI := hid h
  have HL := hid hl
  clear h hl
  go_enter Try.func17, Try.ntmps17
  go_wp2_with fail
  go_loopw [4, 5] (fun b s wr => ∃ (k : Nat) (z : Int), s = .int .i64 k ∧ b = .int .i64 z ∧ k ≤ l.length ∧ Ext w wr ∧ Hid (LeastOf z (l.take k))) (fun _ s _ => (l.length - intOf s).toNat)
  case atStart => exact ⟨0, 0, rfl, rfl, by omega, Ext.refl _, .inl ⟨rfl, rfl⟩⟩
  case round =>
    obtain ⟨k, z, rfl, rfl, hk, hx, hz⟩ := hrel
    have hlb := HL.out
    by_cases hlt : k < l.length
    · obtain ⟨g, cap', e, -, hg, -, -⟩ := HI.out.row.shape (by omega)
      injection e with e _ ec
      subst e ec
      obtain ⟨-, d1, -, -⟩ := HI.out.row.cell (List.getElem?_eq_getElem hlt)
      have q1 := hx.cell d1
      have q2 := hx.cell c0
      have i4 : (k : Int) < (l.length : Int) := by omega
      have HT : Hid (l.take (k + 1) = l.take k ++ [l[k]]) := List.take_succ_eq_append_getElem hlt
      have HN : Hid (k ≠ 0 → l.take k ≠ []) := fun hk0 e => by
        have := congrArg List.length e
        rw [List.length_take, Nat.min_eq_left hk] at this
        simp at this
        omega
      clear d1
      generalize l[k] = q at *
      by_cases hk0 : k = 0
      · subst hk0
        go_wp2
        go_roundw
        case rel => exact ⟨1, q.2, by go_num, rfl, by omega, hx, by rw [Hid, HT.out]; exact hz.out.less (.inl rfl)⟩
        case measure => simp [intOf]; omega
      · have HK := hid hk0
        have hk1 : ((k : Int) == 0) = false := by simp; omega
        clear hk0
        by_cases hc : q.2 < z
        · go_wp2
          go_roundw
          case rel => exact ⟨k + 1, q.2, by go_num, rfl, by omega, hx, by rw [Hid, HT.out]; exact hz.out.less (.inr hc)⟩
          case measure => simp [intOf]; omega
        · go_wp2
          go_roundw
          case rel => exact ⟨k + 1, z, by go_num, rfl, by omega, hx, by rw [Hid, HT.out]; exact hz.out.same (HN.out HK.out) (by omega)⟩
          case measure => simp [intOf]; omega
    · obtain rfl : k = l.length := by omega
      have hz1 := hz.out
      rw [List.take_length] at hz1
      have HZ := hid hz1
      have q2 := hx.cell c0
      clear hz1 hz
      have q3 := more_cell q2
      go_wp2
      ((first | refine wp_region_more (by kernel_rfl) (by kernel_rfl) ?_ | refine wp_region_ext (by kernel_rfl) (by kernel_rfl) ?_); (try dsimp only [append_cons', append_nil']); (repeat (go_big_quiet_step ((fail)))); refine wpQuiet_nil ?_; rintro _ ⟨pq, rfl⟩)
      go_wp2
      go_returns
      exact ⟨⟨z, by simp, HZ.out⟩, hx.trans (ext_more _ _)⟩
theorem next_any (h : Rm base y v l w) (hl : l.length ≤ 1000) :
    Calls Try.prog 17 #[.pointer (some ⟨y, 0, none⟩)] w fun e w' => (∃ z, e = .returned (.tuple #[.int .i64 z, .bool (!l.isEmpty)]) ∧ IsLeast z l) ∧ Ext w w' := by
  have hem : decide ((0 : Int) < (l.length : Int)) = (!l.isEmpty) := by cases l <;> simp <;> omega
  rw [← hem]
  exact next_d h hl
end
end Rf
end Go.Proofs.Ytlpklkkjidaecaa
