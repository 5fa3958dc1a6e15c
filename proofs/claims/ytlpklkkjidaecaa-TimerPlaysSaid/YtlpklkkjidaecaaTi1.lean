/- The timers' small methods: New, Len, Next, sooner, put. -/
import Derived.Test.YtlpklkkjidaecaaTi0
import Derived.Test.YtlpklkkjidaecaaTail
import Derived.WalkKit
import Derived.WalkSpells
import Derived.WalkLawsBesides
import Derived.Deep.RegionLaw
import Derived.Handy
import Derived.IntWalk
namespace Go.Proofs.Ytlpklkkjidaecaa
open Go.RowKit
namespace Ti
open Rw
open Go.Maps (Tidy IsMap Keyed)

set_option maxHeartbeats 1000000 in
theorem new_any (w : World) : Calls Try.prog 8 #[] w fun e w' => e = .returned (.pointer (some ⟨w.heap.size, 0, none⟩)) ∧ Tm w.heap.size w.heap.size (.slice none 0 0) (.map none) [] (.map []) w' ∧ Ext w w' := by
  go_enter Try.func8, Try.ntmps8
  go_wp2
  go_returns
  exact ⟨rfl, ⟨heap_alloc_new _ _, Row.nil _ _, .inl ⟨rfl, rfl⟩, Nat.le_refl _⟩, (by repeat (first | exact Ext.refl _ | assumption | refine Ext.more ?_ _ | refine Ext.drew ?_ | refine Ext.drewN ?_ _ | refine Ext.alloc ?_ _ | refine Ext.setCell ?_ (by simp; try omega) _ | refine Ext.trans ?_ (by assumption)))⟩

section
variable {base x : Nat} {v m : Value} {l : List En} {D : DataW Unit} {w : World}
set_option maxHeartbeats 1000000 in
theorem len_any (h : Tm base x v m l D w) :
    Calls Try.prog 18 #[.pointer (some ⟨x, 0, none⟩)] w fun e w' => e = .returned (.int .i64 l.length) ∧ w' = w := by
  obtain ⟨p, cap, rfl, -, -, -⟩ := h.row.slice
  obtain ⟨c0, -, -, -⟩ := h.cells
  go_enter Try.func18, Try.ntmps18
  go_wp2
  go_returns
  exact ⟨rfl, rfl⟩

/-- Next's answer. -/
def nextV (l : List En) : Value := match l with
  | [] => .tuple #[.int .i64 0, .bool false]
  | p :: _ => .tuple #[.int .i64 p.2, .bool true]
set_option maxHeartbeats 1000000 in
theorem next_any (h : Tm base x v m l D w) : Calls Try.prog 16 #[.pointer (some ⟨x, 0, none⟩)] w fun e w' => e = .returned (nextV l) ∧ w' = w := by
  obtain ⟨p, cap, rfl, -, -, -⟩ := h.row.slice
  obtain ⟨c0, -, -, -⟩ := h.cells
  cases l with
  | nil =>
    go_enter Try.func16, Try.ntmps16
    go_wp2
    exact bodyPost_ret (v := .tuple #[.int .i64 0, .bool false]) (by simp [results, Try.results16, go_sem]) rfl ⟨rfl, rfl⟩
  | cons q rest =>
    obtain ⟨g, cap', e, -, hg, -, -⟩ := h.row.shape (by simp)
    injection e with e _ ec
    subst e ec
    obtain ⟨-, d1, -, -⟩ := h.row.cell (i := 0) (p := q) rfl
    simp only [Nat.zero_mul, Nat.zero_add] at d1
    have i0 : (0 : Int) < ((q :: rest).length : Int) := by rw [List.length_cons]; omega
    have i1 : (((q :: rest).length : Int) == 0) = false := by rw [beq_eq_false_iff_ne]; omega
    clear h
    generalize (q :: rest).length = n at *
    go_enter Try.func16, Try.ntmps16
    go_wp2
    exact bodyPost_ret (v := .tuple #[.int .i64 q.2, .bool true]) (by simp [results, Try.results16, go_sem]) rfl ⟨rfl, rfl⟩

set_option maxRecDepth 100000 in
set_option maxHeartbeats 2000000 in
theorem sooner_any (h : Tm base x v m l D w) (i : Nat) (hi : i ≤ 1000000) :
    Calls Try.prog 23 #[.pointer (some ⟨x, 0, none⟩), .int .i64 i] w (Yields w (.int .i64 (soon l i : Nat))) := by
  have e1 : IntKind.i64.wrap (2 * (i : Int)) = 2 * i := IntWalk.i64_in _ (by omega)
  have e2 : IntKind.i64.wrap (2 * (i : Int) + 1) = 2 * i + 1 := IntWalk.i64_in _ (by omega)
  have e3 : IntKind.i64.wrap (2 * (i : Int) + 2) = 2 * i + 2 := IntWalk.i64_in _ (by omega)
  have hx := h.lt
  by_cases hc : i * 2 + 2 < l.length
  · obtain ⟨g, cap, rfl, -, hg, -, -⟩ := h.row.shape (by omega)
    obtain ⟨c0, -, -, -⟩ := h.cells
    obtain ⟨a, ha⟩ := get_lt (l := l) (i := i * 2 + 1) (by omega)
    obtain ⟨b, hb⟩ := get_lt hc
    obtain ⟨-, d1, -, -⟩ := h.row.cell ha
    obtain ⟨-, d2, -, -⟩ := h.row.cell hb
    rw [show (i * 2 + 1) * 2 + 1 = (2 * i + 1) * 2 + 1 by omega] at d1
    rw [show (i * 2 + 2) * 2 + 1 = (2 * i + 2) * 2 + 1 by omega] at d2
    have hs : Hid (soon l i = if b.2 < a.2 then i * 2 + 2 else i * 2 + 1) := by
      unfold soon
      simp only [List.getD_eq_getElem?_getD, ha, hb, Option.getD_some, hc, true_and]
      trivial
    obtain ⟨n, hn⟩ : ∃ n, n = l.length := ⟨_, rfl⟩
    rw [← hn] at hc c0
    clear h ha hb hn
    have i1 : 2 * (i : Int) + 2 < (n : Int) := by omega
    have i2 : 2 * (i : Int) + 1 < (n : Int) := by omega
    have i3 : (0 : Int) ≤ 2 * (i : Int) + 2 := by omega
    have i4 : (0 : Int) ≤ 2 * (i : Int) + 1 := by omega
    clear hc
    by_cases hlt : b.2 < a.2
    · go_enter Try.func23, Try.ntmps23
      go_wp2
      ((first | refine wp_region_more (by kernel_rfl) (by kernel_rfl) ?_ | refine wp_region_ext (by kernel_rfl) (by kernel_rfl) ?_); (try dsimp only [append_cons', append_nil']); (repeat (go_big_quiet_step ((fail)))); refine wpQuiet_nil ?_; rintro _ ⟨pq, rfl⟩)
      go_wp2
      go_returns
      exact ⟨by rw [hs.out, if_pos hlt]; simp; omega, (by repeat (first | exact Ext.refl _ | assumption | refine Ext.more ?_ _ | refine Ext.drew ?_ | refine Ext.drewN ?_ _ | refine Ext.alloc ?_ _ | refine Ext.setCell ?_ (by simp; try omega) _ | refine Ext.trans ?_ (by assumption)))⟩
    · go_enter Try.func23, Try.ntmps23
      go_wp2
      ((first | refine wp_region_more (by kernel_rfl) (by kernel_rfl) ?_ | refine wp_region_ext (by kernel_rfl) (by kernel_rfl) ?_); (try dsimp only [append_cons', append_nil']); (repeat (go_big_quiet_step ((fail)))); refine wpQuiet_nil ?_; rintro _ ⟨pq, rfl⟩)
      go_wp2
      go_returns
      exact ⟨by rw [hs.out, if_neg (by omega)]; simp; omega, (by repeat (first | exact Ext.refl _ | assumption | refine Ext.more ?_ _ | refine Ext.drew ?_ | refine Ext.drewN ?_ _ | refine Ext.alloc ?_ _ | refine Ext.setCell ?_ (by simp; try omega) _ | refine Ext.trans ?_ (by assumption)))⟩
  · obtain ⟨p, cap, rfl, -, -, -⟩ := h.row.slice
    obtain ⟨c0, -, -, -⟩ := h.cells
    have hs : Hid (soon l i = i * 2 + 1) := by
      unfold soon
      rw [if_neg (fun h => hc h.1)]
      exact hid rfl
    have i1 : decide (2 * (i : Int) + 2 < (l.length : Int)) = false := by rw [decide_eq_false_iff_not]; omega
    clear hc h
    go_enter Try.func23, Try.ntmps23
    go_wp2
    ((first | refine wp_region_more (by kernel_rfl) (by kernel_rfl) ?_ | refine wp_region_ext (by kernel_rfl) (by kernel_rfl) ?_); (try dsimp only [append_cons', append_nil']); (repeat (go_big_quiet_step ((fail)))); refine wpQuiet_nil ?_; rintro _ ⟨pq, rfl⟩)
    go_wp2
    go_returns
    exact ⟨by rw [hs.out]; simp; omega, (by repeat (first | exact Ext.refl _ | assumption | refine Ext.more ?_ _ | refine Ext.drew ?_ | refine Ext.drewN ?_ _ | refine Ext.alloc ?_ _ | refine Ext.setCell ?_ (by simp; try omega) _ | refine Ext.trans ?_ (by assumption)))⟩
end
end Ti
end Go.Proofs.Ytlpklkkjidaecaa
