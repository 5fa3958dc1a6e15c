/- The objects' small methods: New, find, Count. -/
import Derived.Test.YtoimkocjfijlkaaDoorOb0
import Derived.Test.YtoimkocjfijlkaaDoorTail
import Derived.WalkKit
import Derived.WalkSpells
import Derived.WalkLawsBesides
import Derived.Deep.RegionLaw
import Derived.Handy
import Derived.IntWalk
namespace Go.Proofs.YtoimkocjfijlkaaDoor
open Go.RowKit
namespace Ob

theorem Obs.new (w w' : World) (h : w' = w.alloc (.cells #[.int .i64 0, nilV, nilV, .int .i64 0, nilV, nilV, .int .i64 0, nilV, nilV, .int .i64 0, nilV, nilV, .map none] 58 (0, 0))) : Obs w.heap.size w.heap.size (fun _ => 0) (fun _ => []) (.map none) (.map []) w' := by
  subst h
  refine ⟨⟨_, heap_alloc_new _ _, rfl, rfl, fun i hi => ?_⟩, fun i _ => trivial, List.nodup_nil, List.nodup_nil, fun e he => (by cases he), fun e he => (by cases he), .inl ⟨rfl, rfl⟩, Full.start, Nat.le_refl _, fun i _ => ⟨by omega, by omega⟩⟩
  rcases four hi with rfl | rfl | rfl | rfl <;> exact ⟨rfl, rfl, rfl⟩
set_option maxHeartbeats 1000000 in
theorem new_any (w : World) : Calls Tryd.prog 5 #[] w fun e w' => e = .returned (ptrV w.heap.size) ∧ Obs w.heap.size w.heap.size (fun _ => 0) (fun _ => []) (.map none) (.map []) w' ∧ Ext w w' := by
  go_enter Tryd.func5, Tryd.ntmps5
  go_wp2
  go_returns
  exact ⟨rfl, Obs.new w _ rfl, (by repeat (first | exact Ext.refl _ | assumption | refine Ext.more ?_ _ | refine Ext.drew ?_ | refine Ext.drewN ?_ _ | refine Ext.alloc ?_ _ | refine Ext.setCell ?_ (by simp; try omega) _ | refine Ext.trans ?_ (by assumption)))⟩

set_option maxHeartbeats 1000000 in
theorem find_in (w : World) {x i : Nat} {c : Nat → Int} {f l : Nat → Value} {m : Value} (h : OAt w x c f l m) (hi : i < 4) : Calls Tryd.prog 17 #[ptrV x, .int .i64 i] w fun e w' => e = .returned (objV x i) ∧ w' = w := by
  have hx := h.lt
  have i1 : decide ((i : Int) < 0) = false := by rw [decide_eq_false_iff_not]; omega
  have i2 : decide ((4 : Int) ≤ (i : Int)) = false := by rw [decide_eq_false_iff_not]; omega
  have i3 : (i : Int) < 4 := by omega
  clear h
  go_enter Tryd.func17, Tryd.ntmps17
  go_wp2
  go_returns
  exact ⟨rfl, rfl⟩
set_option maxHeartbeats 1000000 in
theorem find_out (w : World) {x : Nat} {o : Int} (h : o < 0 ∨ 4 ≤ o) : Calls Tryd.prog 17 #[ptrV x, .int .i64 o] w fun e w' => e = .returned nilV ∧ w' = w := by
  by_cases h0 : o < 0
  · have i1 : decide (o < 0) = true := by simpa using h0
    clear h h0
    go_enter Tryd.func17, Tryd.ntmps17
    go_wp2
    go_returns
    exact ⟨rfl, rfl⟩
  · have i1 : decide (o < 0) = false := by simpa using h0
    have i2 : decide (4 ≤ o) = true := by rw [decide_eq_true_iff]; omega
    clear h h0
    go_enter Tryd.func17, Tryd.ntmps17
    go_wp2
    go_returns
    exact ⟨rfl, rfl⟩
section
variable {base x : Nat} {c : Nat → Int} {r : Nat → List Wt} {m : Value} {D : DataW Value} {w w' : World}
set_option maxHeartbeats 1000000 in
theorem count_in (h : Obs base x c r m D w) {i : Nat} (hi : i < 4) : Calls Tryd.prog 13 #[ptrV x, .int .i64 i] w fun e w' => e = .returned (.int .i64 (c i)) ∧ w' = w := by
  have CF := hid (find_in w h.at' hi)
  obtain ⟨c0, -, -⟩ := h.at'.cell hi
  have hx := h.lt
  clear h
  go_enter Tryd.func13, Tryd.ntmps13
  go_wp2_with (go_at_call 17; (with_reducible refine CF.out.mono ?_); rintro e w2 ⟨rfl, hw2⟩; rw [hw2]; clear hw2; clear w2)
  go_returns
  exact ⟨rfl, rfl⟩
set_option maxHeartbeats 1000000 in
theorem count_out (w : World) {o : Int} (h : o < 0 ∨ 4 ≤ o) : Calls Tryd.prog 13 #[ptrV x, .int .i64 o] w fun e w' => e = .returned (.int .i64 0) ∧ w' = w := by
  have CF := hid (find_out w (x := x) h)
  clear h
  go_enter Tryd.func13, Tryd.ntmps13
  go_wp2_with (go_at_call 17; (with_reducible refine CF.out.mono ?_); rintro e w2 ⟨rfl, hw2⟩; rw [hw2]; clear hw2; clear w2)
  go_returns
  exact ⟨rfl, rfl⟩
end
end Ob
end Go.Proofs.YtoimkocjfijlkaaDoor
