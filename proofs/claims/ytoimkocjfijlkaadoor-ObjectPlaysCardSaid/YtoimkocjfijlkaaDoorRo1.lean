/- The document's own objects: Signal. -/
import Derived.Test.YtoimkocjfijlkaaDoorRo0
import Derived.Deep.RegionLaw
import Derived.IntWalk
namespace Go.Proofs.YtoimkocjfijlkaaDoor
open Go.RowKit
set_option maxRecDepth 100000
set_option linter.unusedSimpArgs false
namespace Ro
open Ob (upd upd_same upd_other four flat)
section
variable {base y : Nat} {c : Nat → Int} {V : Nat → Value} {W : Nat → List Int} {w w' : World}
set_option maxHeartbeats 1000000 in
theorem signal_form (w : World) {o : Int} (h : o < 0 ∨ 4 ≤ o) : Calls Tryd.prog 10 #[.pointer (some ⟨y, 0, none⟩), .int .i64 o] w fun e w' => e = .returned (.tuple #[.int .i64 0, .bool false, .int .i64 10]) ∧ w' = w := by
  have CF := hid (obj_out w h)
  clear h
  go_enter Tryd.func10, Tryd.ntmps10
  go_wp2_with (go_at_call 19; (with_reducible refine CF.out.mono ?_); rintro e w2 ⟨rfl, hw2⟩; rw [hw2]; clear hw2; clear w2)
  go_returns
  exact ⟨rfl, rfl⟩
set_option maxHeartbeats 2000000 in
theorem signal_none (h : RO base y c V W w) {i : Nat} (hi : i < 4) (hr : W i = []) (hc : 0 ≤ c i ∧ c i ≤ 255) :
    Calls Tryd.prog 10 #[.pointer (some ⟨y, 0, none⟩), .int .i64 i] w fun v w' => v = .returned (.tuple #[.int .i64 0, .bool false, .int .i64 0]) ∧ RO base y (upd c i (min (c i + 1) 255)) V W w' ∧ Mvp (ROwn y V) (ROwn y V) w w' := by
  have CF := hid (obj_in w hi)
  obtain ⟨c0, c1⟩ := h.cell hi
  obtain ⟨p, cap, hv, -, -⟩ := (h.rows i hi).shape
  rw [hr] at hv
  have hv : V i = .slice p 0 cap := hv
  rw [hv] at c1
  have f0 := h.free i
  have hy := h.lt
  have HH := hid h
  have HI := hid hi
  have HC := hid hc
  have hwr : IntKind.i64.wrap (c i + 1) = c i + 1 := IntWalk.i64_in _ (by omega)
  have i1 : (i : Int) < 4 := by omega
  clear h hc hi hr hv
  by_cases hlt : c i < 255
  · have hm1 : min (c i + 1) 255 = c i + 1 := by omega
    have HF := hid (HH.out.setC HI.out (c i + 1))
    go_enter Tryd.func10, Tryd.ntmps10
    go_wp2_with (go_at_call 19; (with_reducible refine CF.out.mono ?_); rintro e w2 ⟨rfl, hw2⟩; rw [hw2]; clear hw2; clear w2)
    go_region
    go_wp2
    go_returns
    rw [hm1]
    exact ⟨rfl, HF.out.ext (Ext.drew (Ext.refl _)), ((Mvp.refl _ w).set (g := y) (.inl rfl) _ _).ext (Ext.drew (Ext.refl _))⟩
  · have hce : c i = 255 := by have := HC.out; omega
    have hm1 : min (c i + 1) 255 = 255 := by omega
    have HF := hid (HH.out.setC HI.out 255)
    rw [← hm1] at HF
    rw [hce] at c0
    clear hwr
    go_enter Tryd.func10, Tryd.ntmps10
    go_wp2_with (go_at_call 19; (with_reducible refine CF.out.mono ?_); rintro e w2 ⟨rfl, hw2⟩; rw [hw2]; clear hw2; clear w2)
    go_region
    go_wp2
    go_returns
    rw [hm1] at HF ⊢
    exact ⟨rfl, HF.out.ext (Ext.drew (Ext.refl _)), ((Mvp.refl _ w).set (g := y) (.inl rfl) _ _).ext (Ext.drew (Ext.refl _))⟩
set_option maxHeartbeats 2000000 in
theorem signal_one (h : RO base y c V W w) {i : Nat} (hi : i < 4) {id : Int} {rest : List Int} (hr : W i = id :: rest) (hl : (W i).length ≤ 1000000) :
    Calls Tryd.prog 10 #[.pointer (some ⟨y, 0, none⟩), .int .i64 i] w fun v w' => v = .returned (.tuple #[.int .i64 id, .bool true, .int .i64 0]) ∧ ∃ V', RO base y c V' (upd W i rest) w' ∧ Mvp (ROwn y V) (ROwn y V') w w' := by
  have CF := hid (obj_in w hi)
  obtain ⟨c0, c1⟩ := h.cell hi
  have hrow := h.rows i hi
  rw [hr] at hrow hl
  rcases hrow with ⟨_, q⟩ | ⟨g, off, cap, hv, h1, h2, h3, h4⟩
  · cases q
  rw [hv] at c1
  have k0 := h4 0 id rfl
  simp only [Nat.add_zero] at k0
  have f0 := h.free (4 + i)
  have hy := h.lt
  have HH := hid h
  have HI := hid hi
  have i1 : (i : Int) < 4 := by omega
  simp only [List.length_cons] at c1 h1 hl
  obtain ⟨p1, hp1⟩ : ∃ p1, p1 = (if cap = 1 then some ⟨g, off, none⟩ else (some (⟨g, off, none⟩ : Addr)).map (·.add (1 * 1))) := ⟨_, rfl⟩
  obtain ⟨c2, hc2⟩ : ∃ c2, c2 = cap - 1 := ⟨_, rfl⟩
  have hsl : ∀ w, (Instr.slice 28 (.slice (some ⟨g, off, none⟩) (rest.length + 1) cap) (some (.int .i64 1)) none none).run Tryd.prog w = .ok (.slice p1 rest.length c2) w := fun w => by
    rw [run_slice_l w 28 (some ⟨g, off, none⟩) (rest.length + 1) cap Tryd.underlying28 .i64 1 (by omega) (by omega), hp1, hc2]
    rfl
  have HRW : Hid (∀ w', Ext w w' → RW base y w' (.slice p1 rest.length c2) rest) := fun w' hx => by
    rw [hp1, hc2]
    refine .inr ?_
    by_cases e : cap = 1
    · rw [if_pos e]
      have : rest = [] := List.eq_nil_of_length_eq_zero (by omega)
      subst this
      exact ⟨g, off, cap - 1, rfl, by simp, by unfold maxLen at *; omega, ⟨h3.1, h3.2.1, Nat.lt_of_lt_of_le h3.2.2 hx.size⟩, fun i x hx => by simp at hx⟩
    · rw [if_neg e]
      refine ⟨g, off + 1, cap - 1, by simp [add_add], by omega, by unfold maxLen at *; omega, ⟨h3.1, h3.2.1, Nat.lt_of_lt_of_le h3.2.2 hx.size⟩, fun i x hi => hx.cell ?_⟩
      have := h4 (i + 1) x (by simpa using hi)
      rw [show off + 1 + i = off + (i + 1) by omega]
      exact this
  have HG : Hid (sblk (.slice p1 rest.length c2) = some g) := by
    show sblk _ = some g
    rw [hp1]
    split
    · rfl
    · simp [sblk, add_add]
  have HV := hid hv
  have hgl := h3.2.2
  have i2 : (0 : Int) < (rest.length : Int) + 1 := by omega
  generalize rest.length = n at *
  clear h h3 h4 hr hv hp1 hc2 hi
  go_enter Tryd.func10, Tryd.ntmps10
  go_wp2_with (go_at_call 19; (with_reducible refine CF.out.mono ?_); rintro e w2 ⟨rfl, hw2⟩; rw [hw2]; clear hw2; clear w2)
  go_region
  go_wp2
  go_returns
  refine ⟨rfl, _, (HH.out.setW HI.out (HRW.out w (Ext.refl _))).ext (Ext.drew (Ext.refl _)), ro_mv (((Mvp.refl _ w).set (g := y) (.inl rfl) _ _).ext (Ext.drew (Ext.refl _))) fun j hj k hk => .inl ?_⟩
  by_cases e : j = i
  · subst e
    rw [upd_same, HG.out] at hk
    cases hk
    exact .inr ⟨j, hj, by rw [HV.out]; rfl⟩
  · rw [upd_other e] at hk
    exact .inr ⟨j, hj, hk⟩
end
end Ro
end Go.Proofs.YtoimkocjfijlkaaDoor
