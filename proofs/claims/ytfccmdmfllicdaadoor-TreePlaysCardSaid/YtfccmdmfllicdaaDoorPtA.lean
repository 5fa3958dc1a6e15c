/- The program's own tree: Add. -/
import Derived.Test.YtfccmdmfllicdaaDoorPt9
namespace Go.Proofs.YtfccmdmfllicdaaDoor
open Go.RowKit
set_option linter.unusedSimpArgs false

def grpU (l : List Nd) (id : Int) : Bool := match getU l id with
  | some p => !p.thr
  | none => false
/-- What Add answers; dn: how deep the parent is. -/
def addC (l : List Nd) (dn : Nat) (parent id wt : Int) (thr : Bool) : Nat :=
  if isW wt = false ∨ id ≤ 0 then 10 else if grpU l parent = false then 13 else if hasU l id = true then 20 else if thr = false ∧ 4 ≤ dn then 12 else if 60 ≤ l.length then 14 else 0
def newN (l : List Nd) (parent id wt : Int) (thr : Bool) : Nd := ⟨id, parent, wt, nowU l parent, thr, false, 0⟩

section
variable {base x : Nat} {W : Wit} {l : List Nd} {w : World}
set_option maxRecDepth 100000 in
set_option maxHeartbeats 4000000 in
theorem addP_err (h : TOk base x W l w) (dn : Nat) (parent id wt : Int) (thr : Bool) (hd : dn ≤ 900) (hu : Up l dn parent) {k : Nat} (hk : addC l dn parent id wt thr = k) (hk0 : k ≠ 0) :
    Calls Tryd.prog 8 #[.pointer (some ⟨x, 0, none⟩), .int .i64 parent, .int .i64 id, .int .i64 wt, .bool thr] w (Yields w (errV k)) := by
  have hl1 : l.length ≤ 1000 := by have := h.len; omega
  have HFP : Hid (∀ w', Ext w w' → Calls Tryd.prog 27 #[.pointer (some ⟨x, 0, none⟩), .int .i64 parent] w' (Yields w' (nodP W l parent))) := fun w' hx => find_at (h.pt.ext hx) h.ids hl1 _
  have HFI : Hid (∀ w', Ext w w' → Calls Tryd.prog 27 #[.pointer (some ⟨x, 0, none⟩), .int .i64 id] w' (Yields w' (nodP W l id))) := fun w' hx => find_at (h.pt.ext hx) h.ids hl1 _
  have HDP : Hid (∀ w', Ext w w' → Calls Tryd.prog 21 #[.pointer (some ⟨x, 0, none⟩), .int .i64 parent] w' (Yields w' (.int .i64 dn))) := fun w' hx => deep_any (h.pt.ext hx) h.ids h.clo h.len _ dn (by omega) hu
  rw [errV_pos hk0]
  unfold addC at hk
  by_cases c1 : isW wt = false ∨ id ≤ 0
  · rw [if_pos c1] at hk
    subst hk
    generalize nodP W l parent = P1 at *
    clear HFI HDP h hl1
    cases hw : isW wt
    · have HW := hid hw
      clear hw c1
      go_enter Tryd.func8, Tryd.ntmps8
      go_wp2_with (first | (go_at_call 27; (with_reducible refine (HFP.out _ (by repeat (first | exact Ext.refl _ | assumption | refine Ext.more ?_ _ | refine Ext.drew ?_ | refine Ext.drewN ?_ _ | refine Ext.alloc ?_ _ | refine Ext.setCell ?_ (by simp; try omega) _ | refine Ext.trans ?_ (by assumption)))).yields ?_); intro q1) | (go_at_call 28; (with_reducible refine (isW_to HW.out _).yields ?_); intro q2))
      all_goals first | (exfalso; omega) | (go_returns; exact ⟨rfl, (by repeat (first | exact Ext.refl _ | assumption | refine Ext.more ?_ _ | refine Ext.drew ?_ | refine Ext.drewN ?_ _ | refine Ext.alloc ?_ _ | refine Ext.setCell ?_ (by simp; try omega) _ | refine Ext.trans ?_ (by assumption)))⟩)
    · have HW := hid hw
      have hi : id ≤ 0 := by rcases c1 with e | e; · rw [hw] at e; cases e
                             · exact e
      clear hw c1
      go_enter Tryd.func8, Tryd.ntmps8
      go_wp2_with (first | (go_at_call 27; (with_reducible refine (HFP.out _ (by repeat (first | exact Ext.refl _ | assumption | refine Ext.more ?_ _ | refine Ext.drew ?_ | refine Ext.drewN ?_ _ | refine Ext.alloc ?_ _ | refine Ext.setCell ?_ (by simp; try omega) _ | refine Ext.trans ?_ (by assumption)))).yields ?_); intro q1) | (go_at_call 28; (with_reducible refine (isW_to HW.out _).yields ?_); intro q2))
      all_goals first | (exfalso; omega) | (go_returns; exact ⟨rfl, (by repeat (first | exact Ext.refl _ | assumption | refine Ext.more ?_ _ | refine Ext.drew ?_ | refine Ext.drewN ?_ _ | refine Ext.alloc ?_ _ | refine Ext.setCell ?_ (by simp; try omega) _ | refine Ext.trans ?_ (by assumption)))⟩)
  · rw [if_neg c1] at hk
    have hw : isW wt = true := by cases e : isW wt; · exact absurd (.inl e) c1
                                  · rfl
    have hi : ¬ id ≤ 0 := fun e => c1 (.inr e)
    have HW := hid hw
    clear hw c1
    by_cases c2 : grpU l parent = false
    · rw [if_pos c2] at hk
      subst hk
      cases hg : getU l parent with
      | none =>
        have HP : Hid (nodP W l parent = .pointer none) := if_neg (by simp [hasU, hg])
        rw [HP.out] at HFP
        clear HFI HDP h hl1 hg c2 HP
        go_enter Tryd.func8, Tryd.ntmps8
        go_wp2_with (first | (go_at_call 27; (with_reducible refine (HFP.out _ (by repeat (first | exact Ext.refl _ | assumption | refine Ext.more ?_ _ | refine Ext.drew ?_ | refine Ext.drewN ?_ _ | refine Ext.alloc ?_ _ | refine Ext.setCell ?_ (by simp; try omega) _ | refine Ext.trans ?_ (by assumption)))).yields ?_); intro q1) | (go_at_call 28; (with_reducible refine (isW_to HW.out _).yields ?_); intro q2))
        all_goals first | (exfalso; omega) | (go_returns; exact ⟨rfl, (by repeat (first | exact Ext.refl _ | assumption | refine Ext.more ?_ _ | refine Ext.drew ?_ | refine Ext.drewN ?_ _ | refine Ext.alloc ?_ _ | refine Ext.setCell ?_ (by simp; try omega) _ | refine Ext.trans ?_ (by assumption)))⟩)
      | some p =>
        obtain ⟨hp, rfl⟩ := getU_mem hg
        have HP : Hid (nodP W l p.id = .pointer (some ⟨W.nb p.id, 0, none⟩)) := if_pos (hasU_iff.2 ⟨p, hp, rfl⟩)
        rw [HP.out] at HFP
        have c2' : p.thr = true := by simpa [grpU, hg] using c2
        have m2 := (h.pt.cells hp).2.2.1
        rw [c2'] at m2
        have hpl := h.pt.nlt hp
        clear HFI HDP h hl1 hg c2 HP hp c2'
        go_enter Tryd.func8, Tryd.ntmps8
        go_wp2_with (first | (go_at_call 27; (with_reducible refine (HFP.out _ (by repeat (first | exact Ext.refl _ | assumption | refine Ext.more ?_ _ | refine Ext.drew ?_ | refine Ext.drewN ?_ _ | refine Ext.alloc ?_ _ | refine Ext.setCell ?_ (by simp; try omega) _ | refine Ext.trans ?_ (by assumption)))).yields ?_); intro q1) | (go_at_call 28; (with_reducible refine (isW_to HW.out _).yields ?_); intro q2))
        all_goals first | (exfalso; omega) | (go_returns; exact ⟨rfl, (by repeat (first | exact Ext.refl _ | assumption | refine Ext.more ?_ _ | refine Ext.drew ?_ | refine Ext.drewN ?_ _ | refine Ext.alloc ?_ _ | refine Ext.setCell ?_ (by simp; try omega) _ | refine Ext.trans ?_ (by assumption)))⟩)
    · rw [if_neg c2] at hk
      obtain ⟨p, hg⟩ : ∃ p, getU l parent = some p := by
        cases hg : getU l parent with
        | none => exact absurd (by simp [grpU, hg]) c2
        | some p => exact ⟨p, rfl⟩
      obtain ⟨hp, rfl⟩ := getU_mem hg
      have HP : Hid (nodP W l p.id = .pointer (some ⟨W.nb p.id, 0, none⟩)) := if_pos (hasU_iff.2 ⟨p, hp, rfl⟩)
      rw [HP.out] at HFP
      have c2' : p.thr = false := by simpa [grpU, hg] using c2
      have m2 := (h.pt.cells hp).2.2.1
      rw [c2'] at m2
      have hpl := h.pt.nlt hp
      by_cases c3 : hasU l id = true
      · rw [if_pos c3] at hk
        subst hk
        have HI : Hid (nodP W l id = .pointer (some ⟨W.nb id, 0, none⟩)) := if_pos c3
        rw [HI.out] at HFI
        clear HDP h hl1 hg c2 HP hp c2' HI c3
        go_enter Tryd.func8, Tryd.ntmps8
        go_wp2_with (first | (go_at_call 27; (with_reducible refine (HFP.out _ (by repeat (first | exact Ext.refl _ | assumption | refine Ext.more ?_ _ | refine Ext.drew ?_ | refine Ext.drewN ?_ _ | refine Ext.alloc ?_ _ | refine Ext.setCell ?_ (by simp; try omega) _ | refine Ext.trans ?_ (by assumption)))).yields ?_); intro q1) | (go_at_call 27; (with_reducible refine (HFI.out _ (by repeat (first | exact Ext.refl _ | assumption | refine Ext.more ?_ _ | refine Ext.drew ?_ | refine Ext.drewN ?_ _ | refine Ext.alloc ?_ _ | refine Ext.setCell ?_ (by simp; try omega) _ | refine Ext.trans ?_ (by assumption)))).yields ?_); intro q3) | (go_at_call 28; (with_reducible refine (isW_to HW.out _).yields ?_); intro q2))
        all_goals first | (exfalso; omega) | (go_returns; exact ⟨rfl, (by repeat (first | exact Ext.refl _ | assumption | refine Ext.more ?_ _ | refine Ext.drew ?_ | refine Ext.drewN ?_ _ | refine Ext.alloc ?_ _ | refine Ext.setCell ?_ (by simp; try omega) _ | refine Ext.trans ?_ (by assumption)))⟩)
      · rw [if_neg c3] at hk
        have HI : Hid (nodP W l id = .pointer none) := if_neg c3
        rw [HI.out] at HFI
        have cx := h.pt.cell
        have hxl := h.pt.lt
        obtain ⟨pp, cap, hv, -, -, -, -⟩ := h.pt.shape
        rw [hv] at cx
        by_cases c4 : thr = false ∧ 4 ≤ dn
        · rw [if_pos c4] at hk
          subst hk
          obtain ⟨rfl, h4⟩ := c4
          have h4' : (4 : Int) ≤ (dn : Int) := by omega
          clear h hl1 hg c2 HP hp c2' HI c3 cx hv
          go_enter Tryd.func8, Tryd.ntmps8
          go_wp2_with (first | (go_at_call 27; (with_reducible refine (HFP.out _ (by repeat (first | exact Ext.refl _ | assumption | refine Ext.more ?_ _ | refine Ext.drew ?_ | refine Ext.drewN ?_ _ | refine Ext.alloc ?_ _ | refine Ext.setCell ?_ (by simp; try omega) _ | refine Ext.trans ?_ (by assumption)))).yields ?_); intro q1) | (go_at_call 27; (with_reducible refine (HFI.out _ (by repeat (first | exact Ext.refl _ | assumption | refine Ext.more ?_ _ | refine Ext.drew ?_ | refine Ext.drewN ?_ _ | refine Ext.alloc ?_ _ | refine Ext.setCell ?_ (by simp; try omega) _ | refine Ext.trans ?_ (by assumption)))).yields ?_); intro q3) | (go_at_call 28; (with_reducible refine (isW_to HW.out _).yields ?_); intro q2) | (go_at_call 21; (with_reducible refine (HDP.out _ (by repeat (first | exact Ext.refl _ | assumption | refine Ext.more ?_ _ | refine Ext.drew ?_ | refine Ext.drewN ?_ _ | refine Ext.alloc ?_ _ | refine Ext.setCell ?_ (by simp; try omega) _ | refine Ext.trans ?_ (by assumption)))).yields ?_); intro q4))
          all_goals first | (exfalso; omega) | (go_returns; exact ⟨rfl, (by repeat (first | exact Ext.refl _ | assumption | refine Ext.more ?_ _ | refine Ext.drew ?_ | refine Ext.drewN ?_ _ | refine Ext.alloc ?_ _ | refine Ext.setCell ?_ (by simp; try omega) _ | refine Ext.trans ?_ (by assumption)))⟩)
        · rw [if_neg c4] at hk
          by_cases c5 : 60 ≤ l.length
          · rw [if_pos c5] at hk
            subst hk
            have c5' : (60 : Int) ≤ (l.length : Int) := by omega
            have hl60 : (l.length : Int) ≤ 60 := by have := h.len; omega
            cases thr with
            | true =>
              clear h hl1 hg c2 HP hp c2' HI c3 hv HDP c4
              go_enter Tryd.func8, Tryd.ntmps8
              go_wp2_with (first | (go_at_call 27; (with_reducible refine (HFP.out _ (by repeat (first | exact Ext.refl _ | assumption | refine Ext.more ?_ _ | refine Ext.drew ?_ | refine Ext.drewN ?_ _ | refine Ext.alloc ?_ _ | refine Ext.setCell ?_ (by simp; try omega) _ | refine Ext.trans ?_ (by assumption)))).yields ?_); intro q1) | (go_at_call 27; (with_reducible refine (HFI.out _ (by repeat (first | exact Ext.refl _ | assumption | refine Ext.more ?_ _ | refine Ext.drew ?_ | refine Ext.drewN ?_ _ | refine Ext.alloc ?_ _ | refine Ext.setCell ?_ (by simp; try omega) _ | refine Ext.trans ?_ (by assumption)))).yields ?_); intro q3) | (go_at_call 28; (with_reducible refine (isW_to HW.out _).yields ?_); intro q2))
              all_goals first | (exfalso; omega) | (go_returns; exact ⟨rfl, (by repeat (first | exact Ext.refl _ | assumption | refine Ext.more ?_ _ | refine Ext.drew ?_ | refine Ext.drewN ?_ _ | refine Ext.alloc ?_ _ | refine Ext.setCell ?_ (by simp; try omega) _ | refine Ext.trans ?_ (by assumption)))⟩)
            | false =>
              have h4' : ¬ (4 : Int) ≤ (dn : Int) := fun e => c4 ⟨rfl, by omega⟩
              clear h hl1 hg c2 HP hp c2' HI c3 hv c4
              go_enter Tryd.func8, Tryd.ntmps8
              go_wp2_with (first | (go_at_call 27; (with_reducible refine (HFP.out _ (by repeat (first | exact Ext.refl _ | assumption | refine Ext.more ?_ _ | refine Ext.drew ?_ | refine Ext.drewN ?_ _ | refine Ext.alloc ?_ _ | refine Ext.setCell ?_ (by simp; try omega) _ | refine Ext.trans ?_ (by assumption)))).yields ?_); intro q1) | (go_at_call 27; (with_reducible refine (HFI.out _ (by repeat (first | exact Ext.refl _ | assumption | refine Ext.more ?_ _ | refine Ext.drew ?_ | refine Ext.drewN ?_ _ | refine Ext.alloc ?_ _ | refine Ext.setCell ?_ (by simp; try omega) _ | refine Ext.trans ?_ (by assumption)))).yields ?_); intro q3) | (go_at_call 28; (with_reducible refine (isW_to HW.out _).yields ?_); intro q2) | (go_at_call 21; (with_reducible refine (HDP.out _ (by repeat (first | exact Ext.refl _ | assumption | refine Ext.more ?_ _ | refine Ext.drew ?_ | refine Ext.drewN ?_ _ | refine Ext.alloc ?_ _ | refine Ext.setCell ?_ (by simp; try omega) _ | refine Ext.trans ?_ (by assumption)))).yields ?_); intro q4))
              all_goals first | (exfalso; omega) | (go_returns; exact ⟨rfl, (by repeat (first | exact Ext.refl _ | assumption | refine Ext.more ?_ _ | refine Ext.drew ?_ | refine Ext.drewN ?_ _ | refine Ext.alloc ?_ _ | refine Ext.setCell ?_ (by simp; try omega) _ | refine Ext.trans ?_ (by assumption)))⟩)
          · rw [if_neg c5] at hk
            exact absurd hk.symm hk0
end
end Go.Proofs.YtfccmdmfllicdaaDoor
