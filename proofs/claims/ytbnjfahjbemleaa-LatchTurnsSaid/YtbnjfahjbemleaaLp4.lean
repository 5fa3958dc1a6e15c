/- The program's latch: Turn, a goto over its choices. -/
import Derived.Test.YtbnjfahjbemleaaLp1
namespace Go.Proofs.Ytbnjfahjbemleaa
open Go.RowKit

def lenOfL : Value → Nat
  | .slice _ n _ => n
  | _ => 0
/-- Of the choices, k are turned: the plan's first, then the levels'. -/
def TurnS (A : Nat → Prop) (b g : Nat) (c : Cnf) (s : Lt) (w : World) (k : Nat) (w' : World) : Prop :=
  ∃ (pv : Int) (l' : List Int), Mvp A A w w' ∧ PLg b g c ⟨pv, s.ap, l', s.al⟩ w' ∧ (0 < k → pv = s.ap) ∧ ∀ j, j + 1 < k → l'[j]? = s.al[j]?
/-- Where the next one to be turned lies. -/
def TurnAt (b g k q o : Nat) : Prop := (k = 0 ∧ q = b ∧ o = 0) ∨ (0 < k ∧ q = g ∧ o = (k - 1) * 3)
theorem TurnS.step {A : Nat → Prop} {b g : Nat} {c : Cnf} {s : Lt} {w : World} {k : Nat} {w' : World} (hA : ∀ k, A k ↔ k = b ∨ k = g) (h : TurnS A b g c s w k w') (hk : k ≤ c.doms.length) {q o : Nat} (hq : TurnAt b g k q o) :
    ∃ x old, w'.cell? ⟨q, o + 1, none⟩ = some (.int .i64 x) ∧ w'.cell? ⟨q, o + 2, none⟩ = some old ∧ w'.frozen? ⟨q, o + 2, none⟩ = false ∧ q < w'.heap.size ∧ TurnS A b g c s w (k + 1) (w'.setCell ⟨q, o + 2, none⟩ (.int .i64 x)) := by
  obtain ⟨pv, l', hm, hP, h1, h2⟩ := h
  have hok := hP.ok
  rcases hq with ⟨rfl, rfl, rfl⟩ | ⟨h0, rfl, rfl⟩
  · obtain ⟨-, k1, k2, -, kf, hb⟩ := hP.cells
    refine ⟨s.ap, _, k1, k2, kf 2, hb, s.ap, l', hm.set ((hA q).2 (.inl rfl)) 2 _, ⟨⟨hok.ll, hok.al, hok.ap0, hok.ap1, hok.ap0, hok.ap1⟩, ?_, hP.ch.other hP.ne _ _, hP.ne, hP.d1, hP.d6⟩, fun _ => rfl, fun j hj => by omega⟩
    have := hP.blk.set 2 (.int .i64 s.ap)
    simpa using this
  · have ha : k - 1 < s.al.length := by rw [hok.al]; omega
    have hl : k - 1 < l'.length := by rw [hok.ll]; omega
    have e := h1 h0
    subst e
    refine ⟨s.al[k - 1], _, hP.ch.ask _ _ (List.getElem?_eq_getElem ha), hP.ch.hold _ _ (List.getElem?_eq_getElem hl), hP.ch.fr _, hP.ch.lt, s.ap, l'.set (k - 1) s.al[k - 1], hm.set ((hA q).2 (.inr rfl)) _ _, ⟨⟨by rw [List.length_set]; exact hok.ll, hok.al, hok.ap0, hok.ap1, hok.ap0, hok.ap1⟩, hP.blk.other (fun e => hP.ne e.symm) _ _, hP.ch.setHold _ _, hP.ne, hP.d1, hP.d6⟩, fun _ => rfl, fun j hj => ?_⟩
    rcases (show j + 1 < k ∨ j = k - 1 by omega) with h | rfl
    · rw [List.getElem?_set_ne (by omega)]; exact h2 j h
    · rw [List.getElem?_set_self hl, List.getElem?_eq_getElem ha]
theorem TurnS.done {A : Nat → Prop} {b g : Nat} {c : Cnf} {s : Lt} {w w' : World} (hA : ∀ k, A k ↔ k = b ∨ k = g) (h : TurnS A b g c s w (c.doms.length + 1) w') : Mvp A A w w' ∧ PL A b c s.turn w' := by
  obtain ⟨pv, l', hm, hP, h1, h2⟩ := h
  obtain rfl : l' = s.al := List.ext_getElem? fun j => by
    rcases Nat.lt_or_ge j c.doms.length with h | h
    · exact h2 j (by omega)
    · have a1 := hP.ok.ll
      have a2 := hP.ok.al
      simp only at a1 a2
      rw [List.getElem?_eq_none (by omega), List.getElem?_eq_none (by omega)]
  rw [h1 (by omega)] at hP
  exact ⟨hm, ⟨g, hA, hP⟩⟩
theorem TurnS.drew {A : Nat → Prop} {b g : Nat} {c : Cnf} {s : Lt} {w w' : World} {k : Nat} (h : TurnS A b g c s w k w') : TurnS A b g c s w k w'.drew := by
  obtain ⟨pv, l', hm, hP, h1, h2⟩ := h
  exact ⟨pv, l', hm.ext (Ext.drew (Ext.refl _)), hP.ext (Ext.drew (Ext.refl _)), h1, h2⟩
/-- At the label: the next one to be turned, the levels that are left behind it. -/
def TurnJ (A : Nat → Prop) (b g : Nat) (c : Cnf) (s : Lt) (w : World) (a' : Act) (w' : World) : Prop :=
  ∃ (k q o : Nat) (p : Option Addr) (m : Nat) (u1 u4 u5 u6 u7 u8 u9 u10 u11 u12 u13 u14 u15 u16 u17 u18 u19 u20 u21 u22 u23 u24 : Value), a' = { tmps := #[.pointer (some ⟨b, 0, none⟩), u1, .pointer (some ⟨q, o, none⟩), .slice p m m, u4, u5, u6, u7, u8, u9, u10, u11, u12, u13, u14, u15, u16, u17, u18, u19, u20, u21, u22, u23, u24], defers := [] } ∧ Hid (TurnS A b g c s w k w') ∧ Hid (TurnAt b g k q o) ∧ k + m = c.doms.length ∧ (0 < m → p = some ⟨g, k * 3, none⟩)
set_option maxRecDepth 100000 in
set_option maxHeartbeats 1000000 in
theorem pTurn {A : Nat → Prop} {b : Nat} {c : Cnf} {s : Lt} {w : World} (h : PL A b c s w) : Calls Try.prog 13 #[.pointer (some ⟨b, 0, none⟩)] w fun e w' => ∃ B, e = .returned (.tuple #[]) ∧ Mvp A B w w' ∧ PL B b c s.turn w' := by
  obtain ⟨g, hA, h⟩ := h.at'
  have H := hid h
  have HA := hid hA
  obtain ⟨-, -, -, k3, -, hb⟩ := h.cells
  have d6 := h.d6
  clear h hA
  go_enter Try.func13, Try.ntmps13
  refine wp_goto 0 (TurnJ A b g c s w) (fun a' _ => lenOfL (a'.tmps.getD 3 undef)) rfl ?_ ?_
  · refine fun a' w1 => ex_elim fun k => ex_elim fun q => ex_elim fun o => ex_elim fun p => ex_elim fun m => ex8 fun u1 u4 u5 u6 u7 u8 u9 u10 => ex8 fun u11 u12 u13 u14 u15 u16 u17 u18 => ex4 fun u19 u20 u21 u22 => ex2 fun u23 u24 => ?_
    rintro ⟨rfl, hS, hQ, hkm, hp⟩
    obtain ⟨x, old, c1, c2, cf, hq, hS2⟩ := hS.out.step HA.out (by omega) hQ.out
    have HS2 := hid hS2
    clear hS hQ hS2
    rcases Nat.eq_zero_or_pos m with rfl | hm
    · clear hp
      go_wp2_with fail
      simp only [Exit.jump]
      go_returns
      obtain rfl : k = c.doms.length := by omega
      have := HS2.out.done HA.out
      exact ⟨rfl, A, this.1, this.2⟩
    · obtain rfl := hp hm
      have i1 : (0 : Int) < m := by omega
      clear hp
      go_wp2_with fail
      rcases (show m = 1 ∨ 1 < m by omega) with rfl | h1
      · go_region
        go_wp2
        go_step3
        refine And.intro rfl (And.intro ?_ ?_)
        · exact ⟨k + 1, g, k * 3, _, 0, _, _, _, _, _, _, _, _, _, _, _, _, _, _, _, _, _, _, _, _, _, _, rfl, hid (HS2.out.drew), hid (.inr ⟨by omega, rfl, by simp⟩), by omega, fun h => absurd h (by omega)⟩
        · show 0 < 1
          omega
      · have h2 : m ≠ 1 := by omega
        go_region
        go_wp2
        go_step3
        refine And.intro rfl (And.intro ?_ ?_)
        · exact ⟨k + 1, g, k * 3, _, m - 1, _, _, _, _, _, _, _, _, _, _, _, _, _, _, _, _, _, _, _, _, _, _, rfl, hid (HS2.out.drew), hid (.inr ⟨by omega, rfl, by simp⟩), by omega, fun _ => by rw [show (k + 1) * 3 = k * 3 + 3 by omega]⟩
        · show m - 1 < m
          omega
  · intro start
    have Start := hid start
    clear start
    go_wp2_with fail
    go_region
    go_wp2
    go_step3
    simp only [Exit.then]
    refine ‹∀ (a : Act) (w : World), Code.wp _ _ _ a w → _› _ _ ?_
    exact Start.out _ _ ⟨0, b, 0, some ⟨g, 0, none⟩, c.doms.length, _, _, _, _, _, _, _, _, _, _, _, _, _, _, _, _, _, _, _, _, _, _, rfl, hid ⟨s.p, s.l, Mvp.of_ext ext_by, H.out.ext ext_by, fun h => by omega, fun j hj => by omega⟩, hid (.inl ⟨rfl, rfl, rfl⟩), by omega, fun _ => by simp⟩
end Go.Proofs.Ytbnjfahjbemleaa
