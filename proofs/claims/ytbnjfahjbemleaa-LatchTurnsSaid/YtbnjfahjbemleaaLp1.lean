/- The program's latch: ask, AskPlan, AskLevel, Plan. -/
import Derived.Test.YtbnjfahjbemleaaLp0
namespace Go.Proofs.Ytbnjfahjbemleaa
open Go.RowKit

theorem errV_10 : errV 10 = .iface 47 (.int .i64 10) := errV_pos (by decide)
theorem errV_13 : errV 13 = .iface 47 (.int .i64 13) := errV_pos (by decide)
set_option maxRecDepth 100000 in
set_option maxHeartbeats 1000000 in
theorem ask_bad {q o : Nat} {few what : Int} {w : World} (h0 : w.cell? ⟨q, o, none⟩ = some (.int .i64 few)) (hb : ¬ (0 ≤ what ∧ what < few)) :
    Calls Try.prog 18 #[.pointer (some ⟨q, o, none⟩), .int .i64 what] w (Yields w (errV 10)) := by
  by_cases h1 : what < 0
  · clear hb
    go_enter Try.func18, Try.ntmps18
    go_wp2
    go_returns
    exact ⟨by simp [errV_10], ext_by⟩
  · have h2 : few ≤ what := by omega
    clear hb
    go_enter Try.func18, Try.ntmps18
    go_wp2
    go_returns
    exact ⟨by simp [errV_10], ext_by⟩
set_option maxRecDepth 100000 in
set_option maxHeartbeats 1000000 in
theorem ask_ok {q o : Nat} {few what : Int} {w : World} {y : Value} (h0 : w.cell? ⟨q, o, none⟩ = some (.int .i64 few)) (h1 : w.cell? ⟨q, o + 1, none⟩ = some y) (hf : w.frozen? ⟨q, o + 1, none⟩ = false) (hb : 0 ≤ what) (hb2 : what < few) :
    Calls Try.prog 18 #[.pointer (some ⟨q, o, none⟩), .int .i64 what] w fun e w' => e = .returned .nilIface ∧ ∃ w1, Ext w w1 ∧ w' = w1.setCell ⟨q, o + 1, none⟩ (.int .i64 what) := by
  have h2 : ¬ what < 0 := by omega
  have h3 : ¬ few ≤ what := by omega
  go_enter Try.func18, Try.ntmps18
  go_wp2
  go_returns
  exact ⟨by simp, _, Ext.refl _, rfl⟩
theorem PLg.ext {b g : Nat} {c : Cnf} {s : Lt} {w w' : World} (h : PLg b g c s w) (k : Ext w w') : PLg b g c s w' := ⟨h.ok, h.blk.ext k, h.ch.ext k, h.ne, h.d1, h.d6⟩
set_option maxRecDepth 100000 in
set_option maxHeartbeats 1000000 in
theorem pAskPlan {A : Nat → Prop} {b : Nat} {c : Cnf} {s : Lt} {w : World} (h : PL A b c s w) (i : Int) : Calls Try.prog 10 #[.pointer (some ⟨b, 0, none⟩), .int .i64 i] w fun e w' => ∃ B, e = .returned (errV (s.askPlan c i).1) ∧ Mvp A B w w' ∧ PL B b c (s.askPlan c i).2 w' := by
  obtain ⟨g, hA, h⟩ := h.at'
  have H := hid h
  have HA := hid hA
  obtain ⟨k0, k1, -, -, kf, hb⟩ := h.cells
  have f1 := kf 1
  clear h kf hA
  by_cases hi : 0 ≤ i ∧ i < c.plans.length
  · obtain ⟨i0, i1⟩ := hi
    have hE : Hid (s.askPlan c i = (0, { s with ap := i })) := hid (by unfold Lt.askPlan; rw [if_pos ⟨i0, i1⟩])
    have hok : Hid (LtOk c { s with ap := i }) := hid (by have := H.out.ok.askPlan i; rw [hE.out] at this; exact this)
    go_enter Try.func10, Try.ntmps10
    go_wp2_with (go_at_call 18; (with_reducible refine (ask_ok k0 k1 f1 i0 i1).mono ?_); rintro e w2 ⟨rfl, w1, hx, rfl⟩)
    go_returns
    rw [hE.out]
    have hR := H.out.ext hx
    refine ⟨A, by simp [errV_0], (Mvp.of_ext hx).set ((HA.out b).2 (.inl rfl)) 1 _, ⟨g, HA.out, hok.out, ?_, hR.ch.other hR.ne _ _, hR.ne, hR.d1, hR.d6⟩⟩
    have := hR.blk.set 1 (.int .i64 i)
    simpa using this
  · have hE : Hid (s.askPlan c i = (10, s)) := hid (by unfold Lt.askPlan; rw [if_neg hi])
    have HI := hid hi
    clear hi
    go_enter Try.func10, Try.ntmps10
    go_wp2_with (go_at_call 18; (with_reducible refine (ask_bad k0 HI.out).yields ?_); intro p1)
    go_returns
    rw [hE.out]
    exact ⟨A, by simp, Mvp.of_ext ext_by, ⟨g, HA.out, H.out.ext ext_by⟩⟩
set_option maxRecDepth 100000 in
set_option maxHeartbeats 1000000 in
theorem pAskLevel {A : Nat → Prop} {b : Nat} {c : Cnf} {s : Lt} {w : World} (h : PL A b c s w) (d l : Int) : Calls Try.prog 11 #[.pointer (some ⟨b, 0, none⟩), .int .i64 d, .int .i64 l] w fun e w' => ∃ B, e = .returned (errV (s.askLevel c d l).1) ∧ Mvp A B w w' ∧ PL B b c (s.askLevel c d l).2 w' := by
  obtain ⟨g, hA, h⟩ := h.at'
  have H := hid h
  have HA := hid hA
  obtain ⟨-, -, -, k3, -, hb⟩ := h.cells
  clear h hA
  by_cases h0 : d < 0
  · have hE : Hid (s.askLevel c d l = (13, s)) := hid (by unfold Lt.askLevel; rw [if_neg (by omega)])
    go_enter Try.func11, Try.ntmps11
    go_wp2
    go_returns
    rw [hE.out]
    exact ⟨A, by simp [errV_13], Mvp.of_ext ext_by, ⟨g, HA.out, H.out.ext ext_by⟩⟩
  by_cases h1 : (c.doms.length : Int) ≤ d
  · have hE : Hid (s.askLevel c d l = (13, s)) := hid (by unfold Lt.askLevel; rw [if_neg (by omega)])
    go_enter Try.func11, Try.ntmps11
    go_wp2
    go_returns
    rw [hE.out]
    exact ⟨by simp [errV_13], A, Mvp.of_ext ext_by, ⟨g, HA.out, H.out.ext ext_by⟩⟩
  obtain ⟨k, rfl⟩ : ∃ k : Nat, d = k := ⟨d.toNat, by omega⟩
  have hk : k < c.doms.length := by omega
  have i1 : (k : Int) < c.doms.length := by omega
  have hal := H.out.ok.al
  have c0 := H.out.ch.few k _ (fews_get hk)
  obtain ⟨y, c1⟩ : ∃ y, w.cell? ⟨g, k * 3 + 1, none⟩ = some y := ⟨_, H.out.ch.ask k _ (List.getElem?_eq_getElem (by omega))⟩
  have f1 := H.out.ch.fr (k * 3 + 1)
  have hg := H.out.ch.lt
  clear hal
  by_cases hi : 0 ≤ l ∧ l < (relOf c k).length
  · obtain ⟨j0, j1⟩ := hi
    have hE : Hid (s.askLevel c k l = (0, { s with al := s.al.set k l })) := hid (by unfold Lt.askLevel; rw [if_pos (by omega), if_pos (by omega)]; simp)
    have hok : Hid (LtOk c { s with al := s.al.set k l }) := hid (by have := H.out.ok.askLevel k l; rw [hE.out] at this; exact this)
    generalize ((relOf c k).length : Int) = few at *
    go_enter Try.func11, Try.ntmps11
    go_wp2_with (go_at_call 18; (with_reducible refine (ask_ok (q := g) (o := k * 3) c0 c1 f1 j0 j1).mono ?_); rintro e w2 ⟨rfl, w1, hx, rfl⟩)
    go_returns
    rw [hE.out]
    have hR := H.out.ext hx
    refine ⟨A, by simp [errV_0], (Mvp.of_ext hx).set ((HA.out g).2 (.inr rfl)) _ _, ⟨g, HA.out, hok.out, hR.blk.other (fun e => hR.ne e.symm) _ _, hR.ch.setAsk k l, hR.ne, hR.d1, hR.d6⟩⟩
  · have hE : Hid (s.askLevel c k l = (10, s)) := hid (by unfold Lt.askLevel; rw [if_pos (by omega), if_neg hi])
    have HI := hid hi
    clear hi
    go_enter Try.func11, Try.ntmps11
    go_wp2_with (go_at_call 18; (with_reducible refine (ask_bad (q := g) (o := k * 3) c0 HI.out).yields ?_); intro p1)
    go_returns
    rw [hE.out]
    exact ⟨A, by simp, Mvp.of_ext ext_by, ⟨g, HA.out, H.out.ext ext_by⟩⟩
set_option maxRecDepth 100000 in
theorem pPlan {A : Nat → Prop} {b : Nat} {c : Cnf} {s : Lt} {w : World} (h : PL A b c s w) : Calls Try.prog 9 #[.pointer (some ⟨b, 0, none⟩)] w (Yields w (.int .i64 s.p)) := by
  obtain ⟨g, -, h⟩ := h.at'
  obtain ⟨-, -, k2, -, -, hb⟩ := h.cells
  clear h
  go_enter Try.func9, Try.ntmps9
  go_wp2
  go_returns
  exact ⟨by simp, ext_by⟩
end Go.Proofs.Ytbnjfahjbemleaa
