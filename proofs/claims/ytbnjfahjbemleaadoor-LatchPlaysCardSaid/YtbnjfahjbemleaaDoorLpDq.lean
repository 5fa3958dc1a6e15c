/- The program's latch beside the document's: both in one memory, blocks F beside both. -/
import Derived.Test.YtbnjfahjbemleaaDoorLpTq
import Derived.Test.YtbnjfahjbemleaaDoorLr3
namespace Go.Proofs.YtbnjfahjbemleaaDoor
open Go.RowKit

/-- The program's latch (state s) at b, the document's (state t) at y, made behind W0; the blocks F lie beside both. -/
structure Du (W0 : World) (b y : Nat) (c : Cnf) (pv dv : Value) (s t : Lt) (F : Nat → Prop) (w : World) : Prop where
  ex : ∃ gl cl ga ca, P1 W0 b c s (fun k => F k ∨ LtB y gl ga k) w ∧ RLt y c pv dv t gl cl ga ca w ∧ (∀ k, LtB y gl ga k → W0.heap.size ≤ k) ∧ (∀ k, F k → ¬ LtB y gl ga k)
theorem Du.x {W0 : World} {b y : Nat} {c : Cnf} {pv dv : Value} {s t : Lt} {F : Nat → Prop} {w : World} (h : Du W0 b y c pv dv s t F w) : Ext W0 w := by obtain ⟨_, _, _, _, hp, -⟩ := h.ex; exact hp.x
theorem Du.f {W0 : World} {b y : Nat} {c : Cnf} {pv dv : Value} {s t : Lt} {F : Nat → Prop} {w : World} (h : Du W0 b y c pv dv s t F w) : ∀ k, F k → k < w.heap.size := by obtain ⟨_, _, _, _, hp, -⟩ := h.ex; exact fun k hk => hp.f k (.inl hk)
theorem Kept.less {F G : Nat → Prop} {w w' : World} (h : Kept F w w') (k : ∀ i, G i → F i) : Kept G w w' := ⟨h.1, fun i hi => h.2 i (k i hi)⟩
theorem RLt.kept {y : Nat} {c : Cnf} {pv dv : Value} {t : Lt} {gl cl ga ca : Nat} {F : Nat → Prop} {w w' : World} (h : RLt y c pv dv t gl cl ga ca w) (k : Kept F w w') (hF : ∀ i, LtB y gl ga i → F i) : RLt y c pv dv t gl cl ga ca w' :=
  ⟨by have := h.blk; unfold Blk at this ⊢; rw [k.2 y (hF y (.inl rfl))]; exact this, k.row (hF gl (.inr (.inl rfl))) h.l, k.row (hF ga (.inr (.inr rfl))) h.al, h.n1, h.n2, h.n3, h.ok⟩
theorem RLt.lt {y : Nat} {c : Cnf} {pv dv : Value} {t : Lt} {gl cl ga ca : Nat} {w : World} (h : RLt y c pv dv t gl cl ga ca w) (k : Nat) (hk : LtB y gl ga k) : k < w.heap.size := by
  rcases hk with rfl | rfl | rfl
  · exact h.blk.lt
  · exact h.far.1
  · exact h.far.2
section
variable {W0 : World} {b y : Nat} {c : Cnf} {pv dv : Value} {s t : Lt} {F : Nat → Prop} {w w' : World}
theorem Du.ext (h : Du W0 b y c pv dv s t F w) (k : Ext w w') : Du W0 b y c pv dv s t F w' := by
  obtain ⟨gl, cl, ga, ca, hp, hr, h1, h2⟩ := h.ex
  exact ⟨gl, cl, ga, ca, hp.ext k, hr.ext k, h1, h2⟩
theorem Du.less {G : Nat → Prop} (h : Du W0 b y c pv dv s t F w) (k : ∀ i, G i → F i) : Du W0 b y c pv dv s t G w := by
  obtain ⟨gl, cl, ga, ca, hp, hr, h1, h2⟩ := h.ex
  exact ⟨gl, cl, ga, ca, hp.less fun i hi => hi.imp_left (k i), hr, h1, fun i hi => h2 i (k i hi)⟩
theorem Du.more (h : Du W0 b y c pv dv s t F w) (k : Ext w w') {g : Nat} (h1 : w.heap.size ≤ g) (h2 : g < w'.heap.size) : Du W0 b y c pv dv s t (fun i => F i ∨ i = g) w' := by
  obtain ⟨gl, cl, ga, ca, hp, hr, h3, h4⟩ := h.ex
  refine ⟨gl, cl, ga, ca, (hp.more k h1 h2).less fun i hi => ?_, hr.ext k, h3, fun i hi hh => ?_⟩
  · rcases hi with (hi | hi) | hi
    · exact .inl (.inl hi)
    · exact .inr hi
    · exact .inl (.inr hi)
  · rcases hi with hi | rfl
    · exact h4 i hi hh
    · have := hr.lt i hh; omega
/-- Both newly made, the program's first. -/
theorem Du.new {w1 w2 : World} {A : Nat → Prop} {gl cl ga ca : Nat} (hx : Ext W0 w1) (hP : PL A b c s w1) (hA : ∀ k, A k → W0.heap.size ≤ k) (hF : ∀ k, F k → k < W0.heap.size) (hx2 : Ext w1 w2) (hr : RLt y c pv dv t gl cl ga ca w2) (h1 : w1.heap.size ≤ y) (h2 : w1.heap.size ≤ gl) (h3 : w1.heap.size ≤ ga) : Du W0 b y c pv dv s t F w2 := by
  have hl : ∀ k, LtB y gl ga k → w1.heap.size ≤ k := by rintro k (rfl | rfl | rfl) <;> assumption
  refine ⟨gl, cl, ga, ca, ⟨⟨A, hP.keep hx2.size fun i hi => hx2.below.block i (hP.lt i hi), hA, fun k hk ha => ?_⟩, hx.trans hx2, fun k hk => ?_⟩, hr, fun k hk => Nat.le_trans hx.size (hl k hk), fun k hk hh => ?_⟩
  · rcases hk with hk | hk
    · have := hF k hk; have := hA k ha; omega
    · have := hl k hk; have := hP.lt k ha; omega
  · rcases hk with hk | hk
    · exact Nat.lt_of_lt_of_le (hF k hk) (hx.trans hx2).size
    · exact hr.lt k hk
  · have := hF k hk; have := hl k hh; have := hx.size; omega
/-- What the program's latch has become. -/
theorem Du.pmoved {gl cl ga ca : Nat} {s' : Lt} (hr : RLt y c pv dv t gl cl ga ca w) (h1 : ∀ k, LtB y gl ga k → W0.heap.size ≤ k) (h2 : ∀ k, F k → ¬ LtB y gl ga k) (hp : P1 W0 b c s' (fun k => F k ∨ LtB y gl ga k) w') (hk : Kept (fun k => F k ∨ LtB y gl ga k) w w') : Du W0 b y c pv dv s' t F w' ∧ Kept F w w' :=
  ⟨⟨gl, cl, ga, ca, hp, hr.kept hk fun _ h => .inr h, h1, h2⟩, hk.less fun _ h => .inl h⟩
/-- What the document's latch has become. -/
theorem Du.rmoved {gl ga gl' cl' ga' ca' : Nat} {t' : Lt} (h : P1 W0 b c s (fun k => F k ∨ LtB y gl ga k) w) (h1 : ∀ k, LtB y gl ga k → W0.heap.size ≤ k) (h2 : ∀ k, F k → ¬ LtB y gl ga k) (hm : Mvp (LtB y gl ga) (LtB y gl' ga') w w') (hr : RLt y c pv dv t' gl' cl' ga' ca' w') : Du W0 b y c pv dv s t' F w' ∧ Kept F w w' := by
  obtain ⟨A, hA, h3, h4⟩ := h.ex
  refine ⟨⟨gl', cl', ga', ca', ⟨⟨A, hA.keep hm.size fun i hi => hm.block i (hA.lt i hi) fun hh => h4 i (.inr hh) hi, h3, fun k hk ha => ?_⟩, hm.xt h.x h1, fun k hk => ?_⟩, hr, fun k hk => ?_, fun k hk hh => ?_⟩, hm.size, fun k hk => hm.block k (h.f k (.inl hk)) (h2 k hk)⟩
  · rcases hk with hk | hk
    · exact h4 k (.inl hk) ha
    · rcases hm.own k hk with h5 | h5
      · exact h4 k (.inr h5) ha
      · have := hA.lt k ha; omega
  · rcases hk with hk | hk
    · exact Nat.lt_of_lt_of_le (h.f k (.inl hk)) hm.size
    · exact hr.lt k hk
  · rcases hm.own k hk with h5 | h5
    · exact h1 k h5
    · exact Nat.le_trans h.x.size h5
  · rcases hm.own k hh with h5 | h5
    · exact h2 k hk h5
    · have := h.f k (.inl hk); omega
theorem d_askPlan (h : Du W0 b y c pv dv s t F w) (i : Int) : Calls Tryd.prog 10 #[.pointer (some ⟨b, 0, none⟩), .int .i64 i] w fun e w' => e = .returned (errV (s.askPlan c i).1) ∧ Du W0 b y c pv dv (s.askPlan c i).2 t F w' ∧ Kept F w w' := by
  obtain ⟨gl, cl, ga, ca, hp, hr, h1, h2⟩ := h.ex
  refine (p1_askPlan hp i).mono ?_
  rintro e w' ⟨rfl, hp', hk⟩
  exact ⟨rfl, Du.pmoved hr h1 h2 hp' hk⟩
theorem d_askLevel (h : Du W0 b y c pv dv s t F w) (d l : Int) : Calls Tryd.prog 12 #[.pointer (some ⟨b, 0, none⟩), .int .i64 d, .int .i64 l] w fun e w' => e = .returned (errV (s.askLevel c d l).1) ∧ Du W0 b y c pv dv (s.askLevel c d l).2 t F w' ∧ Kept F w w' := by
  obtain ⟨gl, cl, ga, ca, hp, hr, h1, h2⟩ := h.ex
  refine (p1_askLevel hp d l).mono ?_
  rintro e w' ⟨rfl, hp', hk⟩
  exact ⟨rfl, Du.pmoved hr h1 h2 hp' hk⟩
theorem d_turn (h : Du W0 b y c pv dv s t F w) : Calls Tryd.prog 14 #[.pointer (some ⟨b, 0, none⟩)] w fun e w' => e = .returned (.tuple #[]) ∧ Du W0 b y c pv dv s.turn t F w' ∧ Kept F w w' := by
  obtain ⟨gl, cl, ga, ca, hp, hr, h1, h2⟩ := h.ex
  refine (p1_turn hp).mono ?_
  rintro e w' ⟨rfl, hp', hk⟩
  exact ⟨rfl, Du.pmoved hr h1 h2 hp' hk⟩
theorem d_plan (h : Du W0 b y c pv dv s t F w) : Calls Tryd.prog 16 #[.pointer (some ⟨b, 0, none⟩)] w (Yields w (.int .i64 s.p)) := by
  obtain ⟨gl, cl, ga, ca, hp, hr, h1, h2⟩ := h.ex
  exact p1_plan hp
theorem d_levels (h : Du W0 b y c pv dv s t F w) (h0 : 0 < c.doms.length) : Calls Tryd.prog 18 #[.pointer (some ⟨b, 0, none⟩)] w fun e w' => ∃ g cap, e = .returned (.slice (some ⟨g, 0, none⟩) c.doms.length cap) ∧ Ext w w' ∧ w.heap.size ≤ g ∧ Rw1 0 3 g cap (s.l.map iV) w' := by
  obtain ⟨gl, cl, ga, ca, hp, hr, h1, h2⟩ := h.ex
  exact p1_levels hp h0
theorem d_rturn (h : Du W0 b y c pv dv s t F w) (g : Good c) : Calls Tryd.prog 15 #[.pointer (some ⟨y, 0, none⟩)] w fun e w' => e = .returned (.tuple #[]) ∧ Du W0 b y c pv dv s t.turn F w' ∧ Kept F w w' := by
  obtain ⟨gl, cl, ga, ca, hp, hr, h1, h2⟩ := h.ex
  refine (rlTurn_any hr g).mono ?_
  rintro e w' ⟨gl', cl', rfl, hm, hr'⟩
  exact ⟨rfl, Du.rmoved hp h1 h2 hm hr'⟩
end
section
variable {W0 : World} {b y : Nat} {c : Cnf} {pp : Option Addr} {cp : Nat} {dv : Value} {s t : Lt} {F : Nat → Prop} {w w' : World}
theorem d_raskPlan (h : Du W0 b y c (.slice pp c.plans.length cp) dv s t F w) (i : Int) : Calls Tryd.prog 11 #[.pointer (some ⟨y, 0, none⟩), .int .i64 i] w fun e w' => e = .returned (.int .i64 (t.askPlan c i).1) ∧ Du W0 b y c (.slice pp c.plans.length cp) dv s (t.askPlan c i).2 F w' ∧ Kept F w w' := by
  obtain ⟨gl, cl, ga, ca, hp, hr, h1, h2⟩ := h.ex
  refine (raskPlan_any hr i).mono ?_
  rintro e w' ⟨rfl, hm, hr'⟩
  exact ⟨rfl, Du.rmoved hp h1 h2 hm hr'⟩
theorem d_raskLevel (h : Du W0 b y c (.slice pp c.plans.length cp) dv s t F w) (hc : ConfV w c (.slice pp c.plans.length cp) dv) (g : Good c) (d l : Int) : Calls Tryd.prog 13 #[.pointer (some ⟨y, 0, none⟩), .int .i64 d, .int .i64 l] w fun e w' => e = .returned (.int .i64 (t.askLevel c d l).1) ∧ Du W0 b y c (.slice pp c.plans.length cp) dv s (t.askLevel c d l).2 F w' ∧ Kept F w w' := by
  obtain ⟨gl, cl, ga, ca, hp, hr, h1, h2⟩ := h.ex
  refine (raskLevel_any hr hc g d l).mono ?_
  rintro e w' ⟨ga', ca', rfl, hm, hr'⟩
  exact ⟨rfl, Du.rmoved hp h1 h2 hm hr'⟩
end
end Go.Proofs.YtbnjfahjbemleaaDoor
