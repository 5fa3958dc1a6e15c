/- leave: one is taken out of his row. -/
import Derived.Test.YtoimkocjfijlkaaDoorOb1
namespace Go.Proofs.YtoimkocjfijlkaaDoor
open Go.RowKit
namespace Ob

/-- x, and the blocks of these. -/
def In (x : Nat) (L : List Wt) (k : Nat) : Prop := k = x ∨ ∃ p ∈ L, p.2 = k
section
variable {w w' : World} {x i : Nat} {c : Nat → Int} {f l : Nat → Value} {m a n : Value}
theorem seg_far {L : List Wt} (h : Seg w x i a L n) {b j : Nat} {u : Value} (hb : ∀ e ∈ L, e.2 ≠ b) : Seg (w.setCell ⟨b, j, none⟩ u) x i a L n := h.keep fun e he => Below.heap_setCell _ _ _ _ (by simpa using hb e he)
theorem oat_far (h : OAt w x c f l m) {b j : Nat} {u : Value} (hb : x ≠ b) : OAt (w.setCell ⟨b, j, none⟩ u) x c f l m := h.same (Below.heap_setCell _ _ _ _ (by simpa using hb))
/-- The last one is told another behind. -/
theorem seg_setN {L : List Wt} {p : Wt} (h : Seg w x i a (L ++ [p]) n) (hd : ∀ e ∈ L, e.2 ≠ p.2) (u : Value) : Seg (w.setCell ⟨p.2, 3, none⟩ u) x i a (L ++ [p]) u := by
  rw [Seg.append] at h ⊢
  exact ⟨seg_far h.1 hd, NAt.setN h.2.1 u, trivial⟩
/-- The first one is told another ahead. -/
theorem seg_setA {L : List Wt} {q : Wt} (h : Seg w x i a (q :: L) n) (hd : ∀ e ∈ L, e.2 ≠ q.2) (u : Value) : Seg (w.setCell ⟨q.2, 2, none⟩ u) x i u (q :: L) n := ⟨NAt.setA h.1 u, seg_far h.2 hd⟩

/-- What leave comes to. -/
def Left (x i : Nat) (c : Nat → Int) (f l : Nat → Value) (m : Value) (M : List Wt) (w : World) (e : Ending) (w' : World) : Prop :=
  e = .returned (.tuple #[]) ∧ OAt w' x c (upd f i (headOr M nilV)) (upd l i (lastOr nilV M)) m ∧ Seg w' x i nilV M nilV ∧ Mvp (In x M) (In x M) w w'

set_option maxRecDepth 100000 in
set_option maxHeartbeats 2000000 in
theorem leave_any (h : OAt w x c f l m) (hi : i < 4) {L1 L2 : List Wt} {e : Wt} (hs : Seg w x i nilV (L1 ++ e :: L2) nilV) (hd : ((L1 ++ e :: L2).map (·.2)).Nodup)
    (hf : f i = headOr (L1 ++ e :: L2) nilV) (hl : l i = lastOr nilV (L1 ++ e :: L2)) :
    Calls Tryd.prog 22 #[ptrV e.2] w (Left x i c f l m (L1 ++ L2) w) := by
  have hs2 := Seg.append.1 hs
  have he : NAt w x i (lastOr nilV L1) e (headOr L2 nilV) := hs2.2.1
  obtain ⟨-, e1, e2, e3⟩ := he.cells
  have hx := h.lt
  have hel := he.lt
  have hex := he.far h
  obtain ⟨-, c1, c2⟩ := h.cell hi
  have f1 := h.free (i * 3 + 1)
  have f2 := h.free (i * 3 + 2)
  have H := hid h
  have HS1 := hid hs2.1
  have HS2 : Hid (Seg w x i (ptrV e.2) L2 nilV) := hs2.2.2
  have HD := hid hd
  have HI := hid hi
  rw [List.map_append, List.map_cons, List.nodup_append, List.nodup_cons] at hd
  obtain ⟨d1, ⟨d2, d3⟩, d4⟩ := hd
  have HF := hid hf
  have HL := hid hl
  clear hs hs2 he h hf hl
  rcases snoc_cases L1 with rfl | ⟨K, p, rfl⟩
  · cases L2 with
    | nil =>
      simp only [lastOr, headOr] at e2 e3
      clear d1 d2 d3 d4 hi
      go_enter Tryd.func22, Tryd.ntmps22
      go_wp2_with fail
      go_region
      go_wp2_with fail
      go_region
      go_returns
      refine ⟨rfl, (((H.out.setF HI.out nilV).same rfl).setL HI.out nilV).same rfl, trivial, ?_⟩
      exact (((((Mvp.refl (In x ([] ++ [])) w).set (g := x) (.inl rfl) (i * 3 + 1) nilV).ext (Ext.drew (Ext.refl _))).set (g := x) (.inl rfl) (i * 3 + 2) nilV)).ext (Ext.drew (Ext.refl _))
    | cons q L2 =>
      simp only [lastOr, headOr] at e2 e3
      have hq := HS2.out.1
      obtain ⟨-, -, q2, -⟩ := hq.cells
      have qf := hq.free 2
      have hql := hq.lt
      have hqx := hq.far H.out
      have hqe : q.2 ≠ e.2 := fun k => d2 (by rw [← k]; simp)
      have hqe' : e.2 ≠ q.2 := fun k => hqe k.symm
      have hxq : x ≠ q.2 := fun k => hqx k.symm
      have HQ : Hid (∀ e ∈ L2, e.2 ≠ q.2) := fun e he k => (List.nodup_cons.1 d3).1 (by show q.2 ∈ _; rw [← k]; exact List.mem_map_of_mem he)
      clear d1 d2 d3 d4 hi hq
      go_enter Tryd.func22, Tryd.ntmps22
      go_wp2_with fail
      go_region
      go_wp2_with fail
      go_region
      go_returns
      refine ⟨rfl, ?_, ?_, ?_⟩
      · have := (oat_far (b := q.2) (j := 2) (u := nilV) ((H.out.setF HI.out (ptrV q.2)).same (w' := (w.setCell ⟨x, i * 3 + 1, none⟩ (ptrV q.2)).drew) rfl) (by omega))
        rw [upd_eq (show l i = lastOr nilV (q :: L2) from HL.out)]
        exact this.same rfl
      · refine Seg.keep (w := (w.setCell ⟨x, i * 3 + 1, none⟩ (ptrV q.2)).setCell ⟨q.2, 2, none⟩ nilV) ?_ fun _ _ => rfl
        exact seg_setA (seg_far HS2.out (HS2.out.far H.out)) HQ.out nilV
      · exact (((((Mvp.refl (In x ([] ++ q :: L2)) w).set (g := x) (.inl rfl) (i * 3 + 1) (ptrV q.2)).ext (Ext.drew (Ext.refl _))).set (g := q.2) (.inr ⟨q, by simp, rfl⟩) 2 nilV)).ext (Ext.drew (Ext.refl _))
  · rw [lastOr_snoc] at e2
    have hs1 := HS1.out
    have hp : NAt w x i (lastOr nilV K) p (ptrV e.2) := (Seg.append.1 hs1).2.1
    obtain ⟨-, -, -, p3⟩ := hp.cells
    have pf := hp.free 3
    have hpl := hp.lt
    have hpx := hp.far H.out
    have hxp : x ≠ p.2 := fun k => hpx k.symm
    have hpe : p.2 ≠ e.2 := d4 p.2 (List.mem_map_of_mem (by simp)) e.2 (by simp)
    have hpe' : e.2 ≠ p.2 := fun k => hpe k.symm
    have HK : Hid (∀ e ∈ K, e.2 ≠ p.2) := fun e he k => by
      rw [List.map_append, List.nodup_append] at d1
      exact d1.2.2 e.2 (List.mem_map_of_mem he) p.2 (by simp) k
    cases L2 with
    | nil =>
      simp only [headOr] at e3
      clear d1 d2 d3 d4 hi hp hs1
      go_enter Tryd.func22, Tryd.ntmps22
      go_wp2_with fail
      go_region
      go_wp2_with fail
      go_region
      go_returns
      refine ⟨rfl, ?_, ?_, ?_⟩
      · have := (oat_far (b := p.2) (j := 3) (u := nilV) H.out hxp).setL HI.out (ptrV p.2)
        rw [List.append_nil, lastOr_snoc, upd_eq (by rw [HF.out, headOr_append, headOr_append, headOr_append]; rfl)]
        exact this.same rfl
      · rw [List.append_nil]
        refine Seg.keep (w := (w.setCell ⟨p.2, 3, none⟩ nilV).setCell ⟨x, i * 3 + 2, none⟩ (ptrV p.2)) ?_ fun _ _ => rfl
        exact seg_far (seg_setN HS1.out HK.out nilV) (HS1.out.far H.out)
      · exact (((((Mvp.refl (In x (K ++ [p] ++ [])) w).set (g := p.2) (.inr ⟨p, by simp, rfl⟩) 3 nilV).ext (Ext.drew (Ext.refl _))).set (g := x) (.inl rfl) (i * 3 + 2) (ptrV p.2))).ext (Ext.drew (Ext.refl _))
    | cons q L2 =>
      simp only [headOr] at e3
      have hq := HS2.out.1
      obtain ⟨-, -, q2, -⟩ := hq.cells
      have qf := hq.free 2
      have hql := hq.lt
      have hqx := hq.far H.out
      have hqe : q.2 ≠ e.2 := fun k => d2 (by rw [← k]; simp)
      have hqe' : e.2 ≠ q.2 := fun k => hqe k.symm
      have hxq : x ≠ q.2 := fun k => hqx k.symm
      have hpq : p.2 ≠ q.2 := d4 p.2 (List.mem_map_of_mem (by simp)) q.2 (by simp)
      have hpq' : q.2 ≠ p.2 := fun k => hpq k.symm
      have HQ : Hid (∀ e ∈ L2, e.2 ≠ q.2) := fun e he k => (List.nodup_cons.1 d3).1 (by show q.2 ∈ _; rw [← k]; exact List.mem_map_of_mem he)
      have HPQ : Hid (∀ e ∈ q :: L2, e.2 ≠ p.2) := fun e he k => d4 p.2 (List.mem_map_of_mem (by simp)) e.2 (List.mem_cons_of_mem _ (List.mem_map_of_mem he)) k.symm
      have HQK : Hid (∀ e ∈ K ++ [p], e.2 ≠ q.2) := fun e he k => d4 e.2 (List.mem_map_of_mem he) q.2 (by simp) k
      clear d1 d2 d3 d4 hi hp hq hs1
      go_enter Tryd.func22, Tryd.ntmps22
      go_wp2_with fail
      go_region
      go_wp2_with fail
      go_region
      go_returns
      refine ⟨rfl, ?_, ?_, ?_⟩
      · have := oat_far (b := q.2) (j := 2) (u := ptrV p.2) (oat_far (b := p.2) (j := 3) (u := ptrV q.2) H.out hxp) hxq
        rw [upd_eq (by rw [HF.out, headOr_append, headOr_append, headOr_append, headOr_append]; rfl), upd_eq (show l i = lastOr nilV (K ++ [p] ++ q :: L2) from by rw [HL.out, lastOr_append nilV (K ++ [p]), lastOr_append nilV (K ++ [p])]; rfl)]
        exact this.same rfl
      · rw [Seg.append]
        refine ⟨Seg.keep (w := (w.setCell ⟨p.2, 3, none⟩ (ptrV q.2)).setCell ⟨q.2, 2, none⟩ (ptrV p.2)) ?_ fun _ _ => rfl, Seg.keep (w := (w.setCell ⟨p.2, 3, none⟩ (ptrV q.2)).setCell ⟨q.2, 2, none⟩ (ptrV p.2)) ?_ fun _ _ => rfl⟩
        · exact seg_far (seg_setN HS1.out HK.out (ptrV q.2)) HQK.out
        · rw [lastOr_snoc]
          exact seg_setA (seg_far HS2.out HPQ.out) HQ.out (ptrV p.2)
      · exact (((((Mvp.refl (In x (K ++ [p] ++ q :: L2)) w).set (g := p.2) (.inr ⟨p, by simp, rfl⟩) 3 (ptrV q.2)).ext (Ext.drew (Ext.refl _))).set (g := q.2) (.inr ⟨q, by simp, rfl⟩) 2 (ptrV p.2))).ext (Ext.drew (Ext.refl _))
end
end Ob
end Go.Proofs.YtoimkocjfijlkaaDoor
