/- join: one waits behind all of a row. -/
import Derived.Test.YtoimkocjfijlkaaDoorOb3
namespace Go.Proofs.YtoimkocjfijlkaaDoor
open Go.RowKit
namespace Ob
open Go.Maps (Tidy IsMap Keyed)

section
variable {w w' : World} {x i : Nat} {c : Nat → Int} {f l : Nat → Value} {m a n : Value}
theorem OAt.ext (h : OAt w x c f l m) (k : Ext w w') : OAt w' x c f l m := h.same (k.below.block x h.lt)
theorem Seg.ext {L : List Wt} (h : Seg w x i a L n) (k : Ext w w') : Seg w' x i a L n := h.keep fun e he => k.below.block e.2 (h.lt e he)
theorem node_new {w1 : World} (hs : w1.heap.size = w.heap.size) (id : Int) (a : Value) : NAt (w1.alloc (.cells #[.int .i64 id, objV x i, a, nilV] 66 (0, 0))) x i a (id, w.heap.size) nilV := by
  unfold NAt
  rw [← hs]
  exact heap_alloc_new w1 _
theorem in_more {L : List Wt} {e : Wt} (h : Mvp (In x L) (In x L) w w') (he : w.heap.size ≤ e.2) : Mvp (In x L) (In x (L ++ [e])) w w' :=
  ⟨h.os, h.tape, h.output, h.size, h.block, fun k hk => by
    rcases hk with rfl | ⟨p, hp, rfl⟩
    · exact .inl (.inl rfl)
    · rcases List.mem_append.1 hp with q | q
      · exact .inl (.inr ⟨p, q, rfl⟩)
      · rw [List.mem_singleton.1 q]; exact .inr he⟩
theorem size_set (w : World) (a : Addr) (u : Value) : (w.setCell a u).heap.size = w.heap.size := by simp [World.setCell]
/-- What join comes to. -/
def Joined (x i : Nat) (c : Nat → Int) (f l : Nat → Value) (m : Value) (L : List Wt) (e : Wt) (w : World) (v : Ending) (w' : World) : Prop :=
  v = .returned (ptrV e.2) ∧ OAt w' x c (upd f i (headOr (L ++ [e]) nilV)) (upd l i (ptrV e.2)) m ∧ Seg w' x i nilV (L ++ [e]) nilV ∧ Mvp (In x L) (In x (L ++ [e])) w w'

set_option maxRecDepth 100000 in
set_option maxHeartbeats 2000000 in
theorem join_any (h : OAt w x c f l m) (hi : i < 4) {L : List Wt} (hs : Seg w x i nilV L nilV) (hd : (L.map (·.2)).Nodup) (hf : f i = headOr L nilV) (hl : l i = lastOr nilV L) (id : Int) :
    Calls Tryd.prog 18 #[objV x i, .int .i64 id] w (Joined x i c f l m L (id, w.heap.size) w) := by
  have hx := h.lt
  obtain ⟨-, c1, c2⟩ := h.cell hi
  have f1 := h.free (i * 3 + 1)
  have f2 := h.free (i * 3 + 2)
  rw [hl] at c2
  have H := hid h
  have HS := hid hs
  have HI := hid hi
  have HF := hid hf
  have HL := hid hl
  clear h hf hl hi
  rcases snoc_cases L with rfl | ⟨K, p, rfl⟩
  · simp only [lastOr] at c2
    clear hs hd
    go_enter Tryd.func18, Tryd.ntmps18
    go_wp2
    go_returns
    have X := Ext.alloc (Ext.refl ((w.setCell ⟨x, i * 3 + 1, none⟩ (ptrV w.heap.size)).setCell ⟨x, i * 3 + 2, none⟩ (ptrV w.heap.size))) (.cells #[.int .i64 id, objV x i, nilV, nilV] 66 (0, 0))
    refine ⟨rfl, (OAt.setL (OAt.setF H.out HI.out _) HI.out _).ext X, ⟨node_new (by rw [size_set, size_set]) _ _, trivial⟩, in_more ?_ (Nat.le_refl _)⟩
    exact (((Mvp.refl (In x []) w).set (g := x) (.inl rfl) (i * 3 + 1) (ptrV w.heap.size)).set (g := x) (.inl rfl) (i * 3 + 2) (ptrV w.heap.size)).ext X
  · rw [lastOr_snoc] at c2
    have hp : NAt w x i (lastOr nilV K) p nilV := (Seg.append.1 hs).2.1
    obtain ⟨-, -, -, p3⟩ := hp.cells
    have pf := hp.free 3
    have hpl := hp.lt
    have hpx := hp.far H.out
    have hxp : x ≠ p.2 := fun k => hpx k.symm
    have HK : Hid (∀ e ∈ K, e.2 ≠ p.2) := fun e he k => by
      rw [List.map_append, List.nodup_append] at hd
      exact hd.2.2 e.2 (List.mem_map_of_mem he) p.2 (by simp) k
    clear hs hd hp
    go_enter Tryd.func18, Tryd.ntmps18
    go_wp2
    go_returns
    have X := Ext.alloc (Ext.refl ((w.setCell ⟨p.2, 3, none⟩ (ptrV w.heap.size)).setCell ⟨x, i * 3 + 2, none⟩ (ptrV w.heap.size))) (.cells #[.int .i64 id, objV x i, ptrV p.2, nilV] 66 (0, 0))
    refine ⟨rfl, ?_, ?_, in_more ?_ (Nat.le_refl _)⟩
    · have := (OAt.setL (oat_far (j := 3) (u := ptrV w.heap.size) H.out hxp) HI.out (ptrV w.heap.size)).ext X
      rw [upd_eq (by rw [HF.out, headOr_append, headOr_append, headOr_append]; rfl)]
      exact this
    · rw [Seg.append]
      refine ⟨(seg_far (seg_setN HS.out HK.out (ptrV w.heap.size)) (HS.out.far H.out)).ext X, ?_⟩
      rw [lastOr_snoc]
      exact ⟨node_new (by rw [size_set, size_set]) _ _, trivial⟩
    · exact (((Mvp.refl (In x (K ++ [p])) w).set (g := p.2) (.inr ⟨p, by simp, rfl⟩) 3 (ptrV w.heap.size)).set (g := x) (.inl rfl) (i * 3 + 2) (ptrV w.heap.size)).ext X
end
end Ob
end Go.Proofs.YtoimkocjfijlkaaDoor
