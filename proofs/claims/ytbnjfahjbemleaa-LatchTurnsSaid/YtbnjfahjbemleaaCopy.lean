/- A row copied by append to nothing; a row owned in a block of its own: read, stored into. No program is named here. -/
import Derived.Test.YtbnjfahjbemleaaLib
import Derived.Test.YtbnjfahjbemleaaPush
import Derived.Test.YtbnjfahjbemleaaPush2
import Derived.WalkKit
import Derived.OwnWalk
import Derived.Handy
namespace Go.Proofs.Ytbnjfahjbemleaa
open Go.RowKit

/-- append([]T(nil), row...): the row in a block of its own. -/
theorem wp_copy {P : Program} {o : Oper} {a : Act} {w : World} {K : Act → World → Prop} {Q : Exit → Act → World → Prop} (s x : Operand) (t T : TypeId) (z : Value) (by' : Nat)
    (ho : o.op = .call { callee := .builtin .append, args := #[s, x], argTypes := #[t, t] }) (ht : P.underlying t = some (.slice T)) (hi : (P.info? T).map (fun i => (i.zero, i.size, i.bytes)) = some (some z, 1, by')) (hz : z.cells.size = 1)
    {ad : Addr} {m c : Nat} {news : List Value} (hs : a.eval s = .slice none 0 0) (hx : a.eval x = .slice (some ad) m c) (hl : news.length = m) (hnews : ∀ j u, news[j]? = some u → w.cell? (ad.add j) = some u)
    (h1 : ∀ u ∈ news, u.oneCell' = true) (b1 : m ≤ maxLen) (b2 : m * by' ≤ 140737488355328) (hm : 0 < m)
    (k : ∀ g cap w', w'.ownsRow w.heap.size T 1 (.slice (some ⟨g, 0, none⟩) m cap) m news → w.heap.size ≤ g → Ext w w' → K (a.put o.dst (.slice (some ⟨g, 0, none⟩) m cap)) w') : o.wp P a w K Q := by
  obtain ⟨i0, hi, hz0, hz1, hz2⟩ := info_parts hi
  have hown : w.ownsRow w.heap.size T 1 (.slice none 0 0) 0 [] := World.ownsRow_nil _ _ _ _
  refine wp_append_own _ s x t ho w.heap.size T i0 z 1 by' ht hi hz0 hz1 hz2 hz (by omega) (.slice none 0 0) 0 [] hs hown ad m c news hx (by omega) hnews h1 (by omega) (by simpa using b2) (Nat.le_refl _) fun v' w' h2 h3 _ => ?_
  have hx3 : Ext w w' := ⟨⟨h3.os, h3.tape, h3.output, h3.size, fun i hi => h3.block i (by omega) (by intro e; cases e)⟩⟩
  rw [Nat.zero_add, List.nil_append] at h2
  have h2' := h2
  rcases h2.2 with ⟨rfl, h0⟩ | ⟨g, cap, cur, rfl, e2, _⟩
  · omega
  · exact k g cap w' h2' e2 hx3

theorem wpList_copy {P : Program} {ops : Array Oper} {rest : List Oper} {o : Oper} {a : Act} {w : World} {Q : Exit → Act → World → Prop} (hgd : o.guard = none) (s x : Operand) (t T : TypeId) (z : Value) (by' : Nat)
    (ho : o.op = .call { callee := .builtin .append, args := #[s, x], argTypes := #[t, t] }) (ht : P.underlying t = some (.slice T)) (hi : (P.info? T).map (fun i => (i.zero, i.size, i.bytes)) = some (some z, 1, by')) (hz : z.cells.size = 1)
    {ad : Addr} {m c : Nat} {news : List Value} (hs : a.eval s = .slice none 0 0) (hx : a.eval x = .slice (some ad) m c) (hl : news.length = m) (hnews : ∀ j u, news[j]? = some u → w.cell? (ad.add j) = some u)
    (h1 : ∀ u ∈ news, u.oneCell' = true) (b1 : m ≤ maxLen) (b2 : m * by' ≤ 140737488355328) (hm : 0 < m)
    (k : ∀ g cap w', w'.ownsRow w.heap.size T 1 (.slice (some ⟨g, 0, none⟩) m cap) m news → w.heap.size ≤ g → Ext w w' → wpList P ops Q rest (a.put o.dst (.slice (some ⟨g, 0, none⟩) m cap)) w') : wpList P ops Q (o :: rest) a w :=
  wpList_plain hgd fun _ hK => wp_copy s x t T z by' ho ht hi hz hs hx hl hnews h1 b1 b2 hm fun g cap w' h2 h3 h4 => hK _ _ (k g cap w' h2 h3 h4)

/-- A row of numbers owned in a block of its own. -/
structure Rw1 (base T g cap : Nat) (l : List Value) (w : World) : Prop where
  own : w.ownsRow base T 1 (.slice (some ⟨g, 0, none⟩) l.length cap) l.length l
theorem Rw1.blk {base T g cap : Nat} {l : List Value} {w : World} (h : Rw1 base T g cap l w) : base ≤ g ∧ g < w.heap.size ∧ w.frozen? ⟨g, 0, none⟩ = false ∧ ∀ j (hj : j < l.length), w.cell? ⟨g, j, none⟩ = some l[j] ∧ w.frozen? ⟨g, j, none⟩ = false := by
  rcases h.own.2 with ⟨e, _⟩ | ⟨g', cap', cur, e1, e2, e3, e4, e5, e6, e7⟩
  · cases e
  injection e1 with e1 _ e8
  injection e1 with e1
  injection e1 with e1
  subst e1 e8
  have hlt : g < w.heap.size := (Array.getElem?_eq_some_iff.1 e3).1
  refine ⟨e2, hlt, by simp [World.frozen?, e3], fun j hj => ⟨?_, by simp [World.frozen?, e3]⟩⟩
  have : l[j]? = cur.toList[j]? := by
    rw [← e7]
    rw [List.getElem?_take, if_pos (by omega)]
  rw [List.getElem?_eq_getElem hj] at this
  simp only [World.cell?, e3]
  rw [this]
  simp
theorem Rw1.ext {base T g cap : Nat} {l : List Value} {w w' : World} (h : Rw1 base T g cap l w) (k : Ext w w') : Rw1 base T g cap l w' := ⟨owns_ext h.own k⟩
theorem Rw1.set {base T g cap : Nat} {l : List Value} {w : World} (h : Rw1 base T g cap l w) {j : Nat} (hj : j < l.length) (u : Value) : Rw1 base T g cap (l.set j u) (w.setCell ⟨g, j, none⟩ u) := ⟨by
  have := owns_set h.own hj u
  simpa using this⟩
theorem Rw1.other {base T g cap : Nat} {l : List Value} {w : World} (h : Rw1 base T g cap l w) {b : Nat} (hb : b ≠ g) (j : Nat) (u : Value) : Rw1 base T g cap l (w.setCell ⟨b, j, none⟩ u) := ⟨by
  refine ⟨h.own.1, ?_⟩
  rcases h.own.2 with ⟨e, _⟩ | ⟨g', cap', cur, e1, e2, e3, r⟩
  · cases e
  have e1' := e1
  injection e1 with e1 _ e8
  injection e1 with e1
  injection e1 with e1
  subst e1
  exact .inr ⟨g, cap', cur, e1', e2, by rw [Below.heap_setCell _ _ _ _ (fun e => hb e.symm)]; exact e3, r⟩⟩
end Go.Proofs.Ytbnjfahjbemleaa
