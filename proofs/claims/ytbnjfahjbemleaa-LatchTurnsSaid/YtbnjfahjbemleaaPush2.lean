/- A slice of the call's own, appended to and stored into, beside other blocks of its own; read as rows. -/
import Derived.Test.YtbnjfahjbemleaaPush
import Derived.Test.YtbnjfahjbemleaaLays
import Derived.OwnWalk
import Derived.Handy
namespace Go.Proofs.Ytbnjfahjbemleaa
open Go.RowKit

/-- l = append(l, ..) of a block of k elements just made: all that lies elsewhere stays. -/
theorem wp_push_far {P : Program} {o : Oper} {a : Act} {w : World} {K : Act → World → Prop} {Q : Exit → Act → World → Prop} (s x : Operand) (t T : TypeId) (z : Value) (by' : Nat)
    (ho : o.op = .call { callee := .builtin .append, args := #[s, x], argTypes := #[t, t] }) (ht : P.underlying t = some (.slice T)) (hi : (P.info? T).map (fun i => (i.zero, i.size, i.bytes)) = some (some z, 1, by')) (hz : z.cells.size = 1)
    {base m k : Nat} {v : Value} {xs news : List Value} (hown : w.ownsRow base T 1 v m xs) (hnl : news.length = k) (h1 : ∀ u ∈ news, u.oneCell' = true) (b1 : m + k ≤ maxLen) (b2 : (m + k) * by' ≤ 140737488355328) (hbase : base ≤ w.heap.size)
    (hs : a.eval s = v) {nb : Nat} (hx : a.eval x = .slice (some ⟨nb, 0, none⟩) k k) (hnb : nb = w.heap.size) (hk : 0 < k)
    (hK : ∀ (p : Option Addr) (c : Nat) w1, w1.ownsRow base T 1 (.slice p (m + k) c) (m + k) (xs ++ news) → Below base w w1 → (∀ b o, w.heap[b]? = some o → some b ≠ v.ownBlock → w1.heap[b]? = some o) → K (a.put o.dst (.slice p (m + k) c)) w1) :
    o.wp P a (w.alloc (.cells news.toArray T)) K Q := by
  subst hnb
  obtain ⟨i0, hi, hz0, hz1, hz2⟩ := info_parts hi
  refine wp_append_own _ s x t ho base T i0 z 1 by' ht hi hz0 hz1 hz2 hz (by omega) v m xs hs (World.ownsRow.alloc hown _) ⟨w.heap.size, 0, none⟩ k k news hx (by rw [hnl]; omega) ?_ h1 b1 b2 (by simp; omega) ?_
  · intro j u hj
    rw [add_add, Nat.zero_add]
    have hb : (w.alloc (.cells news.toArray T)).heap[w.heap.size]? = some (.cells news.toArray T (0, 0)) := heap_alloc_new w _
    rw [cell_of_row _ _ j _ T (0, 0) hb]
    simpa using hj
  · intro v' w1 ho' hg _
    obtain ⟨p, c, rfl⟩ : ∃ p c, v' = .slice p (m + k) c := by
      rcases ho'.2 with ⟨rfl, h0⟩ | ⟨g, cap, cur, rfl, _⟩
      · omega
      · exact ⟨_, _, rfl⟩
    refine hK p c w1 ho' (Below.grown (Below.alloc (Below.refl _ _) hbase _) hg (by simp; omega) fun k hk => (hown.lt k hk).1) fun b ob hb hne => ?_
    have hlt : b < w.heap.size := by
      apply Decidable.byContradiction
      intro hn
      rw [Array.getElem?_eq_none (by omega)] at hb; cases hb
    have h2 := hg.block b (by simp; omega) hne
    rw [h2]
    exact block_ext (Ext.alloc (Ext.refl _) _) hb
theorem wpList_push_far {P : Program} {ops : Array Oper} {rest : List Oper} {o : Oper} {a : Act} {w : World} {Q : Exit → Act → World → Prop} (hgd : o.guard = none) (s x : Operand) (t T : TypeId) (z : Value) (by' : Nat)
    (ho : o.op = .call { callee := .builtin .append, args := #[s, x], argTypes := #[t, t] }) (ht : P.underlying t = some (.slice T)) (hi : (P.info? T).map (fun i => (i.zero, i.size, i.bytes)) = some (some z, 1, by')) (hz : z.cells.size = 1)
    {base m k : Nat} {v : Value} {xs news : List Value} (hown : w.ownsRow base T 1 v m xs) (hnl : news.length = k) (h1 : ∀ u ∈ news, u.oneCell' = true) (b1 : m + k ≤ maxLen) (b2 : (m + k) * by' ≤ 140737488355328) (hbase : base ≤ w.heap.size)
    (hs : a.eval s = v) {nb : Nat} (hx : a.eval x = .slice (some ⟨nb, 0, none⟩) k k) (hnb : nb = w.heap.size) (hk : 0 < k)
    (hK : ∀ (p : Option Addr) (c : Nat) w1, w1.ownsRow base T 1 (.slice p (m + k) c) (m + k) (xs ++ news) → Below base w w1 → (∀ b o, w.heap[b]? = some o → some b ≠ v.ownBlock → w1.heap[b]? = some o) → wpList P ops Q rest (a.put o.dst (.slice p (m + k) c)) w1) :
    wpList P ops Q (o :: rest) a (w.alloc (.cells news.toArray T)) :=
  wpList_plain hgd fun _ hK' => wp_push_far s x t T z by' ho ht hi hz hown hnl h1 b1 b2 hbase hs hx hnb hk fun p c w1 h2 h3 h4 => hK' _ _ (hK p c w1 h2 h3 h4)
theorem step_push_far {P : Program} {ops : Array Oper} {o : Oper} {a : Act} {w : World} {K : Act → World → Prop} {Q : Exit → Act → World → Prop} {E : Prop} {W : World} (hgd : o.guard = none) (s x : Operand) (t T : TypeId) (z : Value) (by' : Nat)
    (ho : o.op = .call { callee := .builtin .append, args := #[s, x], argTypes := #[t, t] }) (ht : P.underlying t = some (.slice T)) (hi : (P.info? T).map (fun i => (i.zero, i.size, i.bytes)) = some (some z, 1, by')) (hz : z.cells.size = 1)
    {base m k : Nat} {v : Value} {xs news : List Value} (hown : w.ownsRow base T 1 v m xs) (hnl : news.length = k) (h1 : ∀ u ∈ news, u.oneCell' = true) (b1 : m + k ≤ maxLen) (b2 : (m + k) * by' ≤ 140737488355328) (hbase : base ≤ w.heap.size)
    (hs : a.eval s = v) {nb : Nat} (hx : a.eval x = .slice (some ⟨nb, 0, none⟩) k k) (hnb : nb = w.heap.size) (hk : 0 < k)
    (hW : W = w.alloc (.cells news.toArray T))
    (hK : ∀ (p : Option Addr) (c : Nat) w1, w1.ownsRow base T 1 (.slice p (m + k) c) (m + k) (xs ++ news) → Below base w w1 → (∀ b o, w.heap[b]? = some o → some b ≠ v.ownBlock → w1.heap[b]? = some o) → K (a.put o.dst (.slice p (m + k) c)) w1) :
    if Region.wanted o (yielded ops a.tmps) = true then Oper.wp P o a W K Q else E := by
  subst hW
  have hw : Region.wanted o (yielded ops a.tmps) = true := by simp [Region.wanted, hgd]
  rw [if_pos hw]
  exact wp_push_far s x t T z by' ho ht hi hz hown hnl h1 b1 b2 hbase hs hx hnb hk hK

theorem owns_rows {w : World} {base T m : Nat} {v : Value} {xs : List Value} {ls : List (List Int)} (h : w.ownsRow base T 1 v m xs) (hl : xs.length = ls.length) (hn : ∀ (i : Nat) x, xs[i]? = some x → ∃ l, ls[i]? = some l ∧ Nums .i64 w x l) : RowsV w v ls := by
  have hm : m = ls.length := by have := h.1; omega
  subst hm
  rcases h.2 with ⟨rfl, h0⟩ | ⟨g, cap, cur, rfl, _, hg, hle, hmx, hsz, htake⟩
  · exact ⟨none, 0, by rw [h0], by omega, by unfold maxLen; omega, fun hp => by omega⟩
  · refine ⟨some ⟨g, 0, none⟩, cap, rfl, hle, hmx, fun _ => ⟨g, 0, rfl, fun i r hi => ?_⟩⟩
    have hil : i < xs.length := by rw [hl]; exact (List.getElem?_eq_some_iff.1 hi).1
    obtain ⟨l, hl', hn'⟩ := hn i xs[i] (List.getElem?_eq_getElem hil)
    obtain rfl : l = r := by rw [hl'] at hi; exact Option.some.inj hi
    refine ⟨xs[i], ?_, hn'⟩
    rw [cell_of_row w g _ cur T (0, 0) hg, Nat.zero_add]
    have : (cur.toList.take (ls.length * 1))[i * 1]? = some xs[i] := by rw [htake, Nat.mul_one]; exact List.getElem?_eq_getElem hil
    rw [List.getElem?_take] at this
    split at this
    · simpa using this
    · cases this
/-- A store into what is owned. -/
theorem owns_block {w : World} {base T m : Nat} {v : Value} {xs : List Value} (h : w.ownsRow base T 1 v m xs) (hm : 0 < m) : ∃ g cap cur, v = .slice (some ⟨g, 0, none⟩) m cap ∧ base ≤ g ∧ w.heap[g]? = some (.cells cur T (0, 0)) ∧ m ≤ cap ∧ cap ≤ maxLen ∧ cur.size = cap * 1 ∧ cur.toList.take (m * 1) = xs := by
  rcases h.2 with ⟨rfl, h0⟩ | h
  · omega
  · exact h
theorem owns_set {w : World} {base T m g cap : Nat} {xs : List Value} (h : w.ownsRow base T 1 (.slice (some ⟨g, 0, none⟩) m cap) m xs) {j : Nat} (hj : j < m) (u : Value) : (w.setCell ⟨g, j, none⟩ u).ownsRow base T 1 (.slice (some ⟨g, 0, none⟩) m cap) m (xs.set j u) := by
  obtain ⟨g', cap', cur, he, h1, h2, h3, h4, h5, h6⟩ := owns_block h (by omega)
  injection he with e1 e2 e3
  injection e1 with e1
  injection e1 with e1
  subst e1 e3
  refine ⟨by rw [List.length_set]; exact h.1, .inr ⟨g, cap, cur.setIfInBounds j u, rfl, h1, ?_, h3, h4, by simpa using h5, ?_⟩⟩
  · rw [setCell_at h2]; simp
  · rw [← h6]
    simp [List.take_set]
end Go.Proofs.Ytbnjfahjbemleaa
