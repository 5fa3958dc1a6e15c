/- A slice of the call's own, appended to one element at a time: elements of whatever cells; read as a list. No program is named here. -/
import Derived.Test.YtbnjfahjbemleaaLib
import Derived.WalkKit
import Derived.OwnWalk
import Derived.Handy
namespace Go.Proofs.Ytbnjfahjbemleaa
open Go.RowKit

/-- l = append(l, x): x laid in a block of its own. -/
theorem wp_push_own {P : Program} {o : Oper} {a : Act} {w : World} {K : Act → World → Prop} {Q : Exit → Act → World → Prop} (s x : Operand) (t T : TypeId) (z : Value) (n by' : Nat)
    (ho : o.op = .call { callee := .builtin .append, args := #[s, x], argTypes := #[t, t] }) (ht : P.underlying t = some (.slice T)) (hi : (P.info? T).map (fun i => (i.zero, i.size, i.bytes)) = some (some z, n, by')) (hz : z.cells.size = n) (hn : 0 < n)
    {base m : Nat} {v : Value} {xs news : List Value} (hown : w.ownsRow base T n v m xs) (hnl : news.length = n) (h1 : ∀ u ∈ news, u.oneCell' = true) (b1 : m + 1 ≤ maxLen) (b2 : (m + 1) * by' ≤ 140737488355328) (hbase : base ≤ w.heap.size)
    (hs : a.eval s = v) {nb : Nat} (hx : a.eval x = .slice (some ⟨nb, 0, none⟩) 1 1) (hnb : nb = w.heap.size)
    (k : ∀ (p : Option Addr) (c : Nat) w1, w1.ownsRow base T n (.slice p (m + 1) c) (m + 1) (xs ++ news) → Below base w w1 → K (a.put o.dst (.slice p (m + 1) c)) w1) :
    o.wp P a (w.alloc (.cells news.toArray T)) K Q := by
  subst hnb
  obtain ⟨i0, hi, hz0, hz1, hz2⟩ := info_parts hi
  refine wp_append_own _ s x t ho base T i0 z n by' ht hi hz0 hz1 hz2 hz hn v m xs hs (World.ownsRow.alloc hown _) ⟨w.heap.size, 0, none⟩ 1 1 news hx (by rw [hnl]; simp) ?_ h1 b1 b2 (by simp; omega) ?_
  · intro j u hj
    rw [add_add, Nat.zero_add]
    have hb : (w.alloc (.cells news.toArray T)).heap[w.heap.size]? = some (.cells news.toArray T (0, 0)) := heap_alloc_new w _
    rw [cell_of_row _ _ j _ T (0, 0) hb]
    simpa using hj
  · intro v' w1 ho' hg _
    obtain ⟨p, c, rfl⟩ : ∃ p c, v' = .slice p (m + 1) c := by
      rcases ho'.2 with ⟨rfl, h0⟩ | ⟨g, cap, cur, rfl, _⟩
      · omega
      · exact ⟨_, _, rfl⟩
    exact k p c w1 ho' (Below.grown (Below.alloc (Below.refl _ _) hbase _) hg (by simp; omega) fun k hk => (hown.lt k hk).1)

theorem wpList_push_own {P : Program} {ops : Array Oper} {rest : List Oper} {o : Oper} {a : Act} {w : World} {Q : Exit → Act → World → Prop} (hgd : o.guard = none) (s x : Operand) (t T : TypeId) (z : Value) (n by' : Nat)
    (ho : o.op = .call { callee := .builtin .append, args := #[s, x], argTypes := #[t, t] }) (ht : P.underlying t = some (.slice T)) (hi : (P.info? T).map (fun i => (i.zero, i.size, i.bytes)) = some (some z, n, by')) (hz : z.cells.size = n) (hn : 0 < n)
    {base m : Nat} {v : Value} {xs news : List Value} (hown : w.ownsRow base T n v m xs) (hnl : news.length = n) (h1 : ∀ u ∈ news, u.oneCell' = true) (b1 : m + 1 ≤ maxLen) (b2 : (m + 1) * by' ≤ 140737488355328) (hbase : base ≤ w.heap.size)
    (hs : a.eval s = v) {nb : Nat} (hx : a.eval x = .slice (some ⟨nb, 0, none⟩) 1 1) (hnb : nb = w.heap.size)
    (k : ∀ (p : Option Addr) (c : Nat) w1, w1.ownsRow base T n (.slice p (m + 1) c) (m + 1) (xs ++ news) → Below base w w1 → wpList P ops Q rest (a.put o.dst (.slice p (m + 1) c)) w1) :
    wpList P ops Q (o :: rest) a (w.alloc (.cells news.toArray T)) :=
  wpList_plain hgd fun _ hK => wp_push_own s x t T z n by' ho ht hi hz hn hown hnl h1 b1 b2 hbase hs hx hnb fun p c w1 h2 h3 => hK _ _ (k p c w1 h2 h3)

theorem owns_ext {w w' : World} {base T n m : Nat} {v : Value} {xs : List Value} (h : w.ownsRow base T n v m xs) (k : Ext w w') : w'.ownsRow base T n v m xs := by
  refine ⟨h.1, ?_⟩
  rcases h.2 with hn | ⟨g, cap, cur, e1, e2, e3, r⟩
  · exact .inl hn
  · refine .inr ⟨g, cap, cur, e1, e2, ?_, r⟩
    have hlt : g < w.heap.size := by
      rcases Nat.lt_or_ge g w.heap.size with h' | h'
      · exact h'
      · simp [Array.getElem?_eq_none h'] at e3
    rw [k.below.block g hlt]; exact e3
theorem owns_one (w : World) (base T n : Nat) (xs : List Value) (hb : base ≤ w.heap.size) (hl : xs.length = n) : (w.alloc (.cells xs.toArray T (0, 0))).ownsRow base T n (.slice (some ⟨w.heap.size, 0, none⟩) 1 1) 1 xs :=
  ⟨by simp [hl], .inr ⟨w.heap.size, 1, xs.toArray, rfl, hb, heap_alloc_new w _, by omega, by unfold maxLen; omega, by simp [hl], by rw [Nat.one_mul, ← hl]; simp⟩⟩

theorem flat_length {α : Type} {enc : α → List Value} {n : Nat} (he : ∀ x, (enc x).length = n) : ∀ l : List α, (l.flatMap enc).length = l.length * n
  | [] => by simp
  | x :: l => by rw [List.flatMap_cons, List.length_append, he, flat_length he l, List.length_cons, Nat.add_mul]; omega
theorem flat_get {α : Type} {enc : α → List Value} {n : Nat} (he : ∀ x, (enc x).length = n) : ∀ (l : List α) (i : Nat) (x : α) (j : Nat), l[i]? = some x → j < n → (l.flatMap enc)[i * n + j]? = (enc x)[j]?
  | [], _, _, _, h, _ => by simp at h
  | y :: l, 0, x, j, h, hj => by
    simp at h; subst h
    rw [List.flatMap_cons, Nat.zero_mul, Nat.zero_add, List.getElem?_append_left (by rw [he]; exact hj)]
  | y :: l, i + 1, x, j, h, hj => by
    rw [List.flatMap_cons, List.getElem?_append_right (by rw [he, Nat.add_mul]; omega), he, show (i + 1) * n + j - n = i * n + j from by rw [Nat.add_mul]; omega]
    exact flat_get he l i x j (by simpa using h) hj

/-- What is owned reads as a list: E told by the element's cells. -/
theorem Slc.of_owns {α : Type} {n base T m : Nat} {E : World → Nat → Nat → α → Prop} {w : World} {v : Value} {enc : α → List Value} {l : List α} (hn : 0 < n) (he : ∀ x, (enc x).length = n)
    (h : w.ownsRow base T n v m (l.flatMap enc)) (hE : ∀ b off x, x ∈ l → (∀ j, j < n → w.cell? ⟨b, off + j, none⟩ = (enc x)[j]?) → E w b off x) : m = l.length ∧ Slc n E w v l := by
  have hm : m = l.length := by
    have := h.1
    rw [flat_length he] at this
    exact (Nat.mul_right_cancel hn this).symm
  subst hm
  refine ⟨rfl, ?_⟩
  rcases h.2 with ⟨rfl, h0⟩ | ⟨g, cap, cur, rfl, _, hg, hle, hmx, hsz, htake⟩
  · exact ⟨none, 0, by rw [h0], by omega, by unfold maxLen; omega, fun hp => by omega⟩
  · refine ⟨some ⟨g, 0, none⟩, cap, rfl, hle, hmx, fun _ => ⟨g, 0, rfl, fun i x hi => ?_⟩⟩
    refine hE _ _ x (List.mem_of_getElem? hi) fun j hj => ?_
    obtain ⟨hil, rfl⟩ := List.getElem?_eq_some_iff.1 hi
    have hlt : i * n + j < l.length * n := by
      have : i * n + n ≤ l.length * n := by rw [← Nat.succ_mul]; exact Nat.mul_le_mul_right n hil
      omega
    rw [cell_of_row w g _ cur T (0, 0) hg, Nat.zero_add, ← flat_get he l i _ j hi hj, ← htake, List.getElem?_take, if_pos hlt]
    simp
end Go.Proofs.Ytbnjfahjbemleaa
