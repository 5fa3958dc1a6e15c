/- A row of the call's own, appended to by one beside another row of its own: the new row lies in the old one's block or in a new one. No program is named here. -/
import Derived.Test.YtbnjfahjbemleaaPush
import Derived.Test.YtbnjfahjbemleaaMv
import Derived.OwnWalk
import Derived.ArgAppend
import Derived.Handy
import Derived.Deep.RegionLaw
import Derived.Deep.RegionLawGrows
namespace Go.Proofs.Ytbnjfahjbemleaa
open Go.RowKit

theorem take_set_succ4 {α : Type} {L : List α} {k : Nat} (h : k < L.length) (v : α) : (L.set k v).take (k + 1) = L.take k ++ [v] := by
  rw [List.take_succ_eq_append_getElem (by simpa using h), List.take_set, List.set_eq_of_length_le (by simp; omega)]
  simp
theorem wp_push_two {P : Program} {o : Oper} {a : Act} {w : World} {K : Act → World → Prop} {Q : Exit → Act → World → Prop} (hgd : o.guard = none) (s x : Operand) (t T : TypeId) (z : Value) (by' : Nat)
    (ho : o.op = .call { callee := .builtin .append, args := #[s, x], argTypes := #[t, t] }) (ht : P.underlying t = some (.slice T)) (hi : (P.info? T).map (fun i => (i.zero, i.size, i.bytes)) = some (some z, 1, by')) (hz : z.cells.size = 1)
    {base m : Nat} {v : Value} {xs : List Value} (u : Value) (hown : w.ownsRow base T 1 v m xs) (h1 : u.oneCell' = true) (b1 : m + 1 ≤ maxLen) (b2 : (m + 1) * by' ≤ 140737488355328) (hbase : base ≤ w.heap.size)
    (hs : a.eval s = v) {nb : Nat} (hx : a.eval x = .slice (some ⟨nb, 0, none⟩) 1 1) (hnb : nb = w.heap.size)
    (hK : ∀ (p : Option Addr) (c : Nat) w1, w1.ownsRow base T 1 (.slice p (m + 1) c) (m + 1) (xs ++ [u]) → Below base w w1 → (∀ g, (Value.slice p (m + 1) c).ownBlock = some g → v.ownBlock = some g ∨ w.heap.size ≤ g) → (∀ b, b < w.heap.size → v.ownBlock ≠ some b → w1.heap[b]? = w.heap[b]?) → K (a.put o.dst (.slice p (m + 1) c)) w1) :
    o.wp P a (w.alloc (.cells #[u] T (0, 0))) K Q := by
  subst hnb
  obtain ⟨i0, hi, hz0, hz1, hz2⟩ := info_parts hi
  have hw : Region.wanted o (yielded #[] a.tmps) = true := by simp [Region.wanted, hgd]
  obtain ⟨W, hW⟩ : ∃ W, W = w.alloc (.cells #[u] T (0, 0)) := ⟨_, rfl⟩
  have hsz : W.heap.size = w.heap.size + 1 := by rw [hW]; simp
  have hWx : Ext w W := by rw [hW]; exact Ext.alloc (Ext.refl _) _
  have hnew : W.heap[w.heap.size]? = some (.cells #[u] T (0, 0)) := by rw [hW]; exact heap_alloc_new w _
  have hownW := owns_ext hown hWx
  have hlt := hown.lt
  rw [← hW]
  have hc : ∀ j y, [u][j]? = some y → W.cell? ((⟨w.heap.size, 0, none⟩ : Addr).add j) = some y := by
    intro j y hj
    rw [add_add, Nat.zero_add, cell_of_row _ _ j _ _ (0, 0) hnew]
    simpa using hj
  have h1c : ∀ y ∈ [u], y.oneCell' = true := by
    intro y hy; simp at hy; subst hy; exact h1
  have hgrow : ∀ (ao : Option Addr) (cap : Nat) (w1 : World) (v' : Value), v = .slice ao m cap → w1.ownsRow W.heap.size T 1 v' (m + 1) (xs ++ [u]) → W.grownBy w1 none → K (a.put o.dst v') w1 := by
    intro ao cap w1 v' hv ho' hg'
    obtain ⟨g', cap', rfl⟩ : ∃ g cap, v' = .slice (some ⟨g, 0, none⟩) (m + 1) cap := by
      rcases ho'.2 with ⟨_, h⟩ | ⟨g, cap, cur, rfl, _⟩
      · omega
      · exact ⟨_, _, rfl⟩
    have hgl := (ho'.lt g' rfl).1
    refine hK _ _ w1 ⟨ho'.1, ?_⟩ ⟨hg'.os.trans hWx.below.os, hg'.tape.trans hWx.below.tape, hg'.output.trans hWx.below.output, by have := hg'.size; omega, fun k hk => (hg'.block k (by omega) (by simp)).trans (hWx.below.block k (by omega))⟩ (fun g hg => by
        simp only [Value.ownBlock, Option.some.injEq] at hg
        exact .inr (by omega)) (fun b hb _ => (hg'.block b (by omega) (by simp)).trans (hWx.below.block b hb))
    rcases ho'.2 with ⟨h, _⟩ | ⟨g, cap2, cur, e1, e2, r⟩
    · cases h
    · exact .inr ⟨g, cap2, cur, e1, by omega, r⟩
  rcases hownW.2 with ⟨rfl, h0⟩ | ⟨g, cap, cur, rfl, e2, e3, e4, e5, e6, e7⟩
  · subst h0
    obtain rfl : xs = [] := List.eq_nil_of_length_eq_zero (by have := hown.1; omega)
    have := step_append_grows (E := True) hgd s x t ho T i0 _ 1 by' ht hi hz0 hz1 hz2 hz (by decide) none 0 0 [] hs (fun _ => ⟨rfl, rfl⟩) rfl (fun b hb => by cases hb) ⟨w.heap.size, 0, none⟩ 1 1 [u] hx rfl hc h1c (by omega) b1 b2 (P := P) (ops := #[]) (w := W) (K := K) (Q := Q) (fun v' w' ho' hg' => hgrow none 0 w' v' rfl (by simpa using ho') hg')
    rwa [if_pos hw] at this
  · by_cases hroom : m + 1 ≤ cap
    · have := step_append_room (E := True) hgd s x t ho T i0 1 ht hi hz1 g 0 m cap hs ⟨w.heap.size, 0, none⟩ 1 1 [u] hx rfl hc h1c hroom (P := P) (ops := #[]) (w := W) (K := K) (Q := Q) (by
        intro j hj
        have hj : j < 1 := hj
        refine ⟨?_, by simp [World.frozen?, e3]⟩
        rw [cell_of_row _ _ _ _ _ (0, 0) e3]
        simp
        omega) (by
        have hh : (W.setCells g (0 + m * 1) [u]).heap[g]? = some (.cells (cur.setIfInBounds m u) T (0, 0)) := by
          rw [Nat.zero_add, Nat.mul_one]
          exact set_same e3 m u
        have hne : ∀ b, b ≠ g → (W.setCells g (0 + m * 1) [u]).heap[b]? = W.heap[b]? := fun b hb => by
          simp only [World.setCells]
          exact Below.heap_setCell _ _ _ _ (by simpa using hb)
        have hgw := (hlt g rfl)
        have hxl := hown.1
        refine hK _ _ _ ⟨by simp; omega, .inr ⟨g, cap, _, rfl, e2, hh, hroom, e5, by simpa using e6, ?_⟩⟩ ⟨hWx.below.os, hWx.below.tape, hWx.below.output, by simp [World.setCells, World.setCell]; omega, fun k hk => (hne k (by omega)).trans (hWx.below.block k (by omega))⟩ (fun g' hg' => .inl hg') (fun b hb hbv => (hne b (fun e => hbv (by rw [e]; rfl))).trans (hWx.below.block b hb))
        have hcs : cur.toList.length = cap := by simpa using e6
        rw [Nat.mul_one] at e7 ⊢
        rw [Array.toList_setIfInBounds, take_set_succ4 (by omega), e7])
      rwa [if_pos hw] at this
    · have hmc : cap = m := by omega
      have := step_append_grows (E := True) hgd s x t ho T i0 _ 1 by' ht hi hz0 hz1 hz2 hz (by decide) (some ⟨g, 0, none⟩) m cap xs hs (fun h => by cases h) hown.1 (by
        intro b hb j y hj
        cases hb
        rw [add_add, Nat.zero_add, cell_of_row _ _ j _ _ (0, 0) e3]
        rw [← e7, List.getElem?_take] at hj
        split at hj
        · simpa using hj
        · cases hj) ⟨w.heap.size, 0, none⟩ 1 1 [u] hx rfl hc h1c (by omega) b1 b2 (P := P) (ops := #[]) (w := W) (K := K) (Q := Q) (fun v' w' ho' hg' => hgrow (some ⟨g, 0, none⟩) cap w' v' rfl ho' hg')
      rwa [if_pos hw] at this
theorem wpList_push_two {P : Program} {ops : Array Oper} {rest : List Oper} {o : Oper} {a : Act} {w : World} {Q : Exit → Act → World → Prop} (hgd : o.guard = none) (s x : Operand) (t T : TypeId) (z : Value) (by' : Nat)
    (ho : o.op = .call { callee := .builtin .append, args := #[s, x], argTypes := #[t, t] }) (ht : P.underlying t = some (.slice T)) (hi : (P.info? T).map (fun i => (i.zero, i.size, i.bytes)) = some (some z, 1, by')) (hz : z.cells.size = 1)
    {base m : Nat} {v : Value} {xs : List Value} (u : Value) (hown : w.ownsRow base T 1 v m xs) (h1 : u.oneCell' = true) (b1 : m + 1 ≤ maxLen) (b2 : (m + 1) * by' ≤ 140737488355328) (hbase : base ≤ w.heap.size)
    (hs : a.eval s = v) {nb : Nat} (hx : a.eval x = .slice (some ⟨nb, 0, none⟩) 1 1) (hnb : nb = w.heap.size)
    (hK : ∀ (p : Option Addr) (c : Nat) w1, w1.ownsRow base T 1 (.slice p (m + 1) c) (m + 1) (xs ++ [u]) → Below base w w1 → (∀ g, (Value.slice p (m + 1) c).ownBlock = some g → v.ownBlock = some g ∨ w.heap.size ≤ g) → (∀ b, b < w.heap.size → v.ownBlock ≠ some b → w1.heap[b]? = w.heap[b]?) → wpList P ops Q rest (a.put o.dst (.slice p (m + 1) c)) w1) :
    wpList P ops Q (o :: rest) a (w.alloc (.cells #[u] T (0, 0))) :=
  wpList_plain hgd fun _ hK' => wp_push_two hgd s x t T z by' ho ht hi hz u hown h1 b1 b2 hbase hs hx hnb fun p c w1 h2 h3 h4 h5 => hK' _ _ (hK p c w1 h2 h3 h4 h5)
/-- A row beside an append to another. -/
theorem owns_beside {w w1 : World} {base T m : Nat} {v u : Value} {xs : List Value} (h : w.ownsRow base T 1 u m xs) (hk : ∀ b, b < w.heap.size → v.ownBlock ≠ some b → w1.heap[b]? = w.heap[b]?) (hd : ∀ g, u.ownBlock = some g → v.ownBlock ≠ some g) : w1.ownsRow base T 1 u m xs := by
  refine ⟨h.1, ?_⟩
  rcases h.2 with h | ⟨g, cap, cur, e1, e2, e3, r⟩
  · exact .inl h
  · refine .inr ⟨g, cap, cur, e1, e2, ?_, r⟩
    rw [hk g (lt_blk e3) (hd g (by rw [e1]; rfl))]; exact e3
end Go.Proofs.Ytbnjfahjbemleaa
