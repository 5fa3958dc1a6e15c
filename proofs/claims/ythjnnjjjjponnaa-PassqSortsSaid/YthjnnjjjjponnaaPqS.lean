/- An index in a statement's walk: its entries, what else lies there. -/
import Derived.Test.YthjnnjjjjponnaaPq6
import Derived.WalkKit
import Derived.LaidEql
import Derived.Laws.StructEq
import Derived.Handy
namespace Go.Proofs.Ythjnnjjjjponnaa
open Go.RowKit

/-- In world w an index lies at x with these entries; the blocks fr lie beside it; nothing of w0 has turned. -/
def St (w0 : World) (x : Nat) (room : Int) (rows : List En) (fr : List (Nat × Obj)) (w : World) : Prop :=
  ∃ v, Ix w0.heap.size x v room rows.length rows w ∧ w0.heap.size ≤ x ∧ Ext w0 w ∧ ∀ p ∈ fr, w.heap[p.1]? = some p.2 ∧ p.1 ≠ x ∧ v.ownBlock ≠ some p.1 ∧ w0.heap.size ≤ p.1

theorem St.xt {w0 w : World} {x : Nat} {room : Int} {rows : List En} {fr : List (Nat × Obj)} (h : St w0 x room rows fr w) : Ext w0 w := by obtain ⟨v, _, _, h, _⟩ := h; exact h
theorem St.ext {w0 w w' : World} {x : Nat} {room : Int} {rows : List En} {fr : List (Nat × Obj)} (h : St w0 x room rows fr w) (k : Ext w w') : St w0 x room rows fr w' := by
  obtain ⟨v, h1, h2, h3, h4⟩ := h
  refine ⟨v, h1.ext k, h2, h3.trans k, fun p hp => ?_⟩
  obtain ⟨a, b, c, d⟩ := h4 p hp
  exact ⟨by rw [k.below.block _ (lt_blk a)]; exact a, b, c, d⟩
theorem St.went {w0 w w' : World} {x : Nat} {v : Value} {room : Int} {rows rows' : List En} {fr : List (Nat × Obj)} (h1 : Ix w0.heap.size x v room rows.length rows w) (h2 : w0.heap.size ≤ x) (h3 : Ext w0 w) (h4 : ∀ p ∈ fr, w.heap[p.1]? = some p.2 ∧ p.1 ≠ x ∧ v.ownBlock ≠ some p.1 ∧ w0.heap.size ≤ p.1)
    (k : Went w0.heap.size x v room rows' w w') : St w0 x room rows' fr w' := by
  obtain ⟨v', hI, hM⟩ := k
  refine ⟨v', hI, h2, ⟨h3.below.trans (hM.below h2 (fun k hk => (h1.row.lt k hk).1) h3.size)⟩, fun p hp => ?_⟩
  obtain ⟨a, b, c, d⟩ := h4 p hp
  refine ⟨hM.blk a b c, b, fun e => ?_, d⟩
  rcases hM.own _ e with h | h
  · exact c h
  · exact absurd (lt_blk a) (by omega)
/-- One block more beside it. -/
theorem St.alloc {w0 w : World} {x : Nat} {room : Int} {rows : List En} {fr : List (Nat × Obj)} (h : St w0 x room rows fr w) (o : Obj) : St w0 x room rows ((w.heap.size, o) :: fr) (w.alloc o) := by
  obtain ⟨v, h1, h2, h3, h4⟩ := h
  have k : Ext w (w.alloc o) := Ext.alloc (Ext.refl w) o
  refine ⟨v, h1.ext k, h2, h3.trans k, fun p hp => ?_⟩
  rcases List.mem_cons.1 hp with rfl | hp
  · exact ⟨heap_alloc_new w o, fun e => absurd h1.lt (by have : w.heap.size = x := e; omega), fun e => absurd (h1.row.lt _ e).2 (Nat.lt_irrefl _), h3.size⟩
  · obtain ⟨a, b, c, d⟩ := h4 p hp
    exact ⟨by rw [k.below.block _ (lt_blk a)]; exact a, b, c, d⟩
theorem St.fewer {w0 w : World} {x : Nat} {room : Int} {rows : List En} {fr fr' : List (Nat × Obj)} (h : St w0 x room rows fr w) (k : ∀ p ∈ fr', p ∈ fr) : St w0 x room rows fr' w := by
  obtain ⟨v, h1, h2, h3, h4⟩ := h
  exact ⟨v, h1, h2, h3, fun p hp => h4 p (k p hp)⟩
theorem St.blk {w0 w : World} {x : Nat} {room : Int} {rows : List En} {fr : List (Nat × Obj)} (h : St w0 x room rows fr w) {p : Nat × Obj} (hp : p ∈ fr) : w.heap[p.1]? = some p.2 := by
  obtain ⟨v, h1, h2, h3, h4⟩ := h
  exact (h4 p hp).1
/-- A block beside it set anew. -/
theorem St.poke {w0 w : World} {x b j : Nat} {room : Int} {rows : List En} {cs : Array Value} {T : TypeId} {fr : List (Nat × Obj)} (h : St w0 x room rows ((b, .cells cs T (0, 0)) :: fr) w) (u : Value) (hne : ∀ p ∈ fr, p.1 ≠ b := by intro p hp; cases hp) :
    St w0 x room rows ((b, .cells (cs.setIfInBounds j u) T (0, 0)) :: fr) (w.setCell ⟨b, j, none⟩ u) := by
  obtain ⟨v, h1, h2, h3, h4⟩ := h
  obtain ⟨a, hx, c, d⟩ := h4 _ List.mem_cons_self
  refine ⟨v, ⟨?_, h1.row.keep fun g hg => ?_⟩, h2, h3.setCell d u, fun p hp => ?_⟩
  · rw [Below.heap_setCell _ _ _ _ (Ne.symm hx)]; exact h1.blk
  · exact Below.heap_setCell _ _ _ _ (fun e => c (by rw [hg]; exact congrArg some e))
  · rcases List.mem_cons.1 hp with rfl | hp
    · exact ⟨set_same a j u, hx, c, d⟩
    · obtain ⟨a', b', c', d'⟩ := h4 p (List.mem_cons_of_mem _ hp)
      refine ⟨?_, b', c', d'⟩
      rw [Below.heap_setCell _ _ _ _ (hne p hp)]; exact a'
theorem St.lt {w0 w : World} {x : Nat} {room : Int} {rows : List En} {fr : List (Nat × Obj)} (h : St w0 x room rows fr w) : x < w.heap.size := by
  obtain ⟨v, h1, h2, h3, h4⟩ := h
  exact h1.lt

section
variable {w0 w : World} {x : Nat} {room : Int} {rows : List En} {fr : List (Nat × Obj)}
theorem st_new (r : Int) (w : World) : Calls Try.prog 8 #[.int .i64 r] w fun e w' => e = .returned (.pointer (some ⟨w.heap.size, 0, none⟩)) ∧ St w w.heap.size (max 0 (min r 64)) [] [] w' :=
  (new_any r w).mono fun _ _ ⟨a, b, c⟩ => ⟨a, _, b, Nat.le_refl _, c, fun p hp => by cases hp⟩
theorem st_put (h : St w0 x room rows fr w) (pass id : Int) (hl : rows.length ≤ 1000) (hform : formedB pass id = true) (hf : ¬ idAt rows id < rows.length) (hr : (rows.length : Int) < room) :
    Calls Try.prog 9 #[.pointer (some ⟨x, 0, none⟩), .int .i64 pass, .int .i64 id] w fun e w' => e = .returned .nilIface ∧ St w0 x room (ins (pass, id) rows) fr w' := by
  obtain ⟨v, h1, h2, h3, h4⟩ := h
  exact (put_yes _ x v room rows pass id w h1 h2 hl hform hf hr).mono fun _ _ ⟨a, b⟩ => ⟨a, St.went h1 h2 h3 h4 b⟩
theorem st_full (h : St w0 x room rows fr w) (pass id : Int) (hl : rows.length ≤ 1000) (hform : formedB pass id = true) (hf : ¬ idAt rows id < rows.length) (hr : room ≤ (rows.length : Int)) :
    Calls Try.prog 9 #[.pointer (some ⟨x, 0, none⟩), .int .i64 pass, .int .i64 id] w fun e w' => e = .returned (.iface 42 (.int .i64 14)) ∧ St w0 x room rows fr w' := by
  have hs := h
  obtain ⟨v, h1, h2, h3, h4⟩ := h
  exact (put_full _ x v room rows pass id w h1 hl hform hf hr).mono fun _ _ ⟨a, b⟩ => ⟨a, hs.ext b⟩
theorem st_clash (h : St w0 x room rows fr w) (pass id : Int) (hl : rows.length ≤ 1000) (hform : formedB pass id = true) (hf : idAt rows id < rows.length) :
    Calls Try.prog 9 #[.pointer (some ⟨x, 0, none⟩), .int .i64 pass, .int .i64 id] w fun e w' => e = .returned (.iface 42 (.int .i64 20)) ∧ St w0 x room rows fr w' := by
  have hs := h
  obtain ⟨v, h1, h2, h3, h4⟩ := h
  exact (put_clash _ x v room rows pass id w h1 hl hform hf).mono fun _ _ ⟨a, b⟩ => ⟨a, hs.ext b⟩
theorem st_drop (h : St w0 x room rows fr w) (id : Int) (hl : rows.length ≤ 1000) (hf : idAt rows id < rows.length) :
    Calls Try.prog 11 #[.pointer (some ⟨x, 0, none⟩), .int .i64 id] w fun e w' => e = .returned .nilIface ∧ St w0 x room (rows.eraseIdx (idAt rows id)) fr w' := by
  obtain ⟨v, h1, h2, h3, h4⟩ := h
  exact (drop_yes _ x v room rows id w h1 hl hf).mono fun _ _ ⟨a, b⟩ => ⟨a, St.went h1 h2 h3 h4 b⟩
theorem st_none (h : St w0 x room rows fr w) (id : Int) (hl : rows.length ≤ 1000) (hf : ¬ idAt rows id < rows.length) :
    Calls Try.prog 11 #[.pointer (some ⟨x, 0, none⟩), .int .i64 id] w fun e w' => e = .returned (.iface 42 (.int .i64 13)) ∧ St w0 x room rows fr w' := by
  have hs := h
  obtain ⟨v, h1, h2, h3, h4⟩ := h
  exact (drop_no _ x v room rows id w h1 hl hf).mono fun _ _ ⟨a, b⟩ => ⟨a, hs.ext b⟩
theorem st_rekey (h : St w0 x room rows fr w) (id pass : Int) (hl : rows.length ≤ 1000) (hform : formedB pass id = true) (hf : idAt rows id < rows.length) :
    Calls Try.prog 16 #[.pointer (some ⟨x, 0, none⟩), .int .i64 id, .int .i64 pass] w fun e w' => e = .returned .nilIface ∧ St w0 x room (ins (pass, id) (rows.eraseIdx (idAt rows id))) fr w' := by
  obtain ⟨v, h1, h2, h3, h4⟩ := h
  exact (rekey_yes _ x v room rows id pass w h1 h2 hl hform hf).mono fun _ _ ⟨a, b⟩ => ⟨a, St.went h1 h2 h3 h4 b⟩
theorem st_shift (h : St w0 x room rows fr w) (n : Int) (hl : rows.length ≤ 1000) (hp : ∀ e ∈ rows, 0 ≤ e.1 ∧ e.1 ≤ 1099511627776) :
    Calls Try.prog 14 #[.pointer (some ⟨x, 0, none⟩), .int .i64 n] w fun e w' => e = .returned (.tuple #[]) ∧ St w0 x room (shiftL (max 0 (min n 1099511627776)) rows []) fr w' := by
  obtain ⟨v, h1, h2, h3, h4⟩ := h
  exact (shift_any _ x v room rows n w h1 h2 hl hp).mono fun _ _ ⟨a, b⟩ => ⟨a, St.went h1 h2 h3 h4 b⟩
theorem st_min (h : St w0 x room rows fr w) : Calls Try.prog 10 #[.pointer (some ⟨x, 0, none⟩)] w fun e w' => e = .returned (minV rows) ∧ St w0 x room rows fr w' := by
  have hs := h
  obtain ⟨v, h1, h2, h3, h4⟩ := h
  exact (min_any _ x v room rows w h1).mono fun _ _ ⟨a, b⟩ => ⟨a, hs.ext b⟩
theorem st_len (h : St w0 x room rows fr w) : Calls Try.prog 12 #[.pointer (some ⟨x, 0, none⟩)] w fun e w' => e = .returned (.int .i64 rows.length) ∧ St w0 x room rows fr w' := by
  have hs := h
  obtain ⟨v, h1, h2, h3, h4⟩ := h
  exact (len_any _ x v room rows w h1).mono fun _ _ ⟨a, b⟩ => ⟨a, by rw [b]; exact hs⟩
theorem st_pass (h : St w0 x room rows fr w) (id : Int) (hl : rows.length ≤ 1000) : Calls Try.prog 17 #[.pointer (some ⟨x, 0, none⟩), .int .i64 id] w fun e w' => e = .returned (passV rows id) ∧ St w0 x room rows fr w' := by
  have hs := h
  obtain ⟨v, h1, h2, h3, h4⟩ := h
  exact (pass_any _ x v room rows id w h1 hl).mono fun _ _ ⟨a, b⟩ => ⟨a, hs.ext b⟩
/-- All: the row it answers lies in a block of its own. -/
theorem st_all (h : St w0 x room rows fr w) (hl : rows.length ≤ 1000) : Calls Try.prog 13 #[.pointer (some ⟨x, 0, none⟩)] w fun e w' =>
    ∃ p c, e = .returned (.slice p rows.length c) ∧ St w0 x room rows fr w' ∧ Row w' w.heap.size (.slice p rows.length c) rows.length rows := by
  have hs := h
  obtain ⟨v, h1, h2, h3, h4⟩ := h
  exact (all_any _ x v room rows w h1 hl).mono fun _ _ ⟨p, c, a, r, b⟩ => ⟨p, c, a, hs.ext b, r⟩
/-- The same of a row that isn't empty: its block is told, and stays beside the index. -/
theorem st_all' (h : St w0 x room rows fr w) (hl : rows.length ≤ 1000) (hn : 0 < rows.length) : Calls Try.prog 13 #[.pointer (some ⟨x, 0, none⟩)] w fun e w' =>
    ∃ g c cur, e = .returned (.slice (some ⟨g, 0, none⟩) rows.length c) ∧ rows.length ≤ c ∧ c ≤ maxLen ∧ St w0 x room rows ((g, .cells cur 31 (0, 0)) :: fr) w' ∧ Row w' w.heap.size (.slice (some ⟨g, 0, none⟩) rows.length c) rows.length rows := by
  have hs := h
  obtain ⟨v, h1, h2, h3, h4⟩ := h
  refine (all_any _ x v room rows w h1 hl).mono fun _ w' ⟨p, c, a, r, b⟩ => ?_
  have hr := r
  rcases r.2 with ⟨_, h0⟩ | ⟨g, cap, cur, e1, e2, e3, e4, e5, _⟩
  · rw [h0] at hn; cases hn
  · injection e1 with e1 _ e6
    subst e1 e6
    refine ⟨g, c, cur, a, e4, e5, ⟨v, h1.ext b, h2, h3.trans b, fun p hp => ?_⟩, hr⟩
    rcases List.mem_cons.1 hp with rfl | hp
    · exact ⟨e3, fun e => absurd h1.lt (by have e : g = x := e; omega), fun e => absurd (h1.row.lt _ e).2 (by have e2 : w.heap.size ≤ g := e2; show ¬ g < _; omega), by have := h3.size; show _ ≤ g; omega⟩
    · obtain ⟨a, b', c, d⟩ := h4 p hp
      exact ⟨by rw [b.below.block _ (lt_blk a)]; exact a, b', c, d⟩
end

theorem entNe (a b : Int) (w : World) : (binOp .neq 31 (.agg #[.int .i64 a, .int .i64 b]) (.agg #[.int .i64 a, .int .i64 b])).run Try.prog w = .ok (.bool false) w := by
  have u3 := Try.underlying3
  have a3 := Try.isAgg3
  have z3 := Try.sizeOf3
  have hS : Try.prog.underlying 31 = some (.struct (Try.prog.fieldsOf 31)) := by kernel_rfl
  have hp : Try.prog.stoodInHeld 31 = false := by kernel_rfl
  rw [run_neq_struct, show (10000 : Nat) = 9999 + 1 from rfl, run_equalIn_agg w 9999 31 _ _ hS hp]
  simp only [Program.fieldsOf, Try.underlying31]
  go_simp
theorem entEq (a b c d : Int) (w : World) : (binOp .eql 31 (.agg #[.int .i64 a, .int .i64 b]) (.agg #[.int .i64 c, .int .i64 d])).run Try.prog w = .ok (.bool (a == c && b == d)) w := by
  have u3 := Try.underlying3
  have a3 := Try.isAgg3
  have z3 := Try.sizeOf3
  have hS : Try.prog.underlying 31 = some (.struct (Try.prog.fieldsOf 31)) := by kernel_rfl
  have hp : Try.prog.stoodInHeld 31 = false := by kernel_rfl
  rw [run_eql_struct, show (10000 : Nat) = 9999 + 1 from rfl, run_equalIn_agg w 9999 31 _ _ hS hp]
  simp only [Program.fieldsOf, Try.underlying31]
  go_simp
  by_cases h1 : a = c <;> by_cases h2 : b = d <;> simp [h1, h2]
end Go.Proofs.Ythjnnjjjjponnaa
