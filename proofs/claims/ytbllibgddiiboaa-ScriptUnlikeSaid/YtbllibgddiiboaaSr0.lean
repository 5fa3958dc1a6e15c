/- The script's reader in memory; its numbers, its counts, what is wrong. -/
import Derived.Test.YtbllibgddiiboaaRead2
import Derived.Test.YtbllibgddiiboaaScr
import Derived.Test.YtbllibgddiiboaaMath4d
import Derived.Test.YtbllibgddiiboaaPush2
namespace Go.Proofs.Ytbllibgddiiboaa
open Go.RowKit

/-- Nothing but the blocks b, c has changed; there may be more. -/
structure Two (b c : Nat) (w w' : World) : Prop where
  os : w'.os = w.os
  tape : w'.tape = w.tape
  output : w'.output = w.output
  size : w.heap.size ≤ w'.heap.size
  block : ∀ i, i < w.heap.size → i ≠ b → i ≠ c → w'.heap[i]? = w.heap[i]?
theorem Two.refl (b c : Nat) (w : World) : Two b c w w := ⟨rfl, rfl, rfl, Nat.le_refl _, fun _ _ _ _ => rfl⟩
theorem Two.trans {b c : Nat} {x y z : World} (h : Two b c x y) (k : Two b c y z) : Two b c x z :=
  ⟨k.os.trans h.os, k.tape.trans h.tape, k.output.trans h.output, Nat.le_trans h.size k.size, fun i hi h1 h2 => (k.block i (Nat.lt_of_lt_of_le hi h.size) h1 h2).trans (h.block i hi h1 h2)⟩
theorem Two.ext {b c : Nat} {x y z : World} (h : Two b c x y) (k : Ext y z) : Two b c x z :=
  h.trans ⟨k.below.os, k.below.tape, k.below.output, k.below.size, fun i hi _ _ => k.below.block i hi⟩
theorem Two.of_ext {b c : Nat} {x y : World} (k : Ext x y) : Two b c x y := (Two.refl b c x).ext k
theorem Two.of_only {b c : Nat} {x y : World} (k : Only c x y) : Two b c x y :=
  ⟨k.os, k.tape, k.output, k.size, fun i hi _ h2 => k.block i hi (by simpa using h2)⟩
/-- A store into b, c, or what has come since. -/
theorem Two.set {b c : Nat} {x y : World} (h : Two b c x y) {p : Addr} (hp : p.block = b ∨ p.block = c ∨ x.heap.size ≤ p.block) (u : Value) : Two b c x (y.setCell p u) :=
  ⟨h.os, h.tape, h.output, by simpa [World.setCell] using h.size, fun i hi h1 h2 => (Below.heap_setCell _ _ _ _ (fun e => by subst e; omega)).trans (h.block i hi h1 h2)⟩
theorem Two.blk {b c i : Nat} {x y : World} {o : Obj} (h : Two b c x y) (hi : x.heap[i]? = some o) (h1 : i ≠ b) (h2 : i ≠ c) : y.heap[i]? = some o := by
  rw [h.block i (lt_of_block hi) h1 h2]; exact hi
theorem Two.below {b c base : Nat} {x y : World} (h : Two b c x y) (hb : base ≤ b) (hc : base ≤ c) (hs : base ≤ x.heap.size) : Below base x y :=
  ⟨h.os, h.tape, h.output, h.size, fun i hi => h.block i (by omega) (by omega) (by omega)⟩
theorem Two.cell {b c : Nat} {x y : World} {p : Addr} {v : Value} (h : Two b c x y) (hc : x.cell? p = some v) (h1 : p.block ≠ b) (h2 : p.block ≠ c) : y.cell? p = some v := by
  have hlt := World.block_lt_of_cell? x p hc
  rw [← hc]
  simp only [World.cell?, h.block p.block hlt h1 h2]

/-- Blocks of these types are as they were. -/
def Kept (good : List TypeId) (w w' : World) : Prop := ∀ (b : Nat) cs T, w.heap[b]? = some (.cells cs T (0, 0)) → T ∈ good → w'.heap[b]? = some (.cells cs T (0, 0))
theorem Kept.refl (g : List TypeId) (w : World) : Kept g w w := fun _ _ _ h _ => h
theorem Kept.trans {g : List TypeId} {x y z : World} (h : Kept g x y) (k : Kept g y z) : Kept g x z := fun b cs T hb hT => k b cs T (h b cs T hb hT) hT
theorem Kept.of_ext {g : List TypeId} {x y : World} (k : Ext x y) : Kept g x y := fun _ _ _ hb _ => block_ext k hb
theorem Kept.sub {g g' : List TypeId} {x y : World} (h : Kept g x y) (hs : ∀ T ∈ g', T ∈ g) : Kept g' x y := fun b cs T hb hT => h b cs T hb (hs T hT)
theorem owns_kept {good : List TypeId} {w w' : World} {base T n m : Nat} {v : Value} {xs : List Value} (h : w.ownsRow base T n v m xs) (k : Kept good w w') (hT : T ∈ good) : w'.ownsRow base T n v m xs := by
  refine ⟨h.1, ?_⟩
  rcases h.2 with hn | ⟨g, cap, cur, e1, e2, e3, r⟩
  · exact .inl hn
  · exact .inr ⟨g, cap, cur, e1, e2, k _ _ _ e3 hT, r⟩
theorem owns_weak {w : World} {base base' T n m : Nat} {v : Value} {xs : List Value} (h : w.ownsRow base T n v m xs) (hb : base' ≤ base) : w.ownsRow base' T n v m xs := by
  refine ⟨h.1, ?_⟩
  rcases h.2 with hn | ⟨g, cap, cur, e1, e2, r⟩
  · exact .inl hn
  · exact .inr ⟨g, cap, cur, e1, by omega, r⟩
/-- What an append has changed is of its own type alone. -/
theorem kept_push {good : List TypeId} {w w' : World} {base T n m : Nat} {v : Value} {xs : List Value} (h : w.ownsRow base T n v m xs) (hT : T ∉ good) (k : ∀ b o, w.heap[b]? = some o → some b ≠ v.ownBlock → w'.heap[b]? = some o) : Kept good w w' := fun b cs T' hb hT' => by
  refine k b _ hb fun e => hT ?_
  rcases h.2 with ⟨rfl, _⟩ | ⟨g, cap, cur, rfl, _, e3, _⟩
  · simp [Value.ownBlock] at e
  · simp only [Value.ownBlock, Option.some.injEq] at e
    subst e
    rw [hb] at e3
    simp at e3
    rw [← e3.2]; exact hT'

/-- The reader at block b, its Reader at block c. -/
structure Sr (b c : Nat) (s : Rb) (w : World) : Prop where
  blk : w.heap[b]? = some (.cells #[.pointer (some ⟨c, 0, none⟩), .bool s.b] 74 (0, 0))
  rd : Rr c s.r w
  len : s.r.s.length ≤ 40000
theorem Sr.ne {b c : Nat} {s : Rb} {w : World} (h : Sr b c s w) : b ≠ c := fun e => by
  have h1 := h.blk
  have h2 := h.rd
  unfold Rr at h2
  rw [e, h2] at h1
  simp at h1
theorem Sr.lt {b c : Nat} {s : Rb} {w : World} (h : Sr b c s w) : b < w.heap.size ∧ c < w.heap.size := ⟨lt_of_block h.blk, lt_of_block h.rd⟩
theorem Sr.ext {b c : Nat} {s : Rb} {w w' : World} (h : Sr b c s w) (k : Ext w w') : Sr b c s w' := ⟨block_ext k h.blk, h.rd.ext k, h.len⟩
theorem Sr.other {b c : Nat} {s : Rb} {w : World} (h : Sr b c s w) {p : Addr} (h1 : p.block ≠ b) (h2 : p.block ≠ c) (u : Value) : Sr b c s (w.setCell p u) :=
  ⟨(Below.heap_setCell _ _ _ _ h1.symm).trans h.blk, (Below.heap_setCell _ _ _ _ h2.symm).trans h.rd, h.len⟩
theorem Sr.push {b c base T n m : Nat} {s : Rb} {w w' : World} {v : Value} {xs : List Value} (h : Sr b c s w) (ho : w.ownsRow base T n v m xs) (hT : T ≠ 74 ∧ T ≠ 101) (k : ∀ b o, w.heap[b]? = some o → some b ≠ v.ownBlock → w'.heap[b]? = some o) : Sr b c s w' :=
  have hk : Kept [74, 101] w w' := kept_push ho (by simp; exact hT) k
  ⟨hk _ _ _ h.blk (by simp), hk _ _ _ h.rd (by simp), h.len⟩
theorem Sr.kept {b c : Nat} {s : Rb} {w w' : World} {good : List TypeId} (h : Sr b c s w) (k : Two b c w w') (hg : 74 ∉ good ∧ 101 ∉ good) : Kept good w w' := fun i cs T hi hT => by
  refine k.blk hi (fun e => hg.1 ?_) (fun e => hg.2 ?_)
  · subst e
    rw [h.blk] at hi
    simp at hi
    rw [hi.2]; exact hT
  · subst e
    have := h.rd
    unfold Rr at this
    rw [this] at hi
    simp at hi
    rw [hi.2]; exact hT
theorem Sr.cell0 {b c : Nat} {s : Rb} {w : World} (h : Sr b c s w) : w.cell? ⟨b, 0, none⟩ = some (.pointer (some ⟨c, 0, none⟩)) := blk_cell h.blk 0
theorem Sr.cell1 {b c : Nat} {s : Rb} {w : World} (h : Sr b c s w) : w.cell? ⟨b, 1, none⟩ = some (.bool s.b) := blk_cell h.blk 1
theorem Sr.setBelow {b c : Nat} {s : Rb} {w : World} (h : Sr b c s w) (x : Bool) : Sr b c ⟨s.r, x⟩ (w.setCell ⟨b, 1, none⟩ (.bool x)) :=
  ⟨blk_set h.blk 1 _, (Below.heap_setCell _ _ _ _ h.ne.symm).trans h.rd, h.len⟩

/-- What a call of the reader comes to: the value v, the state s'. -/
def Reads (b c : Nat) (v : Value) (s' : Rb) (w : World) (e : Ending) (w' : World) : Prop := e = .returned v ∧ Sr b c s' w' ∧ Two b c w w'

set_option maxHeartbeats 1000000 in
theorem srNum_any (b c : Nat) (s : Rb) (w : World) (h : Sr b c s w) : Calls Try.prog 41 #[.pointer (some ⟨b, 0, none⟩)] w (Reads b c (.int .i64 (numP s).1) (numP s).2 w) := by
  have c0 := h.cell0
  have hl := h.len
  have hlen := Rd.afterNum_len s.r 1048576
  have H := hid h
  clear h
  go_enter Try.func41, Try.ntmps41
  go_wp2_with (go_at_call 67; refine (rnum_any _ _ _ _ H.out.rd (by omega)).mono ?_; rintro e w' ⟨rfl, hr, ho⟩)
  go_returns
  exact ⟨rfl, ⟨ho.blk H.out.blk H.out.ne, hr, by show (s.r.afterNum 1048576).s.length ≤ 40000; omega⟩, Two.of_only ho⟩
theorem ite_or_bool (p q : Bool) : (if p = true then true else q) = (p || q) := by cases p <;> rfl
set_option maxHeartbeats 2000000 in
theorem srCount_any (b c : Nat) (s : Rb) (w : World) (h : Sr b c s w) : Calls Try.prog 61 #[.pointer (some ⟨b, 0, none⟩)] w (Reads b c (.int .i64 (cntP s).1) (cntP s).2 w) := by
  have c0 := h.cell0
  have hl := h.len
  have hlen := Rd.afterNum_len s.r 40000
  have H := hid h
  have HP : Hid (cntP s = (s.r.num 40000, ⟨s.r.afterNum 40000, s.b || decide (s.r.num 40000 < 0)⟩)) := rfl
  clear h
  cases hb : s.b
  all_goals
    have HB := hid hb
    clear hb
    by_cases hn : s.r.num 40000 < 0
    all_goals
      have HN := hid hn
      go_enter Try.func61, Try.ntmps61
      go_wp2_with fail
      refine (rnum_any _ _ _ _ H.out.rd (by omega)).mono ?_
      rintro e w' ⟨rfl, hr, ho⟩
      have hS : Sr b c ⟨s.r.afterNum 40000, s.b⟩ w' := ⟨ho.blk H.out.blk H.out.ne, hr, by show (s.r.afterNum 40000).s.length ≤ 40000; omega⟩
      have d0 := hS.cell0
      have d1 := hS.cell1
      simp only [HB.out] at d1
      have f1 := blk_free hS.blk 1
      have HS := hid hS
      generalize s.r.num 40000 = n at *
      go_wp2_with fail
      go_returns
      rw [HP.out, HB.out]
      refine ⟨rfl, ?_, Two.set (p := ⟨b, 1, none⟩) (Two.of_only ho) (.inl rfl) _⟩
      first | exact hS.setBelow true | (have := hS.setBelow (decide (n < 0)); simpa [hn] using this)
end Go.Proofs.Ytbllibgddiiboaa
