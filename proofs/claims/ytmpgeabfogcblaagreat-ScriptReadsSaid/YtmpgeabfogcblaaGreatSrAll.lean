/- What is read, as data; script.Read. -/
import Derived.Test.YtmpgeabfogcblaaGreatRead2
import Derived.Test.YtmpgeabfogcblaaGreatScr
import Derived.Test.YtmpgeabfogcblaaGreatMath4d
import Derived.Test.YtmpgeabfogcblaaGreatPush2
import Derived.Test.YtmpgeabfogcblaaGreatTail
import Derived.Deep.RegionHeld3
import Derived.Deep.RegionWith
import Derived.Deep.CutRange
import Derived.Test.YtmpgeabfogcblaaGreatSc1
namespace Go.Proofs.YtmpgeabfogcblaaGreat
open Go.RowKit

/-- Nothing but the blocks b, c has changed; there may be more. -/
structure Two (b c : Nat) (w w' : World) : Prop where
  os : w'.os = w.os
  tape : w'.tape = w.tape
  output : w'.output = w.output
  size : w.heap.size ≤ w'.heap.size
  block : ∀ i, i < w.heap.size → i ≠ b → i ≠ c → w'.heap[i]? = w.heap[i]?
theorem Two.refl (b c : Nat) (w : World) : Two b c w w := ⟨rfl, rfl, rfl, Nat.le_refl _, fun _ _ _ _ => rfl⟩
theorem Two.trans {b c : Nat} {x y z : World} (h : Two b c x y) (k : Two b c y z) : Two b c x z :=
  ⟨k.os.trans h.os, k.tape.trans h.tape, k.output.trans h.output, Nat.le_trans h.size k.size, fun i hi h1 h2 => (k.block i (Nat.lt_of_lt_of_le hi h.size) h1 h2).trans (h.block i hi h1 h2)⟩
theorem Two.ext {b c : Nat} {x y z : World} (h : Two b c x y) (k : Ext y z) : Two b c x z :=
  h.trans ⟨k.below.os, k.below.tape, k.below.output, k.below.size, fun i hi _ _ => k.below.block i hi⟩
theorem Two.of_ext {b c : Nat} {x y : World} (k : Ext x y) : Two b c x y := (Two.refl b c x).ext k
theorem Two.of_only {b c : Nat} {x y : World} (k : Only c x y) : Two b c x y :=
  ⟨k.os, k.tape, k.output, k.size, fun i hi _ h2 => k.block i hi (by simpa using h2)⟩
/-- A store into b, c, or what has come since. -/
theorem Two.set {b c : Nat} {x y : World} (h : Two b c x y) {p : Addr} (hp : p.block = b ∨ p.block = c ∨ x.heap.size ≤ p.block) (u : Value) : Two b c x (y.setCell p u) :=
  ⟨h.os, h.tape, h.output, by simpa [World.setCell] using h.size, fun i hi h1 h2 => (Below.heap_setCell _ _ _ _ (fun e => by subst e; omega)).trans (h.block i hi h1 h2)⟩
theorem Two.blk {b c i : Nat} {x y : World} {o : Obj} (h : Two b c x y) (hi : x.heap[i]? = some o) (h1 : i ≠ b) (h2 : i ≠ c) : y.heap[i]? = some o := by
  rw [h.block i (lt_of_block hi) h1 h2]; exact hi
theorem Two.below {b c base : Nat} {x y : World} (h : Two b c x y) (hb : base ≤ b) (hc : base ≤ c) (hs : base ≤ x.heap.size) : Below base x y :=
  ⟨h.os, h.tape, h.output, h.size, fun i hi => h.block i (by omega) (by omega) (by omega)⟩
theorem Two.cell {b c : Nat} {x y : World} {p : Addr} {v : Value} (h : Two b c x y) (hc : x.cell? p = some v) (h1 : p.block ≠ b) (h2 : p.block ≠ c) : y.cell? p = some v := by
  have hlt := World.block_lt_of_cell? x p hc
  rw [← hc]
  simp only [World.cell?, h.block p.block hlt h1 h2]

/-- Blocks of these types are as they were. -/
def Kept (good : List TypeId) (w w' : World) : Prop := ∀ (b : Nat) cs T, w.heap[b]? = some (.cells cs T (0, 0)) → T ∈ good → w'.heap[b]? = some (.cells cs T (0, 0))
theorem Kept.refl (g : List TypeId) (w : World) : Kept g w w := fun _ _ _ h _ => h
theorem Kept.trans {g : List TypeId} {x y z : World} (h : Kept g x y) (k : Kept g y z) : Kept g x z := fun b cs T hb hT => k b cs T (h b cs T hb hT) hT
theorem Kept.of_ext {g : List TypeId} {x y : World} (k : Ext x y) : Kept g x y := fun _ _ _ hb _ => block_ext k hb
theorem Kept.sub {g g' : List TypeId} {x y : World} (h : Kept g x y) (hs : ∀ T ∈ g', T ∈ g) : Kept g' x y := fun b cs T hb hT => h b cs T hb (hs T hT)
theorem owns_kept {good : List TypeId} {w w' : World} {base T n m : Nat} {v : Value} {xs : List Value} (h : w.ownsRow base T n v m xs) (k : Kept good w w') (hT : T ∈ good) : w'.ownsRow base T n v m xs := by
  refine ⟨h.1, ?_⟩
  rcases h.2 with hn | ⟨g, cap, cur, e1, e2, e3, r⟩
  · exact .inl hn
  · exact .inr ⟨g, cap, cur, e1, e2, k _ _ _ e3 hT, r⟩
theorem owns_weak {w : World} {base base' T n m : Nat} {v : Value} {xs : List Value} (h : w.ownsRow base T n v m xs) (hb : base' ≤ base) : w.ownsRow base' T n v m xs := by
  refine ⟨h.1, ?_⟩
  rcases h.2 with hn | ⟨g, cap, cur, e1, e2, r⟩
  · exact .inl hn
  · exact .inr ⟨g, cap, cur, e1, by omega, r⟩
/-- What an append has changed is of its own type alone. -/
theorem kept_push {good : List TypeId} {w w' : World} {base T n m : Nat} {v : Value} {xs : List Value} (h : w.ownsRow base T n v m xs) (hT : T ∉ good) (k : ∀ b o, w.heap[b]? = some o → some b ≠ v.ownBlock → w'.heap[b]? = some o) : Kept good w w' := fun b cs T' hb hT' => by
  refine k b _ hb fun e => hT ?_
  rcases h.2 with ⟨rfl, _⟩ | ⟨g, cap, cur, rfl, _, e3, _⟩
  · simp [Value.ownBlock] at e
  · simp only [Value.ownBlock, Option.some.injEq] at e
    subst e
    rw [hb] at e3
    simp at e3
    rw [← e3.2]; exact hT'

/-- The reader at block b, its Reader at block c. -/
structure Sr (b c : Nat) (s : Rb) (w : World) : Prop where
  blk : w.heap[b]? = some (.cells #[.pointer (some ⟨c, 0, none⟩), .bool s.b] 53 (0, 0))
  rd : Rr c s.r w
  len : s.r.s.length ≤ 40000
theorem Sr.ne {b c : Nat} {s : Rb} {w : World} (h : Sr b c s w) : b ≠ c := fun e => by
  have h1 := h.blk
  have h2 := h.rd
  unfold Rr at h2
  rw [e, h2] at h1
  simp at h1
theorem Sr.lt {b c : Nat} {s : Rb} {w : World} (h : Sr b c s w) : b < w.heap.size ∧ c < w.heap.size := ⟨lt_of_block h.blk, lt_of_block h.rd⟩
theorem Sr.ext {b c : Nat} {s : Rb} {w w' : World} (h : Sr b c s w) (k : Ext w w') : Sr b c s w' := ⟨block_ext k h.blk, h.rd.ext k, h.len⟩
theorem Sr.other {b c : Nat} {s : Rb} {w : World} (h : Sr b c s w) {p : Addr} (h1 : p.block ≠ b) (h2 : p.block ≠ c) (u : Value) : Sr b c s (w.setCell p u) :=
  ⟨(Below.heap_setCell _ _ _ _ h1.symm).trans h.blk, (Below.heap_setCell _ _ _ _ h2.symm).trans h.rd, h.len⟩
theorem Sr.push {b c base T n m : Nat} {s : Rb} {w w' : World} {v : Value} {xs : List Value} (h : Sr b c s w) (ho : w.ownsRow base T n v m xs) (hT : T ≠ 53 ∧ T ≠ 83) (k : ∀ b o, w.heap[b]? = some o → some b ≠ v.ownBlock → w'.heap[b]? = some o) : Sr b c s w' :=
  have hk : Kept [53, 83] w w' := kept_push ho (by simp; exact hT) k
  ⟨hk _ _ _ h.blk (by simp), hk _ _ _ h.rd (by simp), h.len⟩
theorem Sr.kept {b c : Nat} {s : Rb} {w w' : World} {good : List TypeId} (h : Sr b c s w) (k : Two b c w w') (hg : 53 ∉ good ∧ 83 ∉ good) : Kept good w w' := fun i cs T hi hT => by
  refine k.blk hi (fun e => hg.1 ?_) (fun e => hg.2 ?_)
  · subst e
    rw [h.blk] at hi
    simp at hi
    rw [hi.2]; exact hT
  · subst e
    have := h.rd
    unfold Rr at this
    rw [this] at hi
    simp at hi
    rw [hi.2]; exact hT
theorem Sr.cell0 {b c : Nat} {s : Rb} {w : World} (h : Sr b c s w) : w.cell? ⟨b, 0, none⟩ = some (.pointer (some ⟨c, 0, none⟩)) := blk_cell h.blk 0
theorem Sr.cell1 {b c : Nat} {s : Rb} {w : World} (h : Sr b c s w) : w.cell? ⟨b, 1, none⟩ = some (.bool s.b) := blk_cell h.blk 1
theorem Sr.setBelow {b c : Nat} {s : Rb} {w : World} (h : Sr b c s w) (x : Bool) : Sr b c ⟨s.r, x⟩ (w.setCell ⟨b, 1, none⟩ (.bool x)) :=
  ⟨blk_set h.blk 1 _, (Below.heap_setCell _ _ _ _ h.ne.symm).trans h.rd, h.len⟩

/-- What a call of the reader comes to: the value v, the state s'. -/
def Reads (b c : Nat) (v : Value) (s' : Rb) (w : World) (e : Ending) (w' : World) : Prop := e = .returned v ∧ Sr b c s' w' ∧ Two b c w w'

set_option maxHeartbeats 1000000 in
theorem srNum_any (b c : Nat) (s : Rb) (w : World) (h : Sr b c s w) : Calls Tryz.prog 40 #[.pointer (some ⟨b, 0, none⟩)] w (Reads b c (.int .i64 (numP s).1) (numP s).2 w) := by
  have c0 := h.cell0
  have hl := h.len
  have hlen := Rd.afterNum_len s.r 1048576
  have H := hid h
  clear h
  go_enter Tryz.func40, Tryz.ntmps40
  go_wp2_with (go_at_call 79; refine (rnum_any _ _ _ _ H.out.rd (by omega)).mono ?_; rintro e w' ⟨rfl, hr, ho⟩)
  go_returns
  exact ⟨rfl, ⟨ho.blk H.out.blk H.out.ne, hr, by show (s.r.afterNum 1048576).s.length ≤ 40000; omega⟩, Two.of_only ho⟩
theorem ite_or_bool (p q : Bool) : (if p = true then true else q) = (p || q) := by cases p <;> rfl
set_option maxHeartbeats 2000000 in
theorem srCount_any (b c : Nat) (s : Rb) (w : World) (h : Sr b c s w) : Calls Tryz.prog 73 #[.pointer (some ⟨b, 0, none⟩)] w (Reads b c (.int .i64 (cntP s).1) (cntP s).2 w) := by
  have c0 := h.cell0
  have hl := h.len
  have hlen := Rd.afterNum_len s.r 40000
  have H := hid h
  have HP : Hid (cntP s = (s.r.num 40000, ⟨s.r.afterNum 40000, s.b || decide (s.r.num 40000 < 0)⟩)) := rfl
  clear h
  cases hb : s.b
  all_goals
    have HB := hid hb
    clear hb
    by_cases hn : s.r.num 40000 < 0
    all_goals
      have HN := hid hn
      go_enter Tryz.func73, Tryz.ntmps73
      go_wp2_with fail
      refine (rnum_any _ _ _ _ H.out.rd (by omega)).mono ?_
      rintro e w' ⟨rfl, hr, ho⟩
      have hS : Sr b c ⟨s.r.afterNum 40000, s.b⟩ w' := ⟨ho.blk H.out.blk H.out.ne, hr, by show (s.r.afterNum 40000).s.length ≤ 40000; omega⟩
      have d0 := hS.cell0
      have d1 := hS.cell1
      simp only [HB.out] at d1
      have f1 := blk_free hS.blk 1
      have HS := hid hS
      generalize s.r.num 40000 = n at *
      go_wp2_with fail
      go_returns
      rw [HP.out, HB.out]
      refine ⟨rfl, ?_, Two.set (p := ⟨b, 1, none⟩) (Two.of_only ho) (.inl rfl) _⟩
      first | exact hS.setBelow true | (have := hS.setBelow (decide (n < 0)); simpa [hn] using this)
end Go.Proofs.YtmpgeabfogcblaaGreat

namespace Go.Proofs.YtmpgeabfogcblaaGreat
open Go.RowKit

def wrongE (s : Rb) : Nat := if s.b = true then 10 else s.r.e
theorem wrongE_ok {s : Rb} (h : s.wrong = false) : wrongE s = 0 := by
  obtain ⟨h1, h2⟩ := Rb.wrong_iff.1 h
  simp [wrongE, h1, h2]
theorem wrongE_bad {s : Rb} (h : s.wrong = true) : wrongE s ≠ 0 := by
  unfold wrongE
  split
  · omega
  · rename_i hb
    intro he
    have : s.wrong = false := Rb.wrong_iff.2 ⟨by simpa using hb, he⟩
    rw [this] at h; cases h
set_option maxHeartbeats 1000000 in
theorem srWrong_any (b c : Nat) (s : Rb) (w : World) (h : Sr b c s w) : Calls Tryz.prog 15 #[.pointer (some ⟨b, 0, none⟩)] w fun e w' => e = .returned (errV (wrongE s)) ∧ w = w' := by
  have c0 := h.cell0
  have c1 := h.cell1
  have H := hid h
  clear h
  cases hb : s.b
  all_goals
    have HB := hid hb
    rw [hb] at c1
    clear hb
    go_enter Tryz.func15, Tryz.ntmps15
    go_wp2_with (go_at_call 45; refine (err_any _ _ _ H.out.rd).mono ?_; rintro e w' ⟨rfl, rfl⟩)
    go_returns
    exact ⟨by simp [wrongE, HB.out, errV], rfl⟩
theorem srWrong_ok {b c : Nat} {s : Rb} {w : World} (h : Sr b c s w) (hw : s.wrong = false) : Calls Tryz.prog 15 #[.pointer (some ⟨b, 0, none⟩)] w fun e w' => e = .returned .nilIface ∧ w = w' :=
  (srWrong_any b c s w h).mono fun _ _ ⟨he, hx⟩ => ⟨by rw [he, wrongE_ok hw, errV_0], hx⟩
theorem srWrong_bad {b c : Nat} {s : Rb} {w : World} (h : Sr b c s w) (hw : s.wrong = true) : Calls Tryz.prog 15 #[.pointer (some ⟨b, 0, none⟩)] w fun e w' => e = .returned (.iface 39 (.int .i64 (wrongE s : Nat))) ∧ w = w' :=
  (srWrong_any b c s w h).mono fun _ _ ⟨he, hx⟩ => ⟨by rw [he, errV_pos (wrongE_bad hw)], hx⟩

/-! ### Rows of the reader's own -/

/-- Each to each. -/
def Fit {α β : Type} (R : β → α → Prop) : List β → List α → Prop
  | [], [] => True
  | c :: cs, x :: xs => R c x ∧ Fit R cs xs
  | _, _ => False
theorem Fit.len {α β : Type} {R : β → α → Prop} : ∀ {cs : List β} {xs : List α}, Fit R cs xs → cs.length = xs.length
  | [], [], _ => rfl
  | _ :: _, _ :: _, h => by simp [Fit.len h.2]
theorem Fit.mono {α β : Type} {R S : β → α → Prop} (hRS : ∀ c x, R c x → S c x) : ∀ {cs : List β} {xs : List α}, Fit R cs xs → Fit S cs xs
  | [], [], _ => trivial
  | _ :: _, _ :: _, h => ⟨hRS _ _ h.1, Fit.mono hRS h.2⟩
theorem Fit.snoc {α β : Type} {R : β → α → Prop} {c : β} {x : α} (hc : R c x) : ∀ {cs : List β} {xs : List α}, Fit R cs xs → Fit R (cs ++ [c]) (xs ++ [x])
  | [], [], _ => ⟨hc, trivial⟩
  | _ :: _, _ :: _, h => ⟨h.1, Fit.snoc hc h.2⟩
theorem Fit.get {α β : Type} {R : β → α → Prop} : ∀ {cs : List β} {xs : List α} {i : Nat} {x : α}, Fit R cs xs → xs[i]? = some x → ∃ c, cs[i]? = some c ∧ R c x
  | [], [], _, _, _, h => by simp at h
  | c :: _, _ :: _, 0, _, hf, h => by simp at h; subst h; exact ⟨c, rfl, hf.1⟩
  | _ :: _, _ :: _, i + 1, _, hf, h => by
    obtain ⟨c, h1, h2⟩ := Fit.get hf.2 (by simpa using h)
    exact ⟨c, by simpa using h1, h2⟩

/-- v is a slice of the reader's own, elements of n cells of type T, that tell xs. -/
def Rowed {α : Type} (T n : Nat) (El : World → List Value → α → Prop) (base : Nat) (w : World) (v : Value) (xs : List α) : Prop :=
  ∃ css : List (List Value), w.ownsRow base T n v xs.length css.flatten ∧ (∀ cs ∈ css, cs.length = n) ∧ Fit (El w) css xs
theorem Rowed.kept {α : Type} {T n base : Nat} {El : World → List Value → α → Prop} {good : List TypeId} {w w' : World} {v : Value} {xs : List α} (h : Rowed T n El base w v xs) (k : Kept good w w') (hT : T ∈ good) (hE : ∀ cs x, El w cs x → El w' cs x) : Rowed T n El base w' v xs := by
  obtain ⟨css, h1, h2, h3⟩ := h
  exact ⟨css, owns_kept h1 k hT, h2, h3.mono hE⟩
theorem Rowed.weak {α : Type} {T n base base' : Nat} {El : World → List Value → α → Prop} {w : World} {v : Value} {xs : List α} (h : Rowed T n El base w v xs) (hb : base' ≤ base) : Rowed T n El base' w v xs := by
  obtain ⟨css, h1, h2, h3⟩ := h
  exact ⟨css, owns_weak h1 hb, h2, h3⟩
theorem Rowed.nil {α : Type} (T n : Nat) (El : World → List Value → α → Prop) (base : Nat) (w : World) : Rowed T n El base w (.slice none 0 0) [] :=
  ⟨[], ⟨by simp, .inl ⟨rfl, rfl⟩⟩, by simp, trivial⟩
theorem Rowed.shape {α : Type} {T n base : Nat} {El : World → List Value → α → Prop} {w : World} {v : Value} {xs : List α} (h : Rowed T n El base w v xs) : ∃ p cap, v = .slice p xs.length cap ∧ xs.length ≤ cap ∧ cap ≤ maxLen := by
  obtain ⟨css, h1, -, -⟩ := h
  rcases h1.2 with ⟨rfl, h0⟩ | ⟨g, cap, cur, rfl, -, -, h5, h6, -⟩
  · exact ⟨none, 0, by rw [h0], by omega, by unfold maxLen; omega⟩
  · exact ⟨_, cap, rfl, h5, h6⟩

/-- l = append(l, x): x of n cells laid in a block of its own: all but l's own block stays. -/
theorem wp_push_one {P : Program} {o : Oper} {a : Act} {w : World} {K : Act → World → Prop} {Q : Exit → Act → World → Prop} (s x : Operand) (t T : TypeId) (z : Value) (n by' : Nat)
    (ho : o.op = .call { callee := .builtin .append, args := #[s, x], argTypes := #[t, t] }) (ht : P.underlying t = some (.slice T)) (hi : (P.info? T).map (fun i => (i.zero, i.size, i.bytes)) = some (some z, n, by')) (hz : z.cells.size = n) (hn : 0 < n)
    {base m : Nat} {v : Value} {xs news : List Value} (hown : w.ownsRow base T n v m xs) (hnl : news.length = n) (h1 : ∀ u ∈ news, u.oneCell' = true) (b1 : m + 1 ≤ maxLen) (b2 : (m + 1) * by' ≤ 140737488355328) (hbase : base ≤ w.heap.size)
    (hs : a.eval s = v) {nb : Nat} (hx : a.eval x = .slice (some ⟨nb, 0, none⟩) 1 1) (hnb : nb = w.heap.size)
    (hK : ∀ (p : Option Addr) (c : Nat) w1, w1.ownsRow base T n (.slice p (m + 1) c) (m + 1) (xs ++ news) → w.grownBy w1 v.ownBlock → K (a.put o.dst (.slice p (m + 1) c)) w1) :
    o.wp P a (w.alloc (.cells news.toArray T)) K Q := by
  subst hnb
  obtain ⟨i0, hi, hz0, hz1, hz2⟩ := info_parts hi
  refine wp_append_own _ s x t ho base T i0 z n by' ht hi hz0 hz1 hz2 hz hn v m xs hs (World.ownsRow.alloc hown _) ⟨w.heap.size, 0, none⟩ 1 1 news hx (by rw [hnl]; simp) ?_ h1 b1 b2 (by simp; omega) ?_
  · intro j u hj
    rw [add_add, Nat.zero_add]
    have hb : (w.alloc (.cells news.toArray T)).heap[w.heap.size]? = some (.cells news.toArray T (0, 0)) := heap_alloc_new w _
    rw [cell_of_row _ _ j _ T (0, 0) hb]
    simpa using hj
  · intro v' w1 ho' hg _
    obtain ⟨p, c, rfl⟩ : ∃ p c, v' = .slice p (m + 1) c := by
      rcases ho'.2 with ⟨rfl, h0⟩ | ⟨g, cap, cur, rfl, _⟩
      · omega
      · exact ⟨_, _, rfl⟩
    have he := Ext.alloc (Ext.refl w) (.cells news.toArray T)
    refine hK p c w1 ho' ⟨hg.os.trans he.below.os, hg.tape.trans he.below.tape, hg.output.trans he.below.output, Nat.le_trans he.size hg.size, fun k hk hne => ?_⟩
    exact (hg.block k (Nat.lt_of_lt_of_le hk he.size) hne).trans (he.below.block k hk)
theorem grown_far {w w1 : World} {v : Value} (hg : w.grownBy w1 v.ownBlock) : ∀ b o, w.heap[b]? = some o → some b ≠ v.ownBlock → w1.heap[b]? = some o := fun b o hb hne => by
  rw [hg.block b (lt_of_block hb) hne]; exact hb
/-- The same, of a row that tells xs: now it tells one more. -/
theorem wpList_push_row {P : Program} {ops : Array Oper} {rest : List Oper} {o : Oper} {a : Act} {w : World} {Q : Exit → Act → World → Prop} (hgd : o.guard = none) (s x : Operand) (t T : TypeId) (z : Value) (n by' : Nat)
    (ho : o.op = .call { callee := .builtin .append, args := #[s, x], argTypes := #[t, t] }) (ht : P.underlying t = some (.slice T)) (hi : (P.info? T).map (fun i => (i.zero, i.size, i.bytes)) = some (some z, n, by')) (hz : z.cells.size = n) (hn : 0 < n)
    {α : Type} {El : World → List Value → α → Prop} (good : List TypeId) {b c : Nat} {st : Rb} {base : Nat} {W0 : World} {v : Value} {xs : List α} (y : α) {news : List Value}
    (hrow : Rowed T n El base w v xs) (hnl : news.length = n) (h1 : ∀ u ∈ news, u.oneCell' = true) (b1 : xs.length ≤ 40000) (b2 : by' ≤ 1000) (hS : Sr b c st w) (hT : T ≠ 53 ∧ T ≠ 83) (hTw : Two b c W0 w) (hW0 : W0.heap.size = base) (hTg : T ∉ good)
    (hy : El w news y) (hE : ∀ w1, Kept good w w1 → ∀ cs x, El w cs x → El w1 cs x)
    (hs : a.eval s = v) {nb : Nat} (hx : a.eval x = .slice (some ⟨nb, 0, none⟩) 1 1) (hnb : nb = w.heap.size)
    (hK : ∀ (p : Option Addr) (cap : Nat) w1, Rowed T n El base w1 (.slice p (xs.length + 1) cap) (xs ++ [y]) → Sr b c st w1 → Two b c W0 w1 → wpList P ops Q rest (a.put o.dst (.slice p (xs.length + 1) cap)) w1) :
    wpList P ops Q (o :: rest) a (w.alloc (.cells news.toArray T)) := by
  obtain ⟨css, r1, r2, r3⟩ := hrow
  refine wpList_plain hgd fun _ hK' => wp_push_one s x t T z n by' ho ht hi hz hn r1 hnl h1 (by unfold maxLen; omega) ?_ (by have := hTw.size; omega) hs hx hnb fun p cap w1 g1 hg => hK' _ _ (hK p cap w1 ?_ (hS.push r1 hT (grown_far hg)) ?_)
  · refine Nat.le_trans (Nat.mul_le_mul_left _ b2) ?_
    omega
  · have hk : Kept good w w1 := kept_push r1 hTg (grown_far hg)
    refine ⟨css ++ [news], ?_, ?_, (r3.mono (hE w1 hk)).snoc (hE w1 hk _ _ hy)⟩
    · rw [List.flatten_append, List.length_append]; simpa using g1
    · intro cs hcs
      rcases List.mem_append.1 hcs with h | h
      · exact r2 cs h
      · rw [List.mem_singleton.1 h]; exact hnl
  · refine ⟨hg.os.trans hTw.os, hg.tape.trans hTw.tape, hg.output.trans hTw.output, Nat.le_trans hTw.size hg.size, fun i hi e1 e2 => ?_⟩
    rw [hg.block i (Nat.lt_of_lt_of_le hi hTw.size) (fun e => by have := (r1.lt i e.symm).1; omega)]
    exact hTw.block i hi e1 e2
end Go.Proofs.YtmpgeabfogcblaaGreat

namespace Go.Proofs.YtmpgeabfogcblaaGreat
open Go.RowKit

def lenOf : Value → Nat
  | .slice _ l _ => l
  | _ => 0
theorem manyP_wrong {α : Type} (f : Rb → α × Rb) {s : Rb} (h : s.wrong = true) : ∀ n, manyP f n s = ([], s)
  | 0 => rfl
  | n + 1 => by rw [manyP, if_neg (by simp [h])]
theorem manyP_right {α : Type} {f : Rb → α × Rb} {n : Nat} {s : Rb} (h : (manyP f n s).2.wrong = false) : s.wrong = false := by
  cases hs : s.wrong
  · rfl
  · rw [manyP_wrong f hs] at h
    rw [hs] at h; cases h
/-- At the label: k elements taken. -/
def ManyJ {α : Type} (T n : Nat) (El : World → List Value → α → Prop) (b c : Nat) (f : Rb → α × Rb) (s : Rb) (cnt : Int) (one : Value) (w : World) (a' : Act) (w' : World) : Prop :=
  ∃ (k : Nat) (p : Option Addr) (cap : Nat) (u3 u4 u5 u8 u9 u10 u11 u12 u13 u14 u15 u16 u17 u18 u19 u20 u21 u22 : Value), a' = { tmps := #[.pointer (some ⟨b, 0, none⟩), .int .i64 cnt, one, u3, u4, u5, .slice none 0 0, .slice p k cap, u8, u9, u10, u11, u12, u13, u14, u15, u16, u17, u18, u19, u20, u21, u22], defers := [] } ∧
    Two b c w w' ∧ Sr b c (manyP f k s).2 w' ∧ Rowed T n El w.heap.size w' (.slice p k cap) (manyP f k s).1 ∧ (manyP f k s).1.length = k ∧ k ≤ cnt.toNat
/-- What a row that is read comes to. -/
def ReadsRow {α : Type} (T n : Nat) (El : World → List Value → α → Prop) (b c : Nat) (q : List α × Rb) (w : World) (e : Ending) (w' : World) : Prop :=
  ∃ v, e = .returned v ∧ Rowed T n El w.heap.size w' v q.1 ∧ Sr b c q.2 w' ∧ Two b c w w'

/-- An element that is a number. -/
def ElI (_ : World) (cs : List Value) (x : Int) : Prop := cs = [.int .i64 x] ∧ -1 ≤ x ∧ x ≤ 1048576
theorem scan_low {most : Int} : ∀ (i n : Nat) (l : List UInt8), -1 ≤ (scan most i n l).2.1
  | i, n, [] => by simp [scan]
  | i, n, c :: t => by
    simp only [scan]
    split
    · simp
    · split
      · split
        · simp
        · simp only; omega
      · exact scan_low (i + 1) _ t
theorem numP_in (s : Rb) : -1 ≤ (numP s).1 ∧ (numP s).1 ≤ 1048576 := by
  refine ⟨?_, num_most _ (by omega)⟩
  show -1 ≤ s.r.num 1048576
  unfold Rd.num
  split
  · exact scan_low 0 0 _
  · omega
theorem infoI : (Tryz.prog.info? 3).map (fun i => (i.zero, i.size, i.bytes)) = some (some (.int .i64 0), 1, 8) := by kernel_rfl

theorem ElI.kept {w w' : World} (_ : Kept [] w w') (cs : List Value) (x : Int) (h : ElI w cs x) : ElI w' cs x := h
set_option maxRecDepth 100000 in
set_option maxHeartbeats 4000000 in
theorem manyI_any (b c) (s : Rb) (cnt : Int) (w : World) (h : Sr b c s w) (h0 : s.wrong = false → 0 ≤ cnt) (hc : cnt ≤ 40000) :
    Calls Tryz.prog 76 #[.pointer (some ⟨b, 0, none⟩), .int .i64 cnt, .func (.func 40) #[.pointer (some ⟨b, 0, none⟩)] #[]] w
      (ReadsRow 3 1 ElI b c (manyP numP cnt.toNat s) w) := by
  have HS0 := hid h
  have H0 := hid h0
  clear h h0
  have hne := fun v w => run_neq_iface_nil (P := Tryz.prog) w 39 v Tryz.underlying32
  have hnn := fun w => run_neq_nil_nil' (P := Tryz.prog) w Tryz.underlying32
  go_enter Tryz.func76, Tryz.ntmps76
  go_wp2
  refine wp_goto 0 (ManyJ 3 1 ElI b c numP s cnt (.func (.func 40) #[.pointer (some ⟨b, 0, none⟩)] #[]) w) (fun a' _ => cnt.toNat - lenOf (a'.tmps.getD 7 undef)) rfl ?_ ?_
  · refine fun a' w' => ex_elim fun k => ex_elim fun p => ex_elim fun cap => ex_elim fun u3 => ex_elim fun u4 => ex_elim fun u5 => ex_elim fun u8 => ex_elim fun u9 => ex_elim fun u10 => ex_elim fun u11 => ex_elim fun u12 => ex_elim fun u13 => ex_elim fun u14 => ex_elim fun u15 => ex_elim fun u16 => ex_elim fun u17 => ex_elim fun u18 => ex_elim fun u19 => ex_elim fun u20 => ex_elim fun u21 => ex_elim fun u22 => ?_
    rintro ⟨rfl, hT, hS, hR, hlen, hk⟩
    have HT := hid hT
    have HS := hid hS
    have HR := hid hR
    have HL := hid hlen
    clear hT hS hR hlen
    cases hw : (manyP numP k s).2.wrong
    case true =>
      have HW := hid hw
      have HE := hid (manyP_stays numP k s hw cnt.toNat hk)
      clear hw
      go_wp2_with (go_at_call 15; refine (srWrong_bad HS.out HW.out).mono ?_; rintro e w1 ⟨rfl, rfl⟩)
      simp only [Exit.jump]
      go_returns
      rw [HE.out]
      exact ⟨_, rfl, HR.out, HS.out, HT.out⟩
    have HW := hid hw
    clear hw
    have hc0 : 0 ≤ cnt := H0.out (manyP_right HW.out)
    by_cases hkc : (k : Int) = cnt
    · have l1 : ((k : Int) == cnt) = true := by simp [hkc]
      have HK : Hid (cnt.toNat = k) := by unfold Hid; omega
      clear hkc
      go_wp2_with (go_at_call 15; refine (srWrong_ok HS.out HW.out).mono ?_; rintro e w1 ⟨rfl, rfl⟩)
      simp only [Exit.jump]
      go_returns
      rw [HK.out]
      exact ⟨_, rfl, HR.out, HS.out, HT.out⟩
    · have l1 : ((k : Int) == cnt) = false := by simp [hkc]
      have hk1 : k + 1 ≤ cnt.toNat := by omega
      have HK1 : Hid (k + 1 ≤ cnt.toNat) := hk1
      have HC := hid hc
      have HQ := hid (manyP_snoc numP k s HW.out)
      clear hkc hk1 hc hc0 hk
      go_wp2_with (first
        | (go_at_call 15; refine (srWrong_ok HS.out HW.out).mono ?_; rintro e w1 ⟨rfl, rfl⟩)
        | (go_at_call 40; refine (srNum_any _ _ _ _ HS.out).mono ?_; rintro e w1 ⟨rfl, hs1, ht1⟩; have HS1 := hid hs1; have HT1 := hid ht1; have HKp := hid (HS.out.kept (good := [3]) ht1 (by decide)); clear hs1 ht1)
        | (at_builtin; refine wpList_push_row rfl (.tmp 18) (.tmp 21) 89 3 (.int .i64 0) 1 8 rfl Tryz.underlying89 infoI rfl (by decide) [] (numP (manyP numP k s).2).1 (HR.out.kept HKp.out (by simp) (ElI.kept (HKp.out.sub (by simp)))) rfl (by intro u hu; simp only [List.mem_cons, List.not_mem_nil, or_false] at hu; subst hu; rfl) (by have := HL.out; have := HK1.out; have := HC.out; omega) (by decide) HS1.out (by decide) (HT.out.trans HT1.out) rfl (by decide) ⟨rfl, numP_in _⟩ (fun _ hk => ElI.kept hk) rfl rfl rfl ?_; intro p1 cap1 w2 hr2 hs2 ht2))
      go_step3
      rename_i Qz
      simp only [Qz, Exit.jump]
      rw [HL.out] at hr2
      rw [HL.out]
      refine ⟨trivial, ⟨k + 1, p1, cap1, _, _, _, _, _, _, _, _, _, _, _, _, _, _, _, _, _, _, rfl, ht2, by rw [HQ.out]; exact hs2, by rw [HQ.out]; exact hr2, by rw [HQ.out, List.length_append, HL.out]; rfl, HK1.out⟩, ?_⟩
      have := HK1.out
      simp [lenOf]
      omega
  · intro start
    have Start := hid start
    clear start
    go_wp2
    go_step3
    simp only [Exit.then]
    refine ‹∀ (a : Act) (w : World), Code.wp _ _ _ a w → _› _ _ ?_
    exact Start.out _ _ ⟨0, none, 0, _, _, _, _, _, _, _, _, _, _, _, _, _, _, _, _, _, _, rfl, Two.refl _ _ _, HS0.out, Rowed.nil _ _ _ _ _, rfl, Nat.zero_le _⟩

theorem cntP_le (s : Rb) : (cntP s).1 ≤ 40000 := num_most _ (by omega)

set_option maxHeartbeats 1000000 in
theorem nums_any (b c : Nat) (s : Rb) (w : World) (h : Sr b c s w) : Calls Tryz.prog 97 #[.pointer (some ⟨b, 0, none⟩)] w (ReadsRow 3 1 ElI b c (rowP numP s) w) := by
  have H := hid h
  clear h
  go_enter Tryz.func97, Tryz.ntmps97
  go_wp2_with (go_at_call 73; refine (srCount_any _ _ _ _ H.out).mono ?_; rintro e w1 ⟨rfl, hs1, ht1⟩; have HS1 := hid hs1; have HT1 := hid ht1; clear hs1 ht1)
  refine (manyI_any b c (cntP s).2 (cntP s).1 _ HS1.out cnt_nonneg (cntP_le s)).mono ?_
  rintro e w2 ⟨v, rfl, hr, hs, ht⟩
  go_wp2_with fail
  go_returns
  exact ⟨v, rfl, hr.weak HT1.out.size, hs, HT1.out.trans ht⟩
end Go.Proofs.YtmpgeabfogcblaaGreat

namespace Go.Proofs.YtmpgeabfogcblaaGreat
open Go.RowKit

/-- An element that is a row of numbers. -/
def ElR (w : World) (cs : List Value) (l : List Int) : Prop := ∃ v, cs = [v] ∧ Rowed 3 1 ElI 0 w v l
theorem ElR.kept {w w' : World} (k : Kept [3] w w') (cs : List Value) (l : List Int) (h : ElR w cs l) : ElR w' cs l := by
  obtain ⟨v, e, hr⟩ := h
  exact ⟨v, e, hr.kept k (by simp) fun _ _ h => h⟩
theorem infoR : (Tryz.prog.info? 89).map (fun i => (i.zero, i.size, i.bytes)) = some (some (.slice none 0 0), 1, 24) := by kernel_rfl

set_option maxRecDepth 100000 in
set_option maxHeartbeats 4000000 in
theorem manyR_any (b c : Nat) (s : Rb) (cnt : Int) (w : World) (h : Sr b c s w) (h0 : s.wrong = false → 0 ≤ cnt) (hc : cnt ≤ 40000) :
    Calls Tryz.prog 74 #[.pointer (some ⟨b, 0, none⟩), .int .i64 cnt, .func (.func 97) #[.pointer (some ⟨b, 0, none⟩)] #[]] w
      (ReadsRow 89 1 ElR b c (manyP (rowP numP) cnt.toNat s) w) := by
  have HS0 := hid h
  have H0 := hid h0
  clear h h0
  have hne := fun v w => run_neq_iface_nil (P := Tryz.prog) w 39 v Tryz.underlying32
  have hnn := fun w => run_neq_nil_nil' (P := Tryz.prog) w Tryz.underlying32
  go_enter Tryz.func74, Tryz.ntmps74
  go_wp2
  refine wp_goto 0 (ManyJ 89 1 ElR b c (rowP numP) s cnt (.func (.func 97) #[.pointer (some ⟨b, 0, none⟩)] #[]) w) (fun a' _ => cnt.toNat - lenOf (a'.tmps.getD 7 undef)) rfl ?_ ?_
  · refine fun a' w' => ex_elim fun k => ex_elim fun p => ex_elim fun cap => ex_elim fun u3 => ex_elim fun u4 => ex_elim fun u5 => ex_elim fun u8 => ex_elim fun u9 => ex_elim fun u10 => ex_elim fun u11 => ex_elim fun u12 => ex_elim fun u13 => ex_elim fun u14 => ex_elim fun u15 => ex_elim fun u16 => ex_elim fun u17 => ex_elim fun u18 => ex_elim fun u19 => ex_elim fun u20 => ex_elim fun u21 => ex_elim fun u22 => ?_
    rintro ⟨rfl, hT, hS, hR, hlen, hk⟩
    have HT := hid hT
    have HS := hid hS
    have HR := hid hR
    have HL := hid hlen
    clear hT hS hR hlen
    cases hw : (manyP (rowP numP) k s).2.wrong
    case true =>
      have HW := hid hw
      have HE := hid (manyP_stays (rowP numP) k s hw cnt.toNat hk)
      clear hw
      go_wp2_with (go_at_call 15; refine (srWrong_bad HS.out HW.out).mono ?_; rintro e w1 ⟨rfl, rfl⟩)
      simp only [Exit.jump]
      go_returns
      rw [HE.out]
      exact ⟨_, rfl, HR.out, HS.out, HT.out⟩
    have HW := hid hw
    clear hw
    have hc0 : 0 ≤ cnt := H0.out (manyP_right HW.out)
    by_cases hkc : (k : Int) = cnt
    · have l1 : ((k : Int) == cnt) = true := by simp [hkc]
      have HK : Hid (cnt.toNat = k) := by unfold Hid; omega
      clear hkc
      go_wp2_with (go_at_call 15; refine (srWrong_ok HS.out HW.out).mono ?_; rintro e w1 ⟨rfl, rfl⟩)
      simp only [Exit.jump]
      go_returns
      rw [HK.out]
      exact ⟨_, rfl, HR.out, HS.out, HT.out⟩
    · have l1 : ((k : Int) == cnt) = false := by simp [hkc]
      have hk1 : k + 1 ≤ cnt.toNat := by omega
      have HK1 : Hid (k + 1 ≤ cnt.toNat) := hk1
      have HC := hid hc
      have HQ := hid (manyP_snoc (rowP numP) k s HW.out)
      clear hkc hk1 hc hc0 hk
      go_wp2_with (first
        | (go_at_call 15; refine (srWrong_ok HS.out HW.out).mono ?_; rintro e w1 ⟨rfl, rfl⟩)
        | (go_at_call 97; refine (nums_any _ _ _ _ HS.out).mono ?_; rintro e w1 ⟨v1, rfl, hr1, hs1, ht1⟩; obtain ⟨q1, c1, rfl, -, -⟩ := hr1.shape; have HR1 := hid (hr1.weak (Nat.zero_le _)); clear hr1; have HS1 := hid hs1; have HT1 := hid ht1; have HKp := hid (HS.out.kept (good := [89, 3]) ht1 (by decide)); clear hs1 ht1)
        | (at_builtin; refine wpList_push_row rfl (.tmp 18) (.tmp 21) 23 89 (.slice none 0 0) 1 24 rfl Tryz.underlying23 infoR rfl (by decide) [3] ((rowP numP) (manyP (rowP numP) k s).2).1 (HR.out.kept HKp.out (by simp) (ElR.kept (HKp.out.sub (by simp)))) rfl (by intro u hu; simp only [List.mem_cons, List.not_mem_nil, or_false] at hu; subst hu; rfl) (by have := HL.out; have := HK1.out; have := HC.out; omega) (by decide) HS1.out (by decide) (HT.out.trans HT1.out) rfl (by decide) ⟨_, rfl, HR1.out⟩ (fun _ hk => ElR.kept hk) rfl rfl rfl ?_; intro p1 cap1 w2 hr2 hs2 ht2))
      go_step3
      rename_i Qz
      simp only [Qz, Exit.jump]
      rw [HL.out] at hr2
      rw [HL.out]
      refine ⟨trivial, ⟨k + 1, p1, cap1, _, _, _, _, _, _, _, _, _, _, _, _, _, _, _, _, _, _, rfl, ht2, by rw [HQ.out]; exact hs2, by rw [HQ.out]; exact hr2, by rw [HQ.out, List.length_append, HL.out]; rfl, HK1.out⟩, ?_⟩
      have := HK1.out
      simp [lenOf]
      omega
  · intro start
    have Start := hid start
    clear start
    go_wp2
    go_step3
    simp only [Exit.then]
    refine ‹∀ (a : Act) (w : World), Code.wp _ _ _ a w → _› _ _ ?_
    exact Start.out _ _ ⟨0, none, 0, _, _, _, _, _, _, _, _, _, _, _, _, _, _, _, _, _, _, rfl, Two.refl _ _ _, HS0.out, Rowed.nil _ _ _ _ _, rfl, Nat.zero_le _⟩

set_option maxHeartbeats 1000000 in
/-- The closure that reads a plan: the reader and the number of domains lie in variables of their own. -/
theorem conf1_any (b c B1 B2 : Nat) (n : Int) (s : Rb) (w : World) (h : Sr b c s w) (h1 : w.cell? ⟨B1, 0, none⟩ = some (.pointer (some ⟨b, 0, none⟩))) (h2 : w.cell? ⟨B2, 0, none⟩ = some (.int .i64 n)) (h0 : s.wrong = false → 0 ≤ n) (hn : n ≤ 40000) :
    Calls Tryz.prog 75 #[.pointer (some ⟨B1, 0, none⟩), .pointer (some ⟨B2, 0, none⟩)] w (ReadsRow 3 1 ElI b c (manyP numP n.toNat s) w) := by
  have H := hid h
  have H0 := hid h0
  clear h h0
  go_enter Tryz.func75, Tryz.ntmps75
  go_wp2_with fail
  refine (manyI_any b c s n _ H.out H0.out hn).mono ?_
  rintro e w2 ⟨v, rfl, hr, hs, ht⟩
  go_wp2_with fail
  go_returns
  exact ⟨v, rfl, hr, hs, ht⟩
set_option maxRecDepth 100000 in
set_option maxHeartbeats 4000000 in
theorem manyQ_any (b c B1 B2 : Nat) (n : Int) (s : Rb) (cnt : Int) (w : World) (h : Sr b c s w) (hb1 : w.cell? ⟨B1, 0, none⟩ = some (.pointer (some ⟨b, 0, none⟩))) (hb2 : w.cell? ⟨B2, 0, none⟩ = some (.int .i64 n)) (hne1 : B1 ≠ b ∧ B1 ≠ c) (hne2 : B2 ≠ b ∧ B2 ≠ c) (hn0 : s.wrong = false → 0 ≤ n) (hn : n ≤ 40000) (h0 : s.wrong = false → 0 ≤ cnt) (hc : cnt ≤ 40000) :
    Calls Tryz.prog 74 #[.pointer (some ⟨b, 0, none⟩), .int .i64 cnt, .func (.func 75) #[] #[.pointer (some ⟨B1, 0, none⟩), .pointer (some ⟨B2, 0, none⟩)]] w
      (ReadsRow 89 1 ElR b c (manyP (manyP numP n.toNat) cnt.toNat s) w) := by
  have HS0 := hid h
  have H0 := hid h0
  clear h h0
  have HB1 := hid hb1
  have HB2 := hid hb2
  have HN1 := hid hne1
  have HN2 := hid hne2
  have HN0 := hid hn0
  have HNN := hid hn
  clear hb1 hb2 hne1 hne2 hn0 hn
  have hne := fun v w => run_neq_iface_nil (P := Tryz.prog) w 39 v Tryz.underlying32
  have hnn := fun w => run_neq_nil_nil' (P := Tryz.prog) w Tryz.underlying32
  go_enter Tryz.func74, Tryz.ntmps74
  go_wp2
  refine wp_goto 0 (ManyJ 89 1 ElR b c (manyP numP n.toNat) s cnt (.func (.func 75) #[] #[.pointer (some ⟨B1, 0, none⟩), .pointer (some ⟨B2, 0, none⟩)]) w) (fun a' _ => cnt.toNat - lenOf (a'.tmps.getD 7 undef)) rfl ?_ ?_
  · refine fun a' w' => ex_elim fun k => ex_elim fun p => ex_elim fun cap => ex_elim fun u3 => ex_elim fun u4 => ex_elim fun u5 => ex_elim fun u8 => ex_elim fun u9 => ex_elim fun u10 => ex_elim fun u11 => ex_elim fun u12 => ex_elim fun u13 => ex_elim fun u14 => ex_elim fun u15 => ex_elim fun u16 => ex_elim fun u17 => ex_elim fun u18 => ex_elim fun u19 => ex_elim fun u20 => ex_elim fun u21 => ex_elim fun u22 => ?_
    rintro ⟨rfl, hT, hS, hR, hlen, hk⟩
    have HT := hid hT
    have HS := hid hS
    have HR := hid hR
    have HL := hid hlen
    clear hT hS hR hlen
    cases hw : (manyP (manyP numP n.toNat) k s).2.wrong
    case true =>
      have HW := hid hw
      have HE := hid (manyP_stays (manyP numP n.toNat) k s hw cnt.toNat hk)
      clear hw
      go_wp2_with (go_at_call 15; refine (srWrong_bad HS.out HW.out).mono ?_; rintro e w1 ⟨rfl, rfl⟩)
      simp only [Exit.jump]
      go_returns
      rw [HE.out]
      exact ⟨_, rfl, HR.out, HS.out, HT.out⟩
    have HW := hid hw
    clear hw
    have hc0 : 0 ≤ cnt := H0.out (manyP_right HW.out)
    by_cases hkc : (k : Int) = cnt
    · have l1 : ((k : Int) == cnt) = true := by simp [hkc]
      have HK : Hid (cnt.toNat = k) := by unfold Hid; omega
      clear hkc
      go_wp2_with (go_at_call 15; refine (srWrong_ok HS.out HW.out).mono ?_; rintro e w1 ⟨rfl, rfl⟩)
      simp only [Exit.jump]
      go_returns
      rw [HK.out]
      exact ⟨_, rfl, HR.out, HS.out, HT.out⟩
    · have l1 : ((k : Int) == cnt) = false := by simp [hkc]
      have hk1 : k + 1 ≤ cnt.toNat := by omega
      have HK1 : Hid (k + 1 ≤ cnt.toNat) := hk1
      have HC := hid hc
      have HQ := hid (manyP_snoc (manyP numP n.toNat) k s HW.out)
      clear hkc hk1 hc hc0 hk
      go_wp2_with (first
        | (go_at_call 15; refine (srWrong_ok HS.out HW.out).mono ?_; rintro e w1 ⟨rfl, rfl⟩)
        | (go_at_call 75; refine (conf1_any b c B1 B2 n _ _ HS.out (HT.out.cell HB1.out HN1.out.1 HN1.out.2) (HT.out.cell HB2.out HN2.out.1 HN2.out.2) (fun _ => HN0.out (manyP_right HW.out)) HNN.out).mono ?_; rintro e w1 ⟨v1, rfl, hr1, hs1, ht1⟩; obtain ⟨q1, c1, rfl, -, -⟩ := hr1.shape; have HR1 := hid (hr1.weak (Nat.zero_le _)); clear hr1; have HS1 := hid hs1; have HT1 := hid ht1; have HKp := hid (HS.out.kept (good := [89, 3]) ht1 (by decide)); clear hs1 ht1)
        | (at_builtin; refine wpList_push_row rfl (.tmp 18) (.tmp 21) 23 89 (.slice none 0 0) 1 24 rfl Tryz.underlying23 infoR rfl (by decide) [3] ((manyP numP n.toNat) (manyP (manyP numP n.toNat) k s).2).1 (HR.out.kept HKp.out (by simp) (ElR.kept (HKp.out.sub (by simp)))) rfl (by intro u hu; simp only [List.mem_cons, List.not_mem_nil, or_false] at hu; subst hu; rfl) (by have := HL.out; have := HK1.out; have := HC.out; omega) (by decide) HS1.out (by decide) (HT.out.trans HT1.out) rfl (by decide) ⟨_, rfl, HR1.out⟩ (fun _ hk => ElR.kept hk) rfl rfl rfl ?_; intro p1 cap1 w2 hr2 hs2 ht2))
      go_step3
      rename_i Qz
      simp only [Qz, Exit.jump]
      rw [HL.out] at hr2
      rw [HL.out]
      refine ⟨trivial, ⟨k + 1, p1, cap1, _, _, _, _, _, _, _, _, _, _, _, _, _, _, _, _, _, _, rfl, ht2, by rw [HQ.out]; exact hs2, by rw [HQ.out]; exact hr2, by rw [HQ.out, List.length_append, HL.out]; rfl, HK1.out⟩, ?_⟩
      have := HK1.out
      simp [lenOf]
      omega
  · intro start
    have Start := hid start
    clear start
    go_wp2
    go_step3
    simp only [Exit.then]
    refine ‹∀ (a : Act) (w : World), Code.wp _ _ _ a w → _› _ _ ?_
    exact Start.out _ _ ⟨0, none, 0, _, _, _, _, _, _, _, _, _, _, _, _, _, _, _, _, _, _, rfl, Two.refl _ _ _, HS0.out, Rowed.nil _ _ _ _ _, rfl, Nat.zero_le _⟩
end Go.Proofs.YtmpgeabfogcblaaGreat

namespace Go.Proofs.YtmpgeabfogcblaaGreat
open Go.RowKit
set_option linter.unusedSimpArgs false

theorem Only.kept {n : Nat} {good : List TypeId} {w w' : World} {cs : Array Value} {T : TypeId} (h : Only n w w') (hn : w.heap[n]? = some (.cells cs T (0, 0))) (hT : T ∉ good) : Kept good w w' := fun i cs' T' hi hT' => by
  refine h.blk hi fun e => hT ?_
  subst e
  rw [hi] at hn
  simp at hn
  rw [← hn.2]; exact hT'
theorem Sr.only {b c n : Nat} {s : Rb} {w w' : World} (h : Sr b c s w) (k : Only n w w') (h1 : n ≠ b) (h2 : n ≠ c) : Sr b c s w' := ⟨k.blk h.blk h1.symm, h.rd.only k h2.symm, h.len⟩
theorem Two.only {b c n : Nat} {x y z : World} (h : Two b c x y) (k : Only n y z) (hn : x.heap.size ≤ n) : Two b c x z :=
  ⟨k.os.trans h.os, k.tape.trans h.tape, k.output.trans h.output, Nat.le_trans h.size k.size, fun i hi h1 h2 => (k.block i (Nat.lt_of_lt_of_le hi h.size) (by simp; omega)).trans (h.block i hi h1 h2)⟩
theorem sets10 {w : World} {n : Nat} {T : TypeId} {z0 z1 z2 z3 z4 z5 z6 z7 z8 z9 : Value} (h : w.heap[n]? = some (.cells #[z0, z1, z2, z3, z4, z5, z6, z7, z8, z9] T (0, 0))) (a0 a1 a2 a3 a4 a5 a6 a7 a8 a9 : Value) :
    ((((((((((w.setCell ⟨n, 0, none⟩ a0).setCell ⟨n, 1, none⟩ a1).setCell ⟨n, 2, none⟩ a2).setCell ⟨n, 3, none⟩ a3).setCell ⟨n, 4, none⟩ a4).setCell ⟨n, 5, none⟩ a5).setCell ⟨n, 6, none⟩ a6).setCell ⟨n, 7, none⟩ a7).setCell ⟨n, 8, none⟩ a8).setCell ⟨n, 9, none⟩ a9).heap[n]? = some (.cells #[a0, a1, a2, a3, a4, a5, a6, a7, a8, a9] T (0, 0)) := by
  have := blk_set (blk_set (blk_set (blk_set (blk_set (blk_set (blk_set (blk_set (blk_set (blk_set h 0 a0) 1 a1) 2 a2) 3 a3) 4 a4) 5 a5) 6 a6) 7 a7) 8 a8) 9 a9
  simpa using this
theorem srBits_any (b c : Nat) (s : Rb) (w : World) (h : Sr b c s w) : Calls Tryz.prog 96 #[.pointer (some ⟨c, 0, none⟩)] w (Reads b c (.int .u64 s.r.bits) ⟨s.r.afterBits, s.b⟩ w) :=
  (rbits_any c s.r w h.rd (by have := h.len; omega)).mono fun _ _ ⟨he, hr, ho⟩ => ⟨he, ⟨ho.blk h.blk h.ne, hr, by have := h.len; have := Rd.afterBits_len s.r; show s.r.afterBits.s.length ≤ 40000; omega⟩, Two.of_only ho⟩
/-- A count of rows of numbers, then these. -/
theorem rowsR_any (b c : Nat) (s : Rb) (w : World) (h : Sr b c (cntP s).2 w) : Calls Tryz.prog 74 #[.pointer (some ⟨b, 0, none⟩), .int .i64 (cntP s).1, .func (.func 97) #[.pointer (some ⟨b, 0, none⟩)] #[]] w
    (ReadsRow 89 1 ElR b c (rowP (rowP numP) s) w) := manyR_any b c (cntP s).2 (cntP s).1 w h cnt_nonneg (cntP_le s)
theorem srNum_to {b c : Nat} {s s' : Rb} {x : Int} (e : numP s = (x, s')) {w : World} (h : Sr b c s w) : Calls Tryz.prog 40 #[.pointer (some ⟨b, 0, none⟩)] w (Reads b c (.int .i64 x) s' w) := by
  have := srNum_any b c s w h
  rwa [e] at this
theorem srBits_to {b c : Nat} {s s' : Rb} {x : Int} (e : s.r.bits = x) (e' : (⟨s.r.afterBits, s.b⟩ : Rb) = s') {w : World} (h : Sr b c s w) : Calls Tryz.prog 96 #[.pointer (some ⟨c, 0, none⟩)] w (Reads b c (.int .u64 x) s' w) := by
  have := srBits_any b c s w h
  rwa [e, e'] at this
theorem rowsR_to {b c : Nat} {s s' : Rb} {x : List (List Int)} (e : rowP (rowP numP) s = (x, s')) {w : World} (h : Sr b c (cntP s).2 w) : Calls Tryz.prog 74 #[.pointer (some ⟨b, 0, none⟩), .int .i64 (cntP s).1, .func (.func 97) #[.pointer (some ⟨b, 0, none⟩)] #[]] w
    (ReadsRow 89 1 ElR b c (x, s') w) := e ▸ rowsR_any b c s w h
theorem nums_to {b c : Nat} {s s' : Rb} {x : List Int} (e : rowP numP s = (x, s')) {w : World} (h : Sr b c s w) : Calls Tryz.prog 97 #[.pointer (some ⟨b, 0, none⟩)] w (ReadsRow 3 1 ElI b c (x, s') w) := e ▸ nums_any b c s w h
theorem domP_of {s s1 s2 s3 s4 s5 s6 s7 s8 s9 s10 : Rb} {x1 x2 x4 x6 x7 x8 x9 x10 : Int} {x3 : List (List Int)} {x5 : List Int} (e1 : numP s = (x1, s1)) (e2 : s1.r.bits = x2) (e2' : (⟨s1.r.afterBits, s1.b⟩ : Rb) = s2) (e3 : rowP (rowP numP) s2 = (x3, s3)) (e4 : numP s3 = (x4, s4)) (e5 : rowP numP s4 = (x5, s5))
    (e6 : numP s5 = (x6, s6)) (e7 : numP s6 = (x7, s7)) (e8 : numP s7 = (x8, s8)) (e9 : numP s8 = (x9, s9)) (e10 : numP s9 = (x10, s10)) : domP s = (⟨x1, x2, x3, x5, x4, x6, x7, x8, x9, x10⟩, s10) := by
  subst e2 e2'
  simp only [domP, e1, e3, e4, e5, e6, e7, e8, e9, e10]
/-- What a domain that is read comes to. -/
def DomCells (d : Dom) (vr ve : Value) : List Value := [.int .i64 d.level, .int .u64 d.cats, vr, ve, .int .i64 d.to, .int .i64 d.threads, .int .i64 d.groups, .int .i64 d.ring, .int .i64 d.sends, .int .i64 d.box]
def ElD (w : World) (cs : List Value) (d : Dom) : Prop := ∃ vr ve, cs = DomCells d vr ve ∧ Rowed 89 1 ElR 0 w vr d.routes ∧ Rowed 3 1 ElI 0 w ve d.release ∧ U64 d.cats
theorem ElD.kept {w w' : World} (k : Kept [89, 3] w w') (cs : List Value) (d : Dom) (h : ElD w cs d) : ElD w' cs d := by
  obtain ⟨vr, ve, e, h1, h2, h3⟩ := h
  exact ⟨vr, ve, e, h1.kept k (by simp) (ElR.kept (k.sub (by simp))), h2.kept k (by simp) (fun _ _ h => h), h3⟩
def ReadsDom (b c : Nat) (q : Dom × Rb) (w : World) (e : Ending) (w' : World) : Prop := ∃ pr cr pe ce, e = .returned (.agg (DomCells q.1 (.slice pr q.1.routes.length cr) (.slice pe q.1.release.length ce)).toArray) ∧
  ElD w' (DomCells q.1 (.slice pr q.1.routes.length cr) (.slice pe q.1.release.length ce)) q.1 ∧ Sr b c q.2 w' ∧ Two b c w w'

set_option maxRecDepth 100000 in
set_option maxHeartbeats 4000000 in
theorem domain_any (b c : Nat) (s : Rb) (w : World) (h : Sr b c s w) : Calls Tryz.prog 78 #[.pointer (some ⟨b, 0, none⟩)] w (ReadsDom b c (domP s) w) := by
  have H := hid h
  clear h
  obtain ⟨x1, s1, e1⟩ : ∃ x t, numP s = (x, t) := ⟨_, _, rfl⟩
  obtain ⟨x2, e2⟩ : ∃ x, s1.r.bits = x := ⟨_, rfl⟩
  obtain ⟨s2, e2'⟩ : ∃ t, (⟨s1.r.afterBits, s1.b⟩ : Rb) = t := ⟨_, rfl⟩
  obtain ⟨x3, s3, e3⟩ : ∃ x t, rowP (rowP numP) s2 = (x, t) := ⟨_, _, rfl⟩
  obtain ⟨x4, s4, e4⟩ : ∃ x t, numP s3 = (x, t) := ⟨_, _, rfl⟩
  obtain ⟨x5, s5, e5⟩ : ∃ x t, rowP numP s4 = (x, t) := ⟨_, _, rfl⟩
  obtain ⟨x6, s6, e6⟩ : ∃ x t, numP s5 = (x, t) := ⟨_, _, rfl⟩
  obtain ⟨x7, s7, e7⟩ : ∃ x t, numP s6 = (x, t) := ⟨_, _, rfl⟩
  obtain ⟨x8, s8, e8⟩ : ∃ x t, numP s7 = (x, t) := ⟨_, _, rfl⟩
  obtain ⟨x9, s9, e9⟩ : ∃ x t, numP s8 = (x, t) := ⟨_, _, rfl⟩
  obtain ⟨x10, s10, e10⟩ : ∃ x t, numP s9 = (x, t) := ⟨_, _, rfl⟩
  have hu : U64 x2 := e2 ▸ bits_u64 _
  rw [domP_of e1 e2 e2' e3 e4 e5 e6 e7 e8 e9 e10]
  have E1 := hid e1
  have E2 := hid e2
  have E2q := hid e2'
  have E3 := hid e3
  have E4 := hid e4
  have E5 := hid e5
  have E6 := hid e6
  have E7 := hid e7
  have E8 := hid e8
  have E9 := hid e9
  have E10 := hid e10
  have HU := hid hu
  clear e1 e2 e2' e3 e4 e5 e6 e7 e8 e9 e10 hu
  go_enter Tryz.func78, Tryz.ntmps78
  go_upto_region 1 with (fail)
  refine wp_forget (fun v => Sr b c s v ∧ Two b c w v ∧ v.heap[w.heap.size]? = some (.cells #[.int .i64 0, .int .u64 0, .slice none 0 0, .slice none 0 0, .int .i64 0, .int .i64 0, .int .i64 0, .int .i64 0, .int .i64 0, .int .i64 0] 94 (0, 0))) ⟨H.out.ext (by repeat (first | exact Ext.refl _ | assumption | refine Ext.more ?_ _ | refine Ext.drew ?_ | refine Ext.drewN ?_ _ | refine Ext.alloc ?_ _ | refine Ext.setCell ?_ (by simp; try omega) _ | refine Ext.trans ?_ (by assumption))), Two.of_ext (by repeat (first | exact Ext.refl _ | assumption | refine Ext.more ?_ _ | refine Ext.drew ?_ | refine Ext.drewN ?_ _ | refine Ext.alloc ?_ _ | refine Ext.setCell ?_ (by simp; try omega) _ | refine Ext.trans ?_ (by assumption))), heap_alloc_new w _⟩ ?_
  rintro v ⟨hs0, ht0, hn0⟩
  have HS0 := hid (hs0.ext (Ext.drew (Ext.refl v)))
  have HT0 := hid (ht0.ext (Ext.drew (Ext.refl v)))
  have HN0 : Hid (v.drew.heap[w.heap.size]? = some (.cells #[.int .i64 0, .int .u64 0, .slice none 0 0, .slice none 0 0, .int .i64 0, .int .i64 0, .int .i64 0, .int .i64 0, .int .i64 0, .int .i64 0] 94 (0, 0))) := hn0
  clear hs0 ht0 hn0
  refine wp_region_T 29 1 (fun u => u.cell? ⟨b, 0, none⟩ = some (.pointer (some ⟨c, 0, none⟩))) (by kernel_rfl) (by kernel_rfl) ?_
  generalize v.drew = v0 at *
  have HSS := HS0.out.cell0
  have HV0 := hid (Two.refl b c v0)
  refine wpT_take 0 (v := ?v1) rfl (by kernel_rfl) (by kernel_rfl) (by kernel_rfl) (by kernel_rfl) (by intro _ _ _ h; first | exact h | (obtain ⟨h, _⟩ := h; cases h)) (by rfl) HSS ?hy1 ?_
  case hy1 => (intro u hu; go_simp; first | done | (with_reducible rfl))
  (try simp only [Act.put, List.getElem_toArray, List.getElem_cons_zero, List.getElem_cons_succ, List.setIfInBounds_toArray, List.set_cons_zero, List.set_cons_succ])
  refine wpT_take 2 (v := ?v2) rfl (by kernel_rfl) (by kernel_rfl) (by kernel_rfl) (by kernel_rfl) (by intro _ _ _ h; first | exact h | (obtain ⟨h, _⟩ := h; cases h)) (by rfl) HSS ?hy2 ?_
  case hy2 => (intro u hu; go_simp; first | done | (with_reducible rfl))
  (try simp only [Act.put, List.getElem_toArray, List.getElem_cons_zero, List.getElem_cons_succ, List.setIfInBounds_toArray, List.set_cons_zero, List.set_cons_succ])
  refine wpT_take 3 (v := ?v3) rfl (by kernel_rfl) (by kernel_rfl) (by kernel_rfl) (by kernel_rfl) (by intro _ _ _ h; first | exact h | (obtain ⟨h, _⟩ := h; cases h)) (by rfl) HSS ?hy3 ?_
  case hy3 => (intro u hu; go_simp; first | done | (with_reducible rfl))
  (try simp only [Act.put, List.getElem_toArray, List.getElem_cons_zero, List.getElem_cons_succ, List.setIfInBounds_toArray, List.set_cons_zero, List.set_cons_succ])
  refine wpT_take 4 (v := ?v4) rfl (by kernel_rfl) (by kernel_rfl) (by kernel_rfl) (by kernel_rfl) (by intro _ _ _ h; first | exact h | (obtain ⟨h, _⟩ := h; cases h)) (by rfl) HSS ?hy4 ?_
  case hy4 => (intro u hu; go_simp; first | done | (with_reducible rfl))
  (try simp only [Act.put, List.getElem_toArray, List.getElem_cons_zero, List.getElem_cons_succ, List.setIfInBounds_toArray, List.set_cons_zero, List.set_cons_succ])
  refine wpT_take 5 (v := ?v5) rfl (by kernel_rfl) (by kernel_rfl) (by kernel_rfl) (by kernel_rfl) (by intro _ _ _ h; first | exact h | (obtain ⟨h, _⟩ := h; cases h)) (by rfl) HSS ?hy5 ?_
  case hy5 => (intro u hu; go_simp; first | done | (with_reducible rfl))
  (try simp only [Act.put, List.getElem_toArray, List.getElem_cons_zero, List.getElem_cons_succ, List.setIfInBounds_toArray, List.set_cons_zero, List.set_cons_succ])
  refine wpT_take 8 (v := ?v6) rfl (by kernel_rfl) (by kernel_rfl) (by kernel_rfl) (by kernel_rfl) (by intro _ _ _ h; first | exact h | (obtain ⟨h, _⟩ := h; cases h)) (by rfl) HSS ?hy6 ?_
  case hy6 => (intro u hu; go_simp; first | done | (with_reducible rfl))
  (try simp only [Act.put, List.getElem_toArray, List.getElem_cons_zero, List.getElem_cons_succ, List.setIfInBounds_toArray, List.set_cons_zero, List.set_cons_succ])
  refine wpT_take 9 (v := ?v7) rfl (by kernel_rfl) (by kernel_rfl) (by kernel_rfl) (by kernel_rfl) (by intro _ _ _ h; first | exact h | (obtain ⟨h, _⟩ := h; cases h)) (by rfl) HSS ?hy7 ?_
  case hy7 => (intro u hu; go_simp; first | done | (with_reducible rfl))
  (try simp only [Act.put, List.getElem_toArray, List.getElem_cons_zero, List.getElem_cons_succ, List.setIfInBounds_toArray, List.set_cons_zero, List.set_cons_succ])
  refine wpT_take 11 (v := ?v8) rfl (by kernel_rfl) (by kernel_rfl) (by kernel_rfl) (by kernel_rfl) (by intro _ _ _ h; first | exact h | (obtain ⟨h, _⟩ := h; cases h)) (by rfl) HSS ?hy8 ?_
  case hy8 => (intro u hu; go_simp; first | done | (with_reducible rfl))
  (try simp only [Act.put, List.getElem_toArray, List.getElem_cons_zero, List.getElem_cons_succ, List.setIfInBounds_toArray, List.set_cons_zero, List.set_cons_succ])
  refine wpT_take 12 (v := ?v9) rfl (by kernel_rfl) (by kernel_rfl) (by kernel_rfl) (by kernel_rfl) (by intro _ _ _ h; first | exact h | (obtain ⟨h, _⟩ := h; cases h)) (by rfl) HSS ?hy9 ?_
  case hy9 => (intro u hu; go_simp; first | done | (with_reducible rfl))
  (try simp only [Act.put, List.getElem_toArray, List.getElem_cons_zero, List.getElem_cons_succ, List.setIfInBounds_toArray, List.set_cons_zero, List.set_cons_succ])
  refine wpT_take 14 (v := ?v10) rfl (by kernel_rfl) (by kernel_rfl) (by kernel_rfl) (by kernel_rfl) (by intro _ _ _ h; first | exact h | (obtain ⟨h, _⟩ := h; cases h)) (by rfl) HSS ?hy10 ?_
  case hy10 => (intro u hu; go_simp; first | done | (with_reducible rfl))
  (try simp only [Act.put, List.getElem_toArray, List.getElem_cons_zero, List.getElem_cons_succ, List.setIfInBounds_toArray, List.set_cons_zero, List.set_cons_succ])
  refine wpT_take 16 (v := ?v11) rfl (by kernel_rfl) (by kernel_rfl) (by kernel_rfl) (by kernel_rfl) (by intro _ _ _ h; first | exact h | (obtain ⟨h, _⟩ := h; cases h)) (by rfl) HSS ?hy11 ?_
  case hy11 => (intro u hu; go_simp; first | done | (with_reducible rfl))
  (try simp only [Act.put, List.getElem_toArray, List.getElem_cons_zero, List.getElem_cons_succ, List.setIfInBounds_toArray, List.set_cons_zero, List.set_cons_succ])
  refine wpT_take 18 (v := ?v12) rfl (by kernel_rfl) (by kernel_rfl) (by kernel_rfl) (by kernel_rfl) (by intro _ _ _ h; first | exact h | (obtain ⟨h, _⟩ := h; cases h)) (by rfl) HSS ?hy12 ?_
  case hy12 => (intro u hu; go_simp; first | done | (with_reducible rfl))
  (try simp only [Act.put, List.getElem_toArray, List.getElem_cons_zero, List.getElem_cons_succ, List.setIfInBounds_toArray, List.set_cons_zero, List.set_cons_succ])
  refine wpT_take 20 (v := ?v13) rfl (by kernel_rfl) (by kernel_rfl) (by kernel_rfl) (by kernel_rfl) (by intro _ _ _ h; first | exact h | (obtain ⟨h, _⟩ := h; cases h)) (by rfl) HSS ?hy13 ?_
  case hy13 => (intro u hu; go_simp; first | done | (with_reducible rfl))
  (try simp only [Act.put, List.getElem_toArray, List.getElem_cons_zero, List.getElem_cons_succ, List.setIfInBounds_toArray, List.set_cons_zero, List.set_cons_succ])
  refine wpT_take 22 (v := ?v14) rfl (by kernel_rfl) (by kernel_rfl) (by kernel_rfl) (by kernel_rfl) (by intro _ _ _ h; first | exact h | (obtain ⟨h, _⟩ := h; cases h)) (by rfl) HSS ?hy14 ?_
  case hy14 => (intro u hu; go_simp; first | done | (with_reducible rfl))
  (try simp only [Act.put, List.getElem_toArray, List.getElem_cons_zero, List.getElem_cons_succ, List.setIfInBounds_toArray, List.set_cons_zero, List.set_cons_succ])
  refine wpT_take 24 (v := ?v15) rfl (by kernel_rfl) (by kernel_rfl) (by kernel_rfl) (by kernel_rfl) (by intro _ _ _ h; first | exact h | (obtain ⟨h, _⟩ := h; cases h)) (by rfl) HSS ?hy15 ?_
  case hy15 => (intro u hu; go_simp; first | done | (with_reducible rfl))
  (try simp only [Act.put, List.getElem_toArray, List.getElem_cons_zero, List.getElem_cons_succ, List.setIfInBounds_toArray, List.set_cons_zero, List.set_cons_succ])
  refine wpT_take 26 (v := ?v16) rfl (by kernel_rfl) (by kernel_rfl) (by kernel_rfl) (by kernel_rfl) (by intro _ _ _ h; first | exact h | (obtain ⟨h, _⟩ := h; cases h)) (by rfl) HSS ?hy16 ?_
  case hy16 => (intro u hu; go_simp; first | done | (with_reducible rfl))
  (try simp only [Act.put, List.getElem_toArray, List.getElem_cons_zero, List.getElem_cons_succ, List.setIfInBounds_toArray, List.set_cons_zero, List.set_cons_succ])
  refine wpT_one 1 rfl (by kernel_rfl) (by rfl) (fun K' hK => ?_)
  go_simp
  refine (srNum_to E1.out HS0.out).mono ?_
  rintro e v1 ⟨rfl, hs, ht⟩
  have HS1 := hid hs
  have HV1 := hid (HV0.out.trans ht)
  clear hs ht
  refine hK.out _ _ HS1.out.cell0 ?_
  clear HSS hK K' HV0
  have HSS := HS1.out.cell0
  (try simp only [Act.put, List.setIfInBounds_toArray, List.set_cons_zero, List.set_cons_succ])
  refine wpT_one 6 rfl (by kernel_rfl) (by rfl) (fun K' hK => ?_)
  go_simp
  refine (srBits_to E2.out E2q.out HS1.out).mono ?_
  rintro e v2 ⟨rfl, hs, ht⟩
  have HS2 := hid hs
  have HV2 := hid (HV1.out.trans ht)
  clear hs ht
  refine hK.out _ _ HS2.out.cell0 ?_
  clear HSS hK K' HV1
  have HSS := HS2.out.cell0
  (try simp only [Act.put, List.setIfInBounds_toArray, List.set_cons_zero, List.set_cons_succ])
  refine wpT_take 7 (v := ?v17) rfl (by kernel_rfl) (by kernel_rfl) (by kernel_rfl) (by kernel_rfl) (by intro _ _ _ h; first | exact h | (obtain ⟨h, _⟩ := h; cases h)) (by rfl) HSS ?hy17 ?_
  case hy17 => (intro u hu; go_simp; first | done | (with_reducible rfl))
  (try simp only [Act.put, List.getElem_toArray, List.getElem_cons_zero, List.getElem_cons_succ, List.setIfInBounds_toArray, List.set_cons_zero, List.set_cons_succ])
  refine wpT_one 10 rfl (by kernel_rfl) (by rfl) (fun K' hK => ?_)
  go_simp
  refine (srCount_any b c _ _ HS2.out).mono ?_
  rintro e v3 ⟨rfl, hs, ht⟩
  have HS3 := hid hs
  have HV3 := hid (HV2.out.trans ht)
  clear hs ht
  refine hK.out _ _ HS3.out.cell0 ?_
  clear HSS hK K' HV2
  have HSS := HS3.out.cell0
  (try simp only [Act.put, List.setIfInBounds_toArray, List.set_cons_zero, List.set_cons_succ])
  refine wpT_one 13 rfl (by kernel_rfl) (by rfl) (fun K' hK => ?_)
  go_simp
  refine (rowsR_to E3.out HS3.out).mono ?_
  rintro e v4 ⟨x, rfl, hr, hs, ht⟩
  obtain ⟨px, cx, rfl, -, -⟩ := hr.shape
  have HS4 := hid hs
  have HV4 := hid (HV3.out.trans ht)
  have Rx4 := hid (hr.weak (base' := 0) (Nat.zero_le _))
  clear hr
  clear hs ht
  refine hK.out _ _ HS4.out.cell0 ?_
  clear HSS hK K' HV3
  have HSS := HS4.out.cell0
  (try simp only [Act.put, List.setIfInBounds_toArray, List.set_cons_zero, List.set_cons_succ])
  refine wpT_one 15 rfl (by kernel_rfl) (by rfl) (fun K' hK => ?_)
  go_simp
  refine (srNum_to E4.out HS4.out).mono ?_
  rintro e v5 ⟨rfl, hs, ht⟩
  have HS5 := hid hs
  have HV5 := hid (HV4.out.trans ht)
  have HKK := hid (HS4.out.kept (good := [89, 3]) ht (by decide))
  have Rx5 := hid (Rx4.out.kept HKK.out (by simp) (ElR.kept (HKK.out.sub (by simp))))
  clear Rx4
  clear HKK
  clear hs ht
  refine hK.out _ _ HS5.out.cell0 ?_
  clear HSS hK K' HV4
  have HSS := HS5.out.cell0
  (try simp only [Act.put, List.setIfInBounds_toArray, List.set_cons_zero, List.set_cons_succ])
  refine wpT_one 17 rfl (by kernel_rfl) (by rfl) (fun K' hK => ?_)
  go_simp
  refine (nums_to E5.out HS5.out).mono ?_
  rintro e v6 ⟨y, rfl, hr, hs, ht⟩
  obtain ⟨py, cy, rfl, -, -⟩ := hr.shape
  have HS6 := hid hs
  have HV6 := hid (HV5.out.trans ht)
  have HKK := hid (HS5.out.kept (good := [89, 3]) ht (by decide))
  have Rx6 := hid (Rx5.out.kept HKK.out (by simp) (ElR.kept (HKK.out.sub (by simp))))
  clear Rx5
  clear HKK
  have Ry6 := hid (hr.weak (base' := 0) (Nat.zero_le _))
  clear hr
  clear hs ht
  refine hK.out _ _ HS6.out.cell0 ?_
  clear HSS hK K' HV5
  have HSS := HS6.out.cell0
  (try simp only [Act.put, List.setIfInBounds_toArray, List.set_cons_zero, List.set_cons_succ])
  refine wpT_one 19 rfl (by kernel_rfl) (by rfl) (fun K' hK => ?_)
  go_simp
  refine (srNum_to E6.out HS6.out).mono ?_
  rintro e v7 ⟨rfl, hs, ht⟩
  have HS7 := hid hs
  have HV7 := hid (HV6.out.trans ht)
  have HKK := hid (HS6.out.kept (good := [89, 3]) ht (by decide))
  have Rx7 := hid (Rx6.out.kept HKK.out (by simp) (ElR.kept (HKK.out.sub (by simp))))
  clear Rx6
  have Ry7 := hid (Ry6.out.kept HKK.out (by simp) (fun _ _ h => h))
  clear Ry6
  clear HKK
  clear hs ht
  refine hK.out _ _ HS7.out.cell0 ?_
  clear HSS hK K' HV6
  have HSS := HS7.out.cell0
  (try simp only [Act.put, List.setIfInBounds_toArray, List.set_cons_zero, List.set_cons_succ])
  refine wpT_one 21 rfl (by kernel_rfl) (by rfl) (fun K' hK => ?_)
  go_simp
  refine (srNum_to E7.out HS7.out).mono ?_
  rintro e v8 ⟨rfl, hs, ht⟩
  have HS8 := hid hs
  have HV8 := hid (HV7.out.trans ht)
  have HKK := hid (HS7.out.kept (good := [89, 3]) ht (by decide))
  have Rx8 := hid (Rx7.out.kept HKK.out (by simp) (ElR.kept (HKK.out.sub (by simp))))
  clear Rx7
  have Ry8 := hid (Ry7.out.kept HKK.out (by simp) (fun _ _ h => h))
  clear Ry7
  clear HKK
  clear hs ht
  refine hK.out _ _ HS8.out.cell0 ?_
  clear HSS hK K' HV7
  have HSS := HS8.out.cell0
  (try simp only [Act.put, List.setIfInBounds_toArray, List.set_cons_zero, List.set_cons_succ])
  refine wpT_one 23 rfl (by kernel_rfl) (by rfl) (fun K' hK => ?_)
  go_simp
  refine (srNum_to E8.out HS8.out).mono ?_
  rintro e v9 ⟨rfl, hs, ht⟩
  have HS9 := hid hs
  have HV9 := hid (HV8.out.trans ht)
  have HKK := hid (HS8.out.kept (good := [89, 3]) ht (by decide))
  have Rx9 := hid (Rx8.out.kept HKK.out (by simp) (ElR.kept (HKK.out.sub (by simp))))
  clear Rx8
  have Ry9 := hid (Ry8.out.kept HKK.out (by simp) (fun _ _ h => h))
  clear Ry8
  clear HKK
  clear hs ht
  refine hK.out _ _ HS9.out.cell0 ?_
  clear HSS hK K' HV8
  have HSS := HS9.out.cell0
  (try simp only [Act.put, List.setIfInBounds_toArray, List.set_cons_zero, List.set_cons_succ])
  refine wpT_one 25 rfl (by kernel_rfl) (by rfl) (fun K' hK => ?_)
  go_simp
  refine (srNum_to E9.out HS9.out).mono ?_
  rintro e v10 ⟨rfl, hs, ht⟩
  have HS10 := hid hs
  have HV10 := hid (HV9.out.trans ht)
  have HKK := hid (HS9.out.kept (good := [89, 3]) ht (by decide))
  have Rx10 := hid (Rx9.out.kept HKK.out (by simp) (ElR.kept (HKK.out.sub (by simp))))
  clear Rx9
  have Ry10 := hid (Ry9.out.kept HKK.out (by simp) (fun _ _ h => h))
  clear Ry9
  clear HKK
  clear hs ht
  refine hK.out _ _ HS10.out.cell0 ?_
  clear HSS hK K' HV9
  have HSS := HS10.out.cell0
  (try simp only [Act.put, List.setIfInBounds_toArray, List.set_cons_zero, List.set_cons_succ])
  refine wpT_one 27 rfl (by kernel_rfl) (by rfl) (fun K' hK => ?_)
  go_simp
  refine (srNum_to E10.out HS10.out).mono ?_
  rintro e v11 ⟨rfl, hs, ht⟩
  have HS11 := hid hs
  have HV11 := hid (HV10.out.trans ht)
  have HKK := hid (HS10.out.kept (good := [89, 3]) ht (by decide))
  have Rx11 := hid (Rx10.out.kept HKK.out (by simp) (ElR.kept (HKK.out.sub (by simp))))
  clear Rx10
  have Ry11 := hid (Ry10.out.kept HKK.out (by simp) (fun _ _ h => h))
  clear Ry10
  clear HKK
  clear hs ht
  refine hK.out _ _ HS11.out.cell0 ?_
  clear HSS hK K' HV10
  have HSS := HS11.out.cell0
  (try simp only [Act.put, List.setIfInBounds_toArray, List.set_cons_zero, List.set_cons_succ])
  refine wpT_take 28 (v := ?v18) rfl (by kernel_rfl) (by kernel_rfl) (by kernel_rfl) (by kernel_rfl) (by intro _ _ _ h; first | exact h | (obtain ⟨h, _⟩ := h; cases h)) (by rfl) HSS ?hy18 ?_
  case hy18 => (intro u hu; go_simp; first | done | (with_reducible rfl))
  (try simp only [Act.put, List.getElem_toArray, List.getElem_cons_zero, List.getElem_cons_succ, List.setIfInBounds_toArray, List.set_cons_zero, List.set_cons_succ])
  refine wpT_done (by kernel_rfl) ?_
  refine wpAny_one 29 rfl (by kernel_rfl) (by rfl) (fun K' hK => ?_)
  have hlt := H.out.lt
  have hn := HV11.out.blk HN0.out (by omega) (by omega)
  have k0 := blk_cell hn 0
  have k1 := blk_cell hn 1
  have k2 := blk_cell hn 2
  have k3 := blk_cell hn 3
  have k4 := blk_cell hn 4
  have k5 := blk_cell hn 5
  have k6 := blk_cell hn 6
  have k7 := blk_cell hn 7
  have k8 := blk_cell hn 8
  have k9 := blk_cell hn 9
  have f0 := blk_free hn 0
  have f1 := blk_free hn 1
  have f2 := blk_free hn 2
  have f3 := blk_free hn 3
  have f4 := blk_free hn 4
  have f5 := blk_free hn 5
  have f6 := blk_free hn 6
  have f7 := blk_free hn 7
  have f8 := blk_free hn 8
  have f9 := blk_free hn 9
  go_simp
  refine hK.out _ _ ?_
  (try simp only [Act.put, List.setIfInBounds_toArray, List.set_cons_zero, List.set_cons_succ])
  refine wpAny_done (by kernel_rfl) ?_ _
  refine ‹∀ (a : Act) (w : World), Code.wp _ _ _ a w → _› _ _ ?_
  refine wp_forget (fun y => y.heap[w.heap.size]? = some (.cells (DomCells ⟨x1, x2, x3, x5, x4, x6, x7, x8, x9, x10⟩ (.slice px x3.length cx) (.slice py x5.length cy)).toArray 94 (0, 0)) ∧ Only w.heap.size v11 y)
    ⟨sets10 hn _ _ _ _ _ _ _ _ _ _, ((((((((((Only.refl _ _).setCell _).setCell _).setCell _).setCell _).setCell _).setCell _).setCell _).setCell _).setCell _).setCell _⟩ ?_
  rintro y ⟨hy, hO⟩
  have HF : Hid (ElD y (DomCells ⟨x1, x2, x3, x5, x4, x6, x7, x8, x9, x10⟩ (.slice px x3.length cx) (.slice py x5.length cy)) ⟨x1, x2, x3, x5, x4, x6, x7, x8, x9, x10⟩ ∧ Sr b c s10 y ∧ Two b c w y) := by
    have hk := hO.kept hn (good := [89, 3]) (by decide)
    exact ⟨⟨_, _, rfl, Rx11.out.kept hk (by simp) (ElR.kept (hk.sub (by simp))), Ry11.out.kept hk (by simp) (fun _ _ h => h), HU.out⟩, HS11.out.only hO (by omega) (by omega), (HT0.out.trans HV11.out).only hO (Nat.le_refl _)⟩
  clear k0 k1 k2 k3 k4 k5 k6 k7 k8 k9 f0 f1 f2 f3 f4 f5 f6 f7 f8 f9 hO hn
  have k0 := blk_cell hy 0
  have k1 := blk_cell hy 1
  have k2 := blk_cell hy 2
  have k3 := blk_cell hy 3
  have k4 := blk_cell hy 4
  have k5 := blk_cell hy 5
  have k6 := blk_cell hy 6
  have k7 := blk_cell hy 7
  have k8 := blk_cell hy 8
  have k9 := blk_cell hy 9
  simp only [DomCells, List.getElem?_toArray, List.getElem?_cons_zero, List.getElem?_cons_succ] at k0 k1 k2 k3 k4 k5 k6 k7 k8 k9
  go_wp2
  exact bodyPost_ret (v := .agg (DomCells ⟨x1, x2, x3, x5, x4, x6, x7, x8, x9, x10⟩ (.slice px x3.length cx) (.slice py x5.length cy)).toArray) (by simp [results, Tryz.results78, go_sem, k0, k1, k2, k3, k4, k5, k6, k7, k8, k9, DomCells]) rfl ⟨px, cx, py, cy, rfl, HF.out⟩
end Go.Proofs.YtmpgeabfogcblaaGreat

namespace Go.Proofs.YtmpgeabfogcblaaGreat
open Go.RowKit

theorem infoD : (Tryz.prog.info? 94).map (fun i => (i.zero, i.size, i.bytes)) = some (some (.agg #[.int .i64 0, .int .u64 0, .slice none 0 0, .slice none 0 0, .int .i64 0, .int .i64 0, .int .i64 0, .int .i64 0, .int .i64 0, .int .i64 0]), 10, 112) := by kernel_rfl

set_option maxRecDepth 100000 in
set_option maxHeartbeats 4000000 in
theorem manyD_any (b c : Nat) (s : Rb) (cnt : Int) (w : World) (h : Sr b c s w) (h0 : s.wrong = false → 0 ≤ cnt) (hc : cnt ≤ 40000) :
    Calls Tryz.prog 77 #[.pointer (some ⟨b, 0, none⟩), .int .i64 cnt, .func (.func 78) #[.pointer (some ⟨b, 0, none⟩)] #[]] w
      (ReadsRow 94 10 ElD b c (manyP domP cnt.toNat s) w) := by
  have HS0 := hid h
  have H0 := hid h0
  clear h h0
  have hne := fun v w => run_neq_iface_nil (P := Tryz.prog) w 39 v Tryz.underlying32
  have hnn := fun w => run_neq_nil_nil' (P := Tryz.prog) w Tryz.underlying32
  go_enter Tryz.func77, Tryz.ntmps77
  go_wp2
  refine wp_goto 0 (ManyJ 94 10 ElD b c domP s cnt (.func (.func 78) #[.pointer (some ⟨b, 0, none⟩)] #[]) w) (fun a' _ => cnt.toNat - lenOf (a'.tmps.getD 7 undef)) rfl ?_ ?_
  · refine fun a' w' => ex_elim fun k => ex_elim fun p => ex_elim fun cap => ex_elim fun u3 => ex_elim fun u4 => ex_elim fun u5 => ex_elim fun u8 => ex_elim fun u9 => ex_elim fun u10 => ex_elim fun u11 => ex_elim fun u12 => ex_elim fun u13 => ex_elim fun u14 => ex_elim fun u15 => ex_elim fun u16 => ex_elim fun u17 => ex_elim fun u18 => ex_elim fun u19 => ex_elim fun u20 => ex_elim fun u21 => ex_elim fun u22 => ?_
    rintro ⟨rfl, hT, hS, hR, hlen, hk⟩
    have HT := hid hT
    have HS := hid hS
    have HR := hid hR
    have HL := hid hlen
    clear hT hS hR hlen
    cases hw : (manyP domP k s).2.wrong
    case true =>
      have HW := hid hw
      have HE := hid (manyP_stays domP k s hw cnt.toNat hk)
      clear hw
      go_wp2_with (go_at_call 15; refine (srWrong_bad HS.out HW.out).mono ?_; rintro e w1 ⟨rfl, rfl⟩)
      simp only [Exit.jump]
      go_returns
      rw [HE.out]
      exact ⟨_, rfl, HR.out, HS.out, HT.out⟩
    have HW := hid hw
    clear hw
    have hc0 : 0 ≤ cnt := H0.out (manyP_right HW.out)
    by_cases hkc : (k : Int) = cnt
    · have l1 : ((k : Int) == cnt) = true := by simp [hkc]
      have HK : Hid (cnt.toNat = k) := by unfold Hid; omega
      clear hkc
      go_wp2_with (go_at_call 15; refine (srWrong_ok HS.out HW.out).mono ?_; rintro e w1 ⟨rfl, rfl⟩)
      simp only [Exit.jump]
      go_returns
      rw [HK.out]
      exact ⟨_, rfl, HR.out, HS.out, HT.out⟩
    · have l1 : ((k : Int) == cnt) = false := by simp [hkc]
      have hk1 : k + 1 ≤ cnt.toNat := by omega
      have HK1 : Hid (k + 1 ≤ cnt.toNat) := hk1
      have HC := hid hc
      have HQ := hid (manyP_snoc domP k s HW.out)
      clear hkc hk1 hc hc0 hk
      go_wp2_with (first
        | (go_at_call 15; refine (srWrong_ok HS.out HW.out).mono ?_; rintro e w1 ⟨rfl, rfl⟩)
        | (go_at_call 78; refine (domain_any _ _ _ _ HS.out).mono ?_; rintro e w1 ⟨pr, cr, pe, ce, he, hel, hs1, ht1⟩; subst he; dsimp only [DomCells]; have HEL := hid hel; clear hel; have HS1 := hid hs1; have HT1 := hid ht1; have HKp := hid (HS.out.kept (good := [94, 89, 3]) ht1 (by decide)); clear hs1 ht1)
        | (at_builtin; refine wpList_push_row rfl (.tmp 18) (.tmp 21) 24 94 (.agg #[.int .i64 0, .int .u64 0, .slice none 0 0, .slice none 0 0, .int .i64 0, .int .i64 0, .int .i64 0, .int .i64 0, .int .i64 0, .int .i64 0]) 10 112 rfl Tryz.underlying24 infoD rfl (by decide) [89, 3] (domP (manyP domP k s).2).1 (HR.out.kept HKp.out (by simp) (ElD.kept (HKp.out.sub (by simp)))) rfl (by intro u hu; simp only [List.mem_cons, List.not_mem_nil, or_false] at hu; rcases hu with rfl | rfl | rfl | rfl | rfl | rfl | rfl | rfl | rfl | rfl <;> rfl) (by have := HL.out; have := HK1.out; have := HC.out; omega) (by decide) HS1.out (by decide) (HT.out.trans HT1.out) rfl (by decide) HEL.out (fun _ hk => ElD.kept hk) rfl rfl rfl ?_; intro p1 cap1 w2 hr2 hs2 ht2))
      go_step3
      rename_i Qz
      simp only [Qz, Exit.jump]
      rw [HL.out] at hr2
      rw [HL.out]
      refine ⟨trivial, ⟨k + 1, p1, cap1, _, _, _, _, _, _, _, _, _, _, _, _, _, _, _, _, _, _, rfl, ht2, by rw [HQ.out]; exact hs2, by rw [HQ.out]; exact hr2, by rw [HQ.out, List.length_append, HL.out]; rfl, HK1.out⟩, ?_⟩
      have := HK1.out
      simp [lenOf]
      omega
  · intro start
    have Start := hid start
    clear start
    go_wp2
    go_step3
    simp only [Exit.then]
    refine ‹∀ (a : Act) (w : World), Code.wp _ _ _ a w → _› _ _ ?_
    exact Start.out _ _ ⟨0, none, 0, _, _, _, _, _, _, _, _, _, _, _, _, _, _, _, _, _, _, rfl, Two.refl _ _ _, HS0.out, Rowed.nil _ _ _ _ _, rfl, Nat.zero_le _⟩
end Go.Proofs.YtmpgeabfogcblaaGreat

namespace Go.Proofs.YtmpgeabfogcblaaGreat
open Go.RowKit
set_option linter.unusedSimpArgs false

section
variable {P : Program} {ops : Array Oper} {Q : Exit → Act → World → Prop} {md : Region.Mode} {S : World → Prop}
/-- One of the two that may come up. -/
theorem wpT_two (i j : Nat) {n k : Nat} {oi oj : Oper} {fuel : Nat} {listed : Array Bool} {a : Act} {w : World} (hoi : ops[i]? = some oi) (hoj : ops[j]? = some oj) (hr : Region.ready md ops listed = [i, j]) (hwi : Region.wanted oi (yielded ops a.tmps) = true) (hwj : Region.wanted oj (yielded ops a.tmps) = true)
    (hi : ∀ K' : Act → World → Prop, Shut (∀ a w, S w → wpT P md ops Q S n k fuel (listed.setIfInBounds i true) a w → K' a w) → Oper.wp P oi a w K' Q)
    (hj : ∀ K' : Act → World → Prop, Shut (∀ a w, S w → wpT P md ops Q S n k fuel (listed.setIfInBounds j true) a w → K' a w) → Oper.wp P oj a w K' Q) : wpT P md ops Q S n k (fuel + 1) listed a w := fun hc => by
  refine ⟨by rw [hr]; simp, fun x hx => ?_⟩
  have hx' := hx
  rw [hr] at hx
  rcases List.mem_cons.1 hx with rfl | hx
  · refine wpOp_step hoi (fun K' hK => ?_)
    rw [if_pos hwi]
    exact hi K' (fun a' w' h1 h2 => hK _ _ ⟨h1, h2 (hc.add hx')⟩)
  · obtain rfl := List.mem_singleton.1 hx
    refine wpOp_step hoj (fun K' hK => ?_)
    rw [if_pos hwj]
    exact hj K' (fun a' w' h1 h2 => hK _ _ ⟨h1, h2 (hc.add hx')⟩)
end
/-- In however many ways it goes: what holds behind. -/
theorem wp_meet {P : Program} {c : Code} {a : Act} {w : World} {Q : Exit → Act → World → Prop} (M : Act → World → Prop) (first : c.wp P (fun e a w => e = .normal ∧ M a w) a w) (rest : ∀ a w, M a w → Q .normal a w) : c.wp P Q a w :=
  Code.wp_mono (fun e a w h => by obtain ⟨rfl, h⟩ := h; exact rest a w h) first
theorem heap_new2 (w : World) (o1 o2 : Obj) : ((w.alloc o1).alloc o2).heap[w.heap.size + 1]? = some o2 := by
  have := heap_alloc_new (w.alloc o1) o2
  rwa [World.size_alloc] at this
theorem sets4 {w : World} {n : Nat} {T : TypeId} {z0 z1 z2 z3 : Value} (h : w.heap[n]? = some (.cells #[z0, z1, z2, z3] T (0, 0))) (a0 a1 a2 a3 : Value) :
    ((((w.setCell ⟨n, 0, none⟩ a0).setCell ⟨n, 1, none⟩ a1).setCell ⟨n, 2, none⟩ a2).setCell ⟨n, 3, none⟩ a3).heap[n]? = some (.cells #[a0, a1, a2, a3] T (0, 0)) := by
  have := blk_set (blk_set (blk_set (blk_set h 0 a0) 1 a1) 2 a2) 3 a3
  simpa using this
theorem srCount_to {b c : Nat} {s s' : Rb} {x : Int} (e : cntP s = (x, s')) {w : World} (h : Sr b c s w) : Calls Tryz.prog 73 #[.pointer (some ⟨b, 0, none⟩)] w (Reads b c (.int .i64 x) s' w) := by
  have := srCount_any b c s w h
  rwa [e] at this
theorem confP_of {s s1 s2 s3 s4 s5 s6 : Rb} {x1 x2 x3 x4 : Int} {x5 : List (List Int)} {x6 : List Dom} (e1 : numP s = (x1, s1)) (e2 : numP s1 = (x2, s2)) (e3 : cntP s2 = (x3, s3)) (e4 : cntP s3 = (x4, s4)) (e5 : manyP (manyP numP x4.toNat) x3.toNat s4 = (x5, s5)) (e6 : manyP domP x4.toNat s5 = (x6, s6)) : confP s = (⟨x1, x2, x5, x6⟩, s6) := by
  simp only [confP, e1, e2, e3, e4, e5, e6]
def ReadsConf (b c : Nat) (q : Cnf × Rb) (w : World) (e : Ending) (w' : World) : Prop := ∃ pp cp pd cd, e = .returned (.agg #[.int .i64 q.1.frame, .int .i64 q.1.epoch, .slice pp q.1.plans.length cp, .slice pd q.1.doms.length cd]) ∧
  Rowed 89 1 ElR 0 w' (.slice pp q.1.plans.length cp) q.1.plans ∧ Rowed 94 10 ElD 0 w' (.slice pd q.1.doms.length cd) q.1.doms ∧ Sr b c q.2 w' ∧ Two b c w w'
abbrev confO (a b p d : Value) : Obj := .cells #[a, b, p, d] 26 (0, 0)

/-- Behind the first line: the configuration's variable at block C. -/
def ConfM1 (b c : Nat) (v0 : World) (A B : Nat) (x1 x2 : Int) (s2 : Rb) (a' : Act) (w' : World) : Prop :=
  ∃ (C : Nat) (u4 u5 u6 u7 u8 u9 u10 u11 u12 u13 u14 u15 u16 u17 u18 u19 u20 u21 u22 u23 u24 u25 u26 : Value), a' = { tmps := #[.pointer (some ⟨b, 0, none⟩), .pointer (some ⟨A, 0, none⟩), .pointer (some ⟨B, 0, none⟩), .pointer (some ⟨C, 0, none⟩), u4, u5, u6, u7, u8, u9, u10, u11, u12, u13, u14, u15, u16, u17, u18, u19, u20, u21, u22, u23, u24, u25, u26], defers := [] } ∧
    Sr b c s2 w' ∧ Two b c v0 w' ∧ w'.heap[C]? = some (confO (.int .i64 x1) (.int .i64 x2) (.slice none 0 0) (.slice none 0 0)) ∧ v0.heap.size ≤ C
/-- Behind the second: the counts; that of domains in a variable at block D. -/
def ConfM2 (b c : Nat) (v0 : World) (A B C : Nat) (x3 x4 : Int) (s4 : Rb) (a' : Act) (w' : World) : Prop :=
  ∃ (D : Nat) (u6 u7 u8 u9 u10 u11 u12 u13 u14 u15 u16 u17 u18 u19 u20 u21 u22 u23 u24 u25 u26 : Value), a' = { tmps := #[.pointer (some ⟨b, 0, none⟩), .pointer (some ⟨A, 0, none⟩), .pointer (some ⟨B, 0, none⟩), .pointer (some ⟨C, 0, none⟩), .int .i64 x3, .pointer (some ⟨D, 0, none⟩), u6, u7, u8, u9, u10, u11, u12, u13, u14, u15, u16, u17, u18, u19, u20, u21, u22, u23, u24, u25, u26], defers := [] } ∧
    Sr b c s4 w' ∧ Two b c v0 w' ∧ w'.heap[D]? = some (.cells #[.int .i64 x4] 3 (0, 0)) ∧ v0.heap.size ≤ D

/-- At the end. -/
def ConfM5 (w5 : World) (B : Nat) (o : Obj) (a' : Act) (y : World) : Prop :=
  ∃ (u0 u1 u3 u4 u5 u6 u7 u8 u9 u10 u11 u12 u13 u14 u15 u16 u17 u18 u19 u20 u21 u22 u23 u24 u25 u26 : Value), a' = { tmps := #[u0, u1, .pointer (some ⟨B, 0, none⟩), u3, u4, u5, u6, u7, u8, u9, u10, u11, u12, u13, u14, u15, u16, u17, u18, u19, u20, u21, u22, u23, u24, u25, u26], defers := [] } ∧ y.heap[B]? = some o ∧ Only B w5 y
/-- The variables of conf. -/
structure ConfF (b c A B C D : Nat) (s : Rb) (x1 x2 x4 : Int) (pv dv : Value) (w y : World) : Prop where
  sr : Sr b c s y
  two : Two b c w y
  cb : y.heap[C]? = some (confO (.int .i64 x1) (.int .i64 x2) pv dv)
  ab : y.heap[A]? = some (.cells #[.pointer (some ⟨b, 0, none⟩)] 84 (0, 0))
  bb : y.heap[B]? = some (confO (.int .i64 0) (.int .i64 0) (.slice none 0 0) (.slice none 0 0))
  db : y.heap[D]? = some (.cells #[.int .i64 x4] 3 (0, 0))
structure ConfN (b c A B C D : Nat) (w : World) : Prop where
  h1 : w.heap.size = A
  h2 : A < B
  h3 : B < C
  h4 : C < D
  h5 : b < A
  h6 : c < A
theorem ConfF.step {b c A B C D : Nat} {s s' : Rb} {x1 x2 x4 : Int} {pv dv : Value} {w y z : World} (f : ConfF b c A B C D s x1 x2 x4 pv dv w y) (n : ConfN b c A B C D w) (hs : Sr b c s' z) (ht : Two b c y z) : ConfF b c A B C D s' x1 x2 x4 pv dv w z :=
  have := n.h1; have := n.h2; have := n.h3; have := n.h4; have := n.h5; have := n.h6
  ⟨hs, f.two.trans ht, ht.blk f.cb (by omega) (by omega), ht.blk f.ab (by omega) (by omega), ht.blk f.bb (by omega) (by omega), ht.blk f.db (by omega) (by omega)⟩
theorem ConfF.putP {b c A B C D : Nat} {s : Rb} {x1 x2 x4 : Int} {pv dv : Value} {w y : World} (f : ConfF b c A B C D s x1 x2 x4 pv dv w y) (n : ConfN b c A B C D w) (v : Value) : ConfF b c A B C D s x1 x2 x4 v dv w (y.setCell ⟨C, 2, none⟩ v) :=
  have := n.h1; have := n.h2; have := n.h3; have := n.h4; have := n.h5; have := n.h6
  have hO : Only C y (y.setCell ⟨C, 2, none⟩ v) := (Only.refl _ _).setCell _
  ⟨f.sr.only hO (by omega) (by omega), f.two.only hO (by omega), blk_set f.cb 2 v, hO.blk f.ab (by omega), hO.blk f.bb (by omega), hO.blk f.db (by omega)⟩
theorem ConfF.putD {b c A B C D : Nat} {s : Rb} {x1 x2 x4 : Int} {pv dv : Value} {w y : World} (f : ConfF b c A B C D s x1 x2 x4 pv dv w y) (n : ConfN b c A B C D w) (v : Value) : ConfF b c A B C D s x1 x2 x4 pv v w (y.setCell ⟨C, 3, none⟩ v) :=
  have := n.h1; have := n.h2; have := n.h3; have := n.h4; have := n.h5; have := n.h6
  have hO : Only C y (y.setCell ⟨C, 3, none⟩ v) := (Only.refl _ _).setCell _
  ⟨f.sr.only hO (by omega) (by omega), f.two.only hO (by omega), blk_set f.cb 3 v, hO.blk f.ab (by omega), hO.blk f.bb (by omega), hO.blk f.db (by omega)⟩
theorem ConfF.keptC {b c A B C D : Nat} {s : Rb} {x1 x2 x4 : Int} {pv dv : Value} {w y : World} (f : ConfF b c A B C D s x1 x2 x4 pv dv w y) {good : List TypeId} (hg : 26 ∉ good) (j : Nat) (v : Value) : Kept good y (y.setCell ⟨C, j, none⟩ v) :=
  ((Only.refl C y).setCell (j := j) v).kept f.cb hg

set_option maxRecDepth 100000 in
set_option maxHeartbeats 4000000 in
theorem conf_any (b c : Nat) (s : Rb) (w : World) (h : Sr b c s w) : Calls Tryz.prog 39 #[.pointer (some ⟨b, 0, none⟩)] w (ReadsConf b c (confP s) w) := by
  have H := hid h
  clear h
  obtain ⟨x1, s1, e1⟩ : ∃ x t, numP s = (x, t) := ⟨_, _, rfl⟩
  obtain ⟨x2, s2, e2⟩ : ∃ x t, numP s1 = (x, t) := ⟨_, _, rfl⟩
  obtain ⟨x3, s3, e3⟩ : ∃ x t, cntP s2 = (x, t) := ⟨_, _, rfl⟩
  obtain ⟨x4, s4, e4⟩ : ∃ x t, cntP s3 = (x, t) := ⟨_, _, rfl⟩
  obtain ⟨x5, s5, e5⟩ : ∃ x t, manyP (manyP numP x4.toNat) x3.toNat s4 = (x, t) := ⟨_, _, rfl⟩
  obtain ⟨x6, s6, e6⟩ : ∃ x t, manyP domP x4.toNat s5 = (x, t) := ⟨_, _, rfl⟩
  have c3 : x3 ≤ 40000 := by have := cntP_le s2; rw [e3] at this; exact this
  have c4 : x4 ≤ 40000 := by have := cntP_le s3; rw [e4] at this; exact this
  have n4 : s4.wrong = false → 0 ≤ x4 := by have := @cnt_nonneg s3; rw [e4] at this; exact this
  have n3 : s4.wrong = false → 0 ≤ x3 := fun h => by
    have h1 := canon_cnt s3
    rw [e4] at h1
    have := @cnt_nonneg s2; rw [e3] at this; exact this (h1 h).1
  have n5 : s5.wrong = false → 0 ≤ x4 := fun h => n4 (by
    have := @manyP_right _ (manyP numP x4.toNat) x3.toNat s4
    rw [e5] at this; exact this h)
  rw [confP_of e1 e2 e3 e4 e5 e6]
  have E1 := hid e1
  have E2 := hid e2
  have E3 := hid e3
  have E4 := hid e4
  have E5 := hid e5
  have E6 := hid e6
  have HC := hid (And.intro c3 (And.intro c4 (And.intro n3 (And.intro n4 n5))))
  clear e1 e2 e3 e4 e5 e6 c3 c4 n3 n4 n5
  go_enter Tryz.func39, Tryz.ntmps39
  go_upto_region 1 with (fail)
  refine wp_forget (fun v => Sr b c s v ∧ Two b c w v ∧ v.heap[w.heap.size]? = some (.cells #[.pointer (some ⟨b, 0, none⟩)] 84 (0, 0)) ∧ v.heap[w.heap.size + 1]? = some (confO (.int .i64 0) (.int .i64 0) (.slice none 0 0) (.slice none 0 0))) ⟨H.out.ext (by repeat (first | exact Ext.refl _ | assumption | refine Ext.more ?_ _ | refine Ext.drew ?_ | refine Ext.drewN ?_ _ | refine Ext.alloc ?_ _ | refine Ext.setCell ?_ (by simp; try omega) _ | refine Ext.trans ?_ (by assumption))), Two.of_ext (by repeat (first | exact Ext.refl _ | assumption | refine Ext.more ?_ _ | refine Ext.drew ?_ | refine Ext.drewN ?_ _ | refine Ext.alloc ?_ _ | refine Ext.setCell ?_ (by simp; try omega) _ | refine Ext.trans ?_ (by assumption))), block_ext (Ext.alloc (Ext.refl _) _) (heap_alloc_new w _), heap_new2 w _ _⟩ ?_
  rintro v ⟨hs0, ht0, hA, hB⟩
  have HS0 := hid (hs0.ext (Ext.drew (Ext.refl v)))
  have HT0 := hid (ht0.ext (Ext.drew (Ext.refl v)))
  have HA : Hid (v.drew.heap[w.heap.size]? = some (.cells #[.pointer (some ⟨b, 0, none⟩)] 84 (0, 0))) := hA
  have HB : Hid (v.drew.heap[w.heap.size + 1]? = some (confO (.int .i64 0) (.int .i64 0) (.slice none 0 0) (.slice none 0 0))) := hB
  clear hs0 ht0 hA hB
  refine wp_meet (ConfM1 b c v.drew w.heap.size (w.heap.size + 1) x1 x2 s2) ?_ ?_
  · refine wp_region_T 6 1 (fun u => u.cell? ⟨w.heap.size, 0, none⟩ = some (.pointer (some ⟨b, 0, none⟩))) (by kernel_rfl) (by kernel_rfl) ?_
    generalize v.drew = v0 at *
    have HSS := blk_cell HA.out 0
    have HV0 := hid (Two.refl b c v0)
    have HL : Hid (w.heap.size < v0.heap.size ∧ b < w.heap.size ∧ c < w.heap.size) := ⟨lt_of_block HA.out, H.out.lt.1, H.out.lt.2⟩
    simp only [List.getElem?_toArray, List.getElem?_cons_zero] at HSS
    refine wpT_take 0 (v := ?v19) rfl (by kernel_rfl) (by kernel_rfl) (by kernel_rfl) (by kernel_rfl) (by intro _ _ _ h; first | exact h | (obtain ⟨h, _⟩ := h; cases h)) (by rfl) HSS ?hy19 ?_
    case hy19 => (intro u hu; go_simp; first | done | (with_reducible rfl))
    (try simp only [Act.put, List.getElem_toArray, List.getElem_cons_zero, List.getElem_cons_succ, List.setIfInBounds_toArray, List.set_cons_zero, List.set_cons_succ])
    refine wpT_take 2 (v := ?v20) rfl (by kernel_rfl) (by kernel_rfl) (by kernel_rfl) (by kernel_rfl) (by intro _ _ _ h; first | exact h | (obtain ⟨h, _⟩ := h; cases h)) (by rfl) HSS ?hy20 ?_
    case hy20 => (intro u hu; go_simp; first | done | (with_reducible rfl))
    (try simp only [Act.put, List.getElem_toArray, List.getElem_cons_zero, List.getElem_cons_succ, List.setIfInBounds_toArray, List.set_cons_zero, List.set_cons_succ])
    refine wpT_two 1 5 rfl rfl (by kernel_rfl) (by rfl) (by rfl) (fun K' hK => ?_) (fun K' hK => ?_)
    · go_simp
      refine (srNum_to E1.out HS0.out).mono ?_
      rintro e v1 ⟨rfl, hs, ht⟩
      have HS1 := hid hs
      have HV1 := hid (HV0.out.trans ht)
      have HX1 := hid (ht.cell HSS (by have := HL.out; simp; omega) (by have := HL.out; simp; omega))
      clear hs ht
      refine hK.out _ _ HX1.out ?_
      clear HSS hK K' HV0
      have HSS := HX1.out
      clear HX1
      (try simp only [Act.put, List.setIfInBounds_toArray, List.set_cons_zero, List.set_cons_succ])
      refine wpT_two 3 5 rfl rfl (by kernel_rfl) (by rfl) (by rfl) (fun K' hK => ?_) (fun K' hK => ?_)
      · go_simp
        refine (srNum_to E2.out HS1.out).mono ?_
        rintro e v2 ⟨rfl, hs, ht⟩
        have HS2 := hid hs
        have HV2 := hid (HV1.out.trans ht)
        have HX2 := hid (ht.cell HSS (by have := HL.out; simp; omega) (by have := HL.out; simp; omega))
        clear hs ht
        refine hK.out _ _ HX2.out ?_
        clear HSS hK K' HV1
        have HSS := HX2.out
        clear HX2
        (try simp only [Act.put, List.setIfInBounds_toArray, List.set_cons_zero, List.set_cons_succ])
        refine wpT_take 4 (v := ?v21) rfl (by kernel_rfl) (by kernel_rfl) (by kernel_rfl) (by kernel_rfl) (by intro _ _ _ h; first | exact h | (obtain ⟨h, _⟩ := h; cases h)) (by rfl) HSS ?hy21 ?_
        case hy21 => (intro u hu; go_simp; first | done | (with_reducible rfl))
        (try simp only [Act.put, List.getElem_toArray, List.getElem_cons_zero, List.getElem_cons_succ, List.setIfInBounds_toArray, List.set_cons_zero, List.set_cons_succ])
        refine wpT_one 5 rfl (by kernel_rfl) (by rfl) (fun K' hK => ?_)
        go_simp
        have HS3 := hid (HS2.out.ext (Ext.alloc (Ext.refl v2) (.cells #[.int .i64 0, .int .i64 0, .slice none 0 0, .slice none 0 0] 26 (0, 0))))
        have HV3 := hid (HV2.out.ext (Ext.alloc (Ext.refl v2) (.cells #[.int .i64 0, .int .i64 0, .slice none 0 0, .slice none 0 0] 26 (0, 0))))
        have HC3 := hid (heap_alloc_new v2 (.cells #[.int .i64 0, .int .i64 0, .slice none 0 0, .slice none 0 0] 26 (0, 0)))
        obtain ⟨C, hCe⟩ : ∃ C, C = v2.heap.size := ⟨_, rfl⟩
        have HG : Hid (v0.heap.size ≤ C) := by rw [hCe]; exact HV2.out.size
        have HX3 := hid (cell_alloc (.cells #[.int .i64 0, .int .i64 0, .slice none 0 0, .slice none 0 0] 26 (0, 0)) HSS)
        refine hK.out _ _ HX3.out ?_
        clear HSS hK K' HV2
        generalize v2.alloc (.cells #[.int .i64 0, .int .i64 0, .slice none 0 0, .slice none 0 0] 26 (0, 0)) = v3 at *
        rw [← hCe] at HC3 ⊢
        clear hCe
        have HSS := HX3.out
        clear HX3
        (try simp only [Act.put, List.setIfInBounds_toArray, List.set_cons_zero, List.set_cons_succ])
        refine wpT_done (by kernel_rfl) ?_
        refine wpAny_one 6 rfl (by kernel_rfl) (by rfl) (fun K' hK => ?_)
        have hn := HC3.out
        have k0 := blk_cell hn 0
        have k1 := blk_cell hn 1
        have k2 := blk_cell hn 2
        have k3 := blk_cell hn 3
        have f0 := blk_free hn 0
        have f1 := blk_free hn 1
        have f2 := blk_free hn 2
        have f3 := blk_free hn 3
        go_simp
        refine hK.out _ _ ?_
        (try simp only [Act.put, List.setIfInBounds_toArray, List.set_cons_zero, List.set_cons_succ])
        refine wpAny_done (by kernel_rfl) ?_ _
        have hO : Only C v3 ((((v3.setCell ⟨C, 0, none⟩ (.int .i64 x1)).setCell ⟨C, 1, none⟩ (.int .i64 x2)).setCell ⟨C, 2, none⟩ (.slice none 0 0)).setCell ⟨C, 3, none⟩ (.slice none 0 0)) := ((((Only.refl _ _).setCell _).setCell _).setCell _).setCell _
        exact ⟨rfl, C, _, _, _, _, _, _, _, _, _, _, _, _, _, _, _, _, _, _, _, _, _, _, _, rfl, HS3.out.only hO (by have := HG.out; have := HL.out; omega) (by have := HG.out; have := HL.out; omega), HV3.out.only hO HG.out, sets4 hn _ _ _ _, HG.out⟩
      · go_simp
        have HS2 := hid (HS1.out.ext (Ext.alloc (Ext.refl v1) (.cells #[.int .i64 0, .int .i64 0, .slice none 0 0, .slice none 0 0] 26 (0, 0))))
        have HV2 := hid (HV1.out.ext (Ext.alloc (Ext.refl v1) (.cells #[.int .i64 0, .int .i64 0, .slice none 0 0, .slice none 0 0] 26 (0, 0))))
        have HC2 := hid (heap_alloc_new v1 (.cells #[.int .i64 0, .int .i64 0, .slice none 0 0, .slice none 0 0] 26 (0, 0)))
        obtain ⟨C, hCe⟩ : ∃ C, C = v1.heap.size := ⟨_, rfl⟩
        have HG : Hid (v0.heap.size ≤ C) := by rw [hCe]; exact HV1.out.size
        have HX2 := hid (cell_alloc (.cells #[.int .i64 0, .int .i64 0, .slice none 0 0, .slice none 0 0] 26 (0, 0)) HSS)
        refine hK.out _ _ HX2.out ?_
        clear HSS hK K' HV1
        generalize v1.alloc (.cells #[.int .i64 0, .int .i64 0, .slice none 0 0, .slice none 0 0] 26 (0, 0)) = v2 at *
        rw [← hCe] at HC2 ⊢
        clear hCe
        have HSS := HX2.out
        clear HX2
        (try simp only [Act.put, List.setIfInBounds_toArray, List.set_cons_zero, List.set_cons_succ])
        refine wpT_one 3 rfl (by kernel_rfl) (by rfl) (fun K' hK => ?_)
        go_simp
        refine (srNum_to E2.out HS2.out).mono ?_
        rintro e v3 ⟨rfl, hs, ht⟩
        have HS3 := hid hs
        have HV3 := hid (HV2.out.trans ht)
        have HC3 := hid (ht.blk HC2.out (by have := HG.out; have := HL.out; omega) (by have := HG.out; have := HL.out; omega))
        clear HC2
        have HX3 := hid (ht.cell HSS (by have := HL.out; simp; omega) (by have := HL.out; simp; omega))
        clear hs ht
        refine hK.out _ _ HX3.out ?_
        clear HSS hK K' HV2
        have HSS := HX3.out
        clear HX3
        (try simp only [Act.put, List.setIfInBounds_toArray, List.set_cons_zero, List.set_cons_succ])
        refine wpT_take 4 (v := ?v22) rfl (by kernel_rfl) (by kernel_rfl) (by kernel_rfl) (by kernel_rfl) (by intro _ _ _ h; first | exact h | (obtain ⟨h, _⟩ := h; cases h)) (by rfl) HSS ?hy22 ?_
        case hy22 => (intro u hu; go_simp; first | done | (with_reducible rfl))
        (try simp only [Act.put, List.getElem_toArray, List.getElem_cons_zero, List.getElem_cons_succ, List.setIfInBounds_toArray, List.set_cons_zero, List.set_cons_succ])
        refine wpT_done (by kernel_rfl) ?_
        refine wpAny_one 6 rfl (by kernel_rfl) (by rfl) (fun K' hK => ?_)
        have hn := HC3.out
        have k0 := blk_cell hn 0
        have k1 := blk_cell hn 1
        have k2 := blk_cell hn 2
        have k3 := blk_cell hn 3
        have f0 := blk_free hn 0
        have f1 := blk_free hn 1
        have f2 := blk_free hn 2
        have f3 := blk_free hn 3
        go_simp
        refine hK.out _ _ ?_
        (try simp only [Act.put, List.setIfInBounds_toArray, List.set_cons_zero, List.set_cons_succ])
        refine wpAny_done (by kernel_rfl) ?_ _
        have hO : Only C v3 ((((v3.setCell ⟨C, 0, none⟩ (.int .i64 x1)).setCell ⟨C, 1, none⟩ (.int .i64 x2)).setCell ⟨C, 2, none⟩ (.slice none 0 0)).setCell ⟨C, 3, none⟩ (.slice none 0 0)) := ((((Only.refl _ _).setCell _).setCell _).setCell _).setCell _
        exact ⟨rfl, C, _, _, _, _, _, _, _, _, _, _, _, _, _, _, _, _, _, _, _, _, _, _, _, rfl, HS3.out.only hO (by have := HG.out; have := HL.out; omega) (by have := HG.out; have := HL.out; omega), HV3.out.only hO HG.out, sets4 hn _ _ _ _, HG.out⟩
    · go_simp
      have HS1 := hid (HS0.out.ext (Ext.alloc (Ext.refl v0) (.cells #[.int .i64 0, .int .i64 0, .slice none 0 0, .slice none 0 0] 26 (0, 0))))
      have HV1 := hid (HV0.out.ext (Ext.alloc (Ext.refl v0) (.cells #[.int .i64 0, .int .i64 0, .slice none 0 0, .slice none 0 0] 26 (0, 0))))
      have HC1 := hid (heap_alloc_new v0 (.cells #[.int .i64 0, .int .i64 0, .slice none 0 0, .slice none 0 0] 26 (0, 0)))
      obtain ⟨C, hCe⟩ : ∃ C, C = v0.heap.size := ⟨_, rfl⟩
      have HG : Hid (v0.heap.size ≤ C) := by rw [hCe]; exact HV0.out.size
      have HX1 := hid (cell_alloc (.cells #[.int .i64 0, .int .i64 0, .slice none 0 0, .slice none 0 0] 26 (0, 0)) HSS)
      refine hK.out _ _ HX1.out ?_
      clear HSS hK K' HV0
      generalize v0.alloc (.cells #[.int .i64 0, .int .i64 0, .slice none 0 0, .slice none 0 0] 26 (0, 0)) = v1 at *
      rw [← hCe] at HC1 ⊢
      clear hCe
      have HSS := HX1.out
      clear HX1
      (try simp only [Act.put, List.setIfInBounds_toArray, List.set_cons_zero, List.set_cons_succ])
      refine wpT_one 1 rfl (by kernel_rfl) (by rfl) (fun K' hK => ?_)
      go_simp
      refine (srNum_to E1.out HS1.out).mono ?_
      rintro e v2 ⟨rfl, hs, ht⟩
      have HS2 := hid hs
      have HV2 := hid (HV1.out.trans ht)
      have HC2 := hid (ht.blk HC1.out (by have := HG.out; have := HL.out; omega) (by have := HG.out; have := HL.out; omega))
      clear HC1
      have HX2 := hid (ht.cell HSS (by have := HL.out; simp; omega) (by have := HL.out; simp; omega))
      clear hs ht
      refine hK.out _ _ HX2.out ?_
      clear HSS hK K' HV1
      have HSS := HX2.out
      clear HX2
      (try simp only [Act.put, List.setIfInBounds_toArray, List.set_cons_zero, List.set_cons_succ])
      refine wpT_one 3 rfl (by kernel_rfl) (by rfl) (fun K' hK => ?_)
      go_simp
      refine (srNum_to E2.out HS2.out).mono ?_
      rintro e v3 ⟨rfl, hs, ht⟩
      have HS3 := hid hs
      have HV3 := hid (HV2.out.trans ht)
      have HC3 := hid (ht.blk HC2.out (by have := HG.out; have := HL.out; omega) (by have := HG.out; have := HL.out; omega))
      clear HC2
      have HX3 := hid (ht.cell HSS (by have := HL.out; simp; omega) (by have := HL.out; simp; omega))
      clear hs ht
      refine hK.out _ _ HX3.out ?_
      clear HSS hK K' HV2
      have HSS := HX3.out
      clear HX3
      (try simp only [Act.put, List.setIfInBounds_toArray, List.set_cons_zero, List.set_cons_succ])
      refine wpT_take 4 (v := ?v23) rfl (by kernel_rfl) (by kernel_rfl) (by kernel_rfl) (by kernel_rfl) (by intro _ _ _ h; first | exact h | (obtain ⟨h, _⟩ := h; cases h)) (by rfl) HSS ?hy23 ?_
      case hy23 => (intro u hu; go_simp; first | done | (with_reducible rfl))
      (try simp only [Act.put, List.getElem_toArray, List.getElem_cons_zero, List.getElem_cons_succ, List.setIfInBounds_toArray, List.set_cons_zero, List.set_cons_succ])
      refine wpT_done (by kernel_rfl) ?_
      refine wpAny_one 6 rfl (by kernel_rfl) (by rfl) (fun K' hK => ?_)
      have hn := HC3.out
      have k0 := blk_cell hn 0
      have k1 := blk_cell hn 1
      have k2 := blk_cell hn 2
      have k3 := blk_cell hn 3
      have f0 := blk_free hn 0
      have f1 := blk_free hn 1
      have f2 := blk_free hn 2
      have f3 := blk_free hn 3
      go_simp
      refine hK.out _ _ ?_
      (try simp only [Act.put, List.setIfInBounds_toArray, List.set_cons_zero, List.set_cons_succ])
      refine wpAny_done (by kernel_rfl) ?_ _
      have hO : Only C v3 ((((v3.setCell ⟨C, 0, none⟩ (.int .i64 x1)).setCell ⟨C, 1, none⟩ (.int .i64 x2)).setCell ⟨C, 2, none⟩ (.slice none 0 0)).setCell ⟨C, 3, none⟩ (.slice none 0 0)) := ((((Only.refl _ _).setCell _).setCell _).setCell _).setCell _
      exact ⟨rfl, C, _, _, _, _, _, _, _, _, _, _, _, _, _, _, _, _, _, _, _, _, _, _, _, rfl, HS3.out.only hO (by have := HG.out; have := HL.out; omega) (by have := HG.out; have := HL.out; omega), HV3.out.only hO HG.out, sets4 hn _ _ _ _, HG.out⟩
  · refine fun a' w1 => ex_elim fun C => ex_elim fun u4 => ex_elim fun u5 => ex_elim fun u6 => ex_elim fun u7 => ex_elim fun u8 => ex_elim fun u9 => ex_elim fun u10 => ex_elim fun u11 => ex_elim fun u12 => ex_elim fun u13 => ex_elim fun u14 => ex_elim fun u15 => ex_elim fun u16 => ex_elim fun u17 => ex_elim fun u18 => ex_elim fun u19 => ex_elim fun u20 => ex_elim fun u21 => ex_elim fun u22 => ex_elim fun u23 => ex_elim fun u24 => ex_elim fun u25 => ex_elim fun u26 => ?_
    rintro ⟨rfl, hs1, ht1, hC, hCg⟩
    have hL := H.out.lt
    have hAl := lt_of_block HA.out
    have hBl := lt_of_block HB.out
    have HA1 := hid (ht1.blk HA.out (by omega) (by omega))
    have HB1 := hid (ht1.blk HB.out (by omega) (by omega))
    have HT1 := hid (HT0.out.trans ht1)
    have HS1 := hid hs1
    have HC1 := hid hC
    have HL1 : Hid (w.heap.size + 1 < C ∧ C < w1.heap.size ∧ b < w.heap.size ∧ c < w.heap.size) := ⟨by omega, lt_of_block hC, hL.1, hL.2⟩
    clear HS0 HT0 HA HB hs1 ht1 hC hCg hL hAl hBl
    clear v
    go_upto_region 2 with (fail)
    refine wp_meet (ConfM2 b c w1.drew w.heap.size (w.heap.size + 1) C x3 x4 s4) ?_ ?_
    · refine wp_region_T 5 2 (fun u => u.cell? ⟨w.heap.size, 0, none⟩ = some (.pointer (some ⟨b, 0, none⟩))) (by kernel_rfl) (by kernel_rfl) ?_
      have HS0 := hid (HS1.out.ext (Ext.drew (Ext.refl w1)))
      have HA : Hid (w1.drew.heap[w.heap.size]? = some (.cells #[.pointer (some ⟨b, 0, none⟩)] 84 (0, 0))) := HA1.out
      have HL0 : Hid (w1.heap.size = w1.drew.heap.size) := rfl
      generalize w1.drew = v0 at *
      have HSS := blk_cell HA.out 0
      have HV0 := hid (Two.refl b c v0)
      have HL : Hid (w.heap.size < v0.heap.size ∧ b < w.heap.size ∧ c < w.heap.size) := ⟨lt_of_block HA.out, H.out.lt.1, H.out.lt.2⟩
      simp only [List.getElem?_toArray, List.getElem?_cons_zero] at HSS
      refine wpT_take 0 (v := ?v24) rfl (by kernel_rfl) (by kernel_rfl) (by kernel_rfl) (by kernel_rfl) (by intro _ _ _ h; first | exact h | (obtain ⟨h, _⟩ := h; cases h)) (by rfl) HSS ?hy24 ?_
      case hy24 => (intro u hu; go_simp; first | done | (with_reducible rfl))
      (try simp only [Act.put, List.getElem_toArray, List.getElem_cons_zero, List.getElem_cons_succ, List.setIfInBounds_toArray, List.set_cons_zero, List.set_cons_succ])
      refine wpT_take 2 (v := ?v25) rfl (by kernel_rfl) (by kernel_rfl) (by kernel_rfl) (by kernel_rfl) (by intro _ _ _ h; first | exact h | (obtain ⟨h, _⟩ := h; cases h)) (by rfl) HSS ?hy25 ?_
      case hy25 => (intro u hu; go_simp; first | done | (with_reducible rfl))
      (try simp only [Act.put, List.getElem_toArray, List.getElem_cons_zero, List.getElem_cons_succ, List.setIfInBounds_toArray, List.set_cons_zero, List.set_cons_succ])
      refine wpT_two 1 4 rfl rfl (by kernel_rfl) (by rfl) (by rfl) (fun K' hK => ?_) (fun K' hK => ?_)
      · go_simp
        refine (srCount_to E3.out HS0.out).mono ?_
        rintro e v1 ⟨rfl, hs, ht⟩
        have HS1 := hid hs
        have HV1 := hid (HV0.out.trans ht)
        have HX1 := hid (ht.cell HSS (by have := HL.out; simp; omega) (by have := HL.out; simp; omega))
        clear hs ht
        refine hK.out _ _ HX1.out ?_
        clear HSS hK K' HV0
        have HSS := HX1.out
        clear HX1
        (try simp only [Act.put, List.setIfInBounds_toArray, List.set_cons_zero, List.set_cons_succ])
        refine wpT_two 3 4 rfl rfl (by kernel_rfl) (by rfl) (by rfl) (fun K' hK => ?_) (fun K' hK => ?_)
        · go_simp
          refine (srCount_to E4.out HS1.out).mono ?_
          rintro e v2 ⟨rfl, hs, ht⟩
          have HS2 := hid hs
          have HV2 := hid (HV1.out.trans ht)
          have HX2 := hid (ht.cell HSS (by have := HL.out; simp; omega) (by have := HL.out; simp; omega))
          clear hs ht
          refine hK.out _ _ HX2.out ?_
          clear HSS hK K' HV1
          have HSS := HX2.out
          clear HX2
          (try simp only [Act.put, List.setIfInBounds_toArray, List.set_cons_zero, List.set_cons_succ])
          refine wpT_one 4 rfl (by kernel_rfl) (by rfl) (fun K' hK => ?_)
          go_simp
          have HS3 := hid (HS2.out.ext (Ext.alloc (Ext.refl v2) (.cells #[.int .i64 0] 3 (0, 0))))
          have HV3 := hid (HV2.out.ext (Ext.alloc (Ext.refl v2) (.cells #[.int .i64 0] 3 (0, 0))))
          have HC3 := hid (heap_alloc_new v2 (.cells #[.int .i64 0] 3 (0, 0)))
          obtain ⟨D, hCe⟩ : ∃ C, C = v2.heap.size := ⟨_, rfl⟩
          have HG : Hid (v0.heap.size ≤ D) := by rw [hCe]; exact HV2.out.size
          have HX3 := hid (cell_alloc (.cells #[.int .i64 0] 3 (0, 0)) HSS)
          refine hK.out _ _ HX3.out ?_
          clear HSS hK K' HV2
          generalize v2.alloc (.cells #[.int .i64 0] 3 (0, 0)) = v3 at *
          rw [← hCe] at HC3 ⊢
          clear hCe
          have HSS := HX3.out
          clear HX3
          (try simp only [Act.put, List.setIfInBounds_toArray, List.set_cons_zero, List.set_cons_succ])
          refine wpT_done (by kernel_rfl) ?_
          refine wpAny_one 5 rfl (by kernel_rfl) (by rfl) (fun K' hK => ?_)
          go_simp
          refine hK.out _ _ ?_
          (try simp only [Act.put, List.setIfInBounds_toArray, List.set_cons_zero, List.set_cons_succ])
          clear hK K'
          refine wpAny_one 6 rfl (by kernel_rfl) (by rfl) (fun K' hK => ?_)
          have hn := HC3.out
          have k0 := blk_cell hn 0
          have f0 := blk_free hn 0
          go_simp
          refine hK.out _ _ ?_
          (try simp only [Act.put, List.setIfInBounds_toArray, List.set_cons_zero, List.set_cons_succ])
          refine wpAny_done (by kernel_rfl) ?_ _
          have hO : Only D v3 (v3.setCell ⟨D, 0, none⟩ (.int .i64 x4)) := (Only.refl _ _).setCell _
          exact ⟨rfl, D, _, _, _, _, _, _, _, _, _, _, _, _, _, _, _, _, _, _, _, _, _, rfl, HS3.out.only hO (by have := HG.out; have := HL.out; omega) (by have := HG.out; have := HL.out; omega), HV3.out.only hO HG.out, one_setCell hn, HG.out⟩
        · go_simp
          have HS2 := hid (HS1.out.ext (Ext.alloc (Ext.refl v1) (.cells #[.int .i64 0] 3 (0, 0))))
          have HV2 := hid (HV1.out.ext (Ext.alloc (Ext.refl v1) (.cells #[.int .i64 0] 3 (0, 0))))
          have HC2 := hid (heap_alloc_new v1 (.cells #[.int .i64 0] 3 (0, 0)))
          obtain ⟨D, hCe⟩ : ∃ C, C = v1.heap.size := ⟨_, rfl⟩
          have HG : Hid (v0.heap.size ≤ D) := by rw [hCe]; exact HV1.out.size
          have HX2 := hid (cell_alloc (.cells #[.int .i64 0] 3 (0, 0)) HSS)
          refine hK.out _ _ HX2.out ?_
          clear HSS hK K' HV1
          generalize v1.alloc (.cells #[.int .i64 0] 3 (0, 0)) = v2 at *
          rw [← hCe] at HC2 ⊢
          clear hCe
          have HSS := HX2.out
          clear HX2
          (try simp only [Act.put, List.setIfInBounds_toArray, List.set_cons_zero, List.set_cons_succ])
          refine wpT_one 3 rfl (by kernel_rfl) (by rfl) (fun K' hK => ?_)
          go_simp
          refine (srCount_to E4.out HS2.out).mono ?_
          rintro e v3 ⟨rfl, hs, ht⟩
          have HS3 := hid hs
          have HV3 := hid (HV2.out.trans ht)
          have HC3 := hid (ht.blk HC2.out (by have := HG.out; have := HL.out; omega) (by have := HG.out; have := HL.out; omega))
          clear HC2
          have HX3 := hid (ht.cell HSS (by have := HL.out; simp; omega) (by have := HL.out; simp; omega))
          clear hs ht
          refine hK.out _ _ HX3.out ?_
          clear HSS hK K' HV2
          have HSS := HX3.out
          clear HX3
          (try simp only [Act.put, List.setIfInBounds_toArray, List.set_cons_zero, List.set_cons_succ])
          refine wpT_done (by kernel_rfl) ?_
          refine wpAny_one 5 rfl (by kernel_rfl) (by rfl) (fun K' hK => ?_)
          go_simp
          refine hK.out _ _ ?_
          (try simp only [Act.put, List.setIfInBounds_toArray, List.set_cons_zero, List.set_cons_succ])
          clear hK K'
          refine wpAny_one 6 rfl (by kernel_rfl) (by rfl) (fun K' hK => ?_)
          have hn := HC3.out
          have k0 := blk_cell hn 0
          have f0 := blk_free hn 0
          go_simp
          refine hK.out _ _ ?_
          (try simp only [Act.put, List.setIfInBounds_toArray, List.set_cons_zero, List.set_cons_succ])
          refine wpAny_done (by kernel_rfl) ?_ _
          have hO : Only D v3 (v3.setCell ⟨D, 0, none⟩ (.int .i64 x4)) := (Only.refl _ _).setCell _
          exact ⟨rfl, D, _, _, _, _, _, _, _, _, _, _, _, _, _, _, _, _, _, _, _, _, _, rfl, HS3.out.only hO (by have := HG.out; have := HL.out; omega) (by have := HG.out; have := HL.out; omega), HV3.out.only hO HG.out, one_setCell hn, HG.out⟩
      · go_simp
        have HS1 := hid (HS0.out.ext (Ext.alloc (Ext.refl v0) (.cells #[.int .i64 0] 3 (0, 0))))
        have HV1 := hid (HV0.out.ext (Ext.alloc (Ext.refl v0) (.cells #[.int .i64 0] 3 (0, 0))))
        have HC1 := hid (heap_alloc_new v0 (.cells #[.int .i64 0] 3 (0, 0)))
        obtain ⟨D, hCe⟩ : ∃ C, C = v0.heap.size := ⟨_, rfl⟩
        have HG : Hid (v0.heap.size ≤ D) := by rw [hCe]; exact HV0.out.size
        have HX1 := hid (cell_alloc (.cells #[.int .i64 0] 3 (0, 0)) HSS)
        refine hK.out _ _ HX1.out ?_
        clear HSS hK K' HV0
        generalize v0.alloc (.cells #[.int .i64 0] 3 (0, 0)) = v1 at *
        rw [← hCe] at HC1 ⊢
        clear hCe
        have HSS := HX1.out
        clear HX1
        (try simp only [Act.put, List.setIfInBounds_toArray, List.set_cons_zero, List.set_cons_succ])
        refine wpT_one 1 rfl (by kernel_rfl) (by rfl) (fun K' hK => ?_)
        go_simp
        refine (srCount_to E3.out HS1.out).mono ?_
        rintro e v2 ⟨rfl, hs, ht⟩
        have HS2 := hid hs
        have HV2 := hid (HV1.out.trans ht)
        have HC2 := hid (ht.blk HC1.out (by have := HG.out; have := HL.out; omega) (by have := HG.out; have := HL.out; omega))
        clear HC1
        have HX2 := hid (ht.cell HSS (by have := HL.out; simp; omega) (by have := HL.out; simp; omega))
        clear hs ht
        refine hK.out _ _ HX2.out ?_
        clear HSS hK K' HV1
        have HSS := HX2.out
        clear HX2
        (try simp only [Act.put, List.setIfInBounds_toArray, List.set_cons_zero, List.set_cons_succ])
        refine wpT_one 3 rfl (by kernel_rfl) (by rfl) (fun K' hK => ?_)
        go_simp
        refine (srCount_to E4.out HS2.out).mono ?_
        rintro e v3 ⟨rfl, hs, ht⟩
        have HS3 := hid hs
        have HV3 := hid (HV2.out.trans ht)
        have HC3 := hid (ht.blk HC2.out (by have := HG.out; have := HL.out; omega) (by have := HG.out; have := HL.out; omega))
        clear HC2
        have HX3 := hid (ht.cell HSS (by have := HL.out; simp; omega) (by have := HL.out; simp; omega))
        clear hs ht
        refine hK.out _ _ HX3.out ?_
        clear HSS hK K' HV2
        have HSS := HX3.out
        clear HX3
        (try simp only [Act.put, List.setIfInBounds_toArray, List.set_cons_zero, List.set_cons_succ])
        refine wpT_done (by kernel_rfl) ?_
        refine wpAny_one 5 rfl (by kernel_rfl) (by rfl) (fun K' hK => ?_)
        go_simp
        refine hK.out _ _ ?_
        (try simp only [Act.put, List.setIfInBounds_toArray, List.set_cons_zero, List.set_cons_succ])
        clear hK K'
        refine wpAny_one 6 rfl (by kernel_rfl) (by rfl) (fun K' hK => ?_)
        have hn := HC3.out
        have k0 := blk_cell hn 0
        have f0 := blk_free hn 0
        go_simp
        refine hK.out _ _ ?_
        (try simp only [Act.put, List.setIfInBounds_toArray, List.set_cons_zero, List.set_cons_succ])
        refine wpAny_done (by kernel_rfl) ?_ _
        have hO : Only D v3 (v3.setCell ⟨D, 0, none⟩ (.int .i64 x4)) := (Only.refl _ _).setCell _
        exact ⟨rfl, D, _, _, _, _, _, _, _, _, _, _, _, _, _, _, _, _, _, _, _, _, _, rfl, HS3.out.only hO (by have := HG.out; have := HL.out; omega) (by have := HG.out; have := HL.out; omega), HV3.out.only hO HG.out, one_setCell hn, HG.out⟩
    · refine fun a' w2 => ex_elim fun D => ex_elim fun u6 => ex_elim fun u7 => ex_elim fun u8 => ex_elim fun u9 => ex_elim fun u10 => ex_elim fun u11 => ex_elim fun u12 => ex_elim fun u13 => ex_elim fun u14 => ex_elim fun u15 => ex_elim fun u16 => ex_elim fun u17 => ex_elim fun u18 => ex_elim fun u19 => ex_elim fun u20 => ex_elim fun u21 => ex_elim fun u22 => ex_elim fun u23 => ex_elim fun u24 => ex_elim fun u25 => ex_elim fun u26 => ?_
      rintro ⟨rfl, hs2, ht2, hD, hDg⟩
      have hL := HL1.out
      have hDg' : w1.heap.size ≤ D := hDg
      have ht2' : Two b c w1 w2 := (Two.of_ext (Ext.drew (Ext.refl w1))).trans ht2
      have HN : Hid (ConfN b c w.heap.size (w.heap.size + 1) C D w) := ⟨rfl, by omega, by omega, by omega, by omega, by omega⟩
      have HF2 : Hid (ConfF b c w.heap.size (w.heap.size + 1) C D s4 x1 x2 x4 (.slice none 0 0) (.slice none 0 0) w w2) := ⟨hs2, HT1.out.trans ht2', ht2'.blk HC1.out (by omega) (by omega), ht2'.blk HA1.out (by omega) (by omega), ht2'.blk HB1.out (by omega) (by omega), hD⟩
      clear HA1 HB1 HC1 HT1 HS1 HL1 hs2 ht2 ht2' hD hDg hDg' hL
      clear w1
      have hq := manyQ_any b c w.heap.size D x4 s4 x3 w2 HF2.out.sr (blk_cell HF2.out.ab 0) (blk_cell HF2.out.db 0) (by have := HN.out.h5; have := HN.out.h6; omega) (by have := HN.out.h2; have := HN.out.h3; have := HN.out.h4; have := HN.out.h5; have := HN.out.h6; omega) HC.out.2.2.2.1 HC.out.2.1 HC.out.2.2.1 HC.out.1
      rw [E5.out] at hq
      have HQ : Hid (Calls _ _ _ w2 (fun e w3 => ∃ pp cp, e = .returned (.slice pp x5.length cp) ∧ w3.cell? ⟨C, 2, none⟩ = some (.slice none 0 0) ∧ w3.frozen? ⟨C, 2, none⟩ = false ∧ Hid (ConfF b c w.heap.size (w.heap.size + 1) C D s5 x1 x2 x4 (.slice pp x5.length cp) (.slice none 0 0) w (w3.setCell ⟨C, 2, none⟩ (.slice pp x5.length cp)) ∧ Rowed 89 1 ElR 0 (w3.setCell ⟨C, 2, none⟩ (.slice pp x5.length cp)) (.slice pp x5.length cp) x5))) := hq.mono fun e w3 ⟨v, he, hr, hs, ht⟩ => by
        obtain ⟨pp, cp, rfl, -, -⟩ := hr.shape
        have hf := HF2.out.step HN.out hs ht
        have hk := hf.keptC (good := [89, 3]) (by decide) 2 (.slice pp x5.length cp)
        exact ⟨pp, cp, he, blk_cell hf.cb 2, blk_free hf.cb 2, hf.putP HN.out _, (hr.weak (Nat.zero_le _)).kept hk (by simp) (ElR.kept (hk.sub (by simp)))⟩
      clear hq
      have kA := blk_cell HF2.out.ab 0
      simp only [List.getElem?_toArray, List.getElem?_cons_zero] at kA
      go_upto_region 4 with (go_at_call 74; refine HQ.out.mono ?_; rintro e w3 ⟨pp, cp, rfl, q0, g0, HK⟩)
      refine wp_forget (fun y => ConfF b c w.heap.size (w.heap.size + 1) C D s5 x1 x2 x4 (.slice pp x5.length cp) (.slice none 0 0) w y ∧ Rowed 89 1 ElR 0 y (.slice pp x5.length cp) x5) HK.out ?_
      rintro w4 ⟨hf4, hr4⟩
      have HF4 := hid hf4
      have HR4 := hid hr4
      clear hf4 hr4 HK q0 g0 HQ kA HF2
      clear w2
      have hq := manyD_any b c s5 x4 w4 HF4.out.sr HC.out.2.2.2.2 HC.out.2.1
      rw [E6.out] at hq
      have HQ : Hid (Calls _ _ _ w4 (fun e w3 => ∃ pd cd, e = .returned (.slice pd x6.length cd) ∧ w3.cell? ⟨C, 3, none⟩ = some (.slice none 0 0) ∧ w3.frozen? ⟨C, 3, none⟩ = false ∧ Hid (ConfF b c w.heap.size (w.heap.size + 1) C D s6 x1 x2 x4 (.slice pp x5.length cp) (.slice pd x6.length cd) w (w3.setCell ⟨C, 3, none⟩ (.slice pd x6.length cd)) ∧ Rowed 89 1 ElR 0 (w3.setCell ⟨C, 3, none⟩ (.slice pd x6.length cd)) (.slice pp x5.length cp) x5 ∧ Rowed 94 10 ElD 0 (w3.setCell ⟨C, 3, none⟩ (.slice pd x6.length cd)) (.slice pd x6.length cd) x6))) := hq.mono fun e w3 ⟨v, he, hr, hs, ht⟩ => by
        obtain ⟨pd, cd, rfl, -, -⟩ := hr.shape
        have hf := HF4.out.step HN.out hs ht
        have hk0 := HF4.out.sr.kept (good := [89, 3]) ht (by decide)
        have hk := hf.keptC (good := [94, 89, 3]) (by decide) 3 (.slice pd x6.length cd)
        have hk' : Kept [89, 3] w3 (w3.setCell ⟨C, 3, none⟩ (.slice pd x6.length cd)) := hk.sub (by simp)
        exact ⟨pd, cd, he, blk_cell hf.cb 3, blk_free hf.cb 3, hf.putD HN.out _, (HR4.out.kept hk0 (by simp) (ElR.kept (hk0.sub (by simp)))).kept hk' (by simp) (ElR.kept (hk'.sub (by simp))), (hr.weak (Nat.zero_le _)).kept hk (by simp) (ElD.kept (hk.sub (by simp)))⟩
      clear hq
      have kA := blk_cell HF4.out.ab 0
      have kD := blk_cell HF4.out.db 0
      simp only [List.getElem?_toArray, List.getElem?_cons_zero] at kA kD
      go_upto_region 5 with (go_at_call 77; refine HQ.out.mono ?_; rintro e w3 ⟨pd, cd, rfl, q0, g0, HK⟩)
      refine wp_forget (fun y => ConfF b c w.heap.size (w.heap.size + 1) C D s6 x1 x2 x4 (.slice pp x5.length cp) (.slice pd x6.length cd) w y ∧ Rowed 89 1 ElR 0 y (.slice pp x5.length cp) x5 ∧ Rowed 94 10 ElD 0 y (.slice pd x6.length cd) x6) HK.out ?_
      rintro w5 ⟨hf5, hr5, hd5⟩
      clear HK q0 g0 HQ kA kD HF4 HR4
      clear w4
      have hcb := hf5.cb
      have hbb := hf5.bb
      have k0 := blk_cell hcb 0
      have k1 := blk_cell hcb 1
      have k2 := blk_cell hcb 2
      have k3 := blk_cell hcb 3
      have m0 := blk_cell hbb 0
      have m1 := blk_cell hbb 1
      have m2 := blk_cell hbb 2
      have m3 := blk_cell hbb 3
      have f0 := blk_free hbb 0
      have f1 := blk_free hbb 1
      have f2 := blk_free hbb 2
      have f3 := blk_free hbb 3
      have HF5 := hid hf5
      have HR5 := hid hr5
      have HD5 := hid hd5
      clear hf5 hr5 hd5 hcb hbb
      simp only [List.getElem?_toArray, List.getElem?_cons_zero, List.getElem?_cons_succ] at k0 k1 k2 k3 m0 m1 m2 m3
      refine wp_meet (ConfM5 w5 (w.heap.size + 1) (confO (.int .i64 x1) (.int .i64 x2) (.slice pp x5.length cp) (.slice pd x6.length cd))) ?_ ?_
      · go_wp2
        exact ⟨_, _, _, _, _, _, _, _, _, _, _, _, _, _, _, _, _, _, _, _, _, _, _, _, _, _, rfl, sets4 HF5.out.bb _ _ _ _, ((((Only.refl _ _).setCell _).setCell _).setCell _).setCell _⟩
      · refine fun a' y => ex_elim fun u0 => ex_elim fun u1 => ex_elim fun u3 => ex_elim fun u4 => ex_elim fun u5 => ex_elim fun u6 => ex_elim fun u7 => ex_elim fun u8 => ex_elim fun u9 => ex_elim fun u10 => ex_elim fun u11 => ex_elim fun u12 => ex_elim fun u13 => ex_elim fun u14 => ex_elim fun u15 => ex_elim fun u16 => ex_elim fun u17 => ex_elim fun u18 => ex_elim fun u19 => ex_elim fun u20 => ex_elim fun u21 => ex_elim fun u22 => ex_elim fun u23 => ex_elim fun u24 => ex_elim fun u25 => ex_elim fun u26 => ?_
        rintro ⟨rfl, hy, hO⟩
        have hn := HN.out
        have hk := hO.kept HF5.out.bb (good := [94, 89, 3]) (by decide)
        have HG : Hid (Rowed 89 1 ElR 0 y (.slice pp x5.length cp) x5 ∧ Rowed 94 10 ElD 0 y (.slice pd x6.length cd) x6 ∧ Sr b c s6 y ∧ Two b c w y) :=
          ⟨HR5.out.kept hk (by simp) (ElR.kept (hk.sub (by simp))), HD5.out.kept hk (by simp) (ElD.kept (hk.sub (by simp))), HF5.out.sr.only hO (by have := hn.h2; have := hn.h5; omega) (by have := hn.h2; have := hn.h6; omega), HF5.out.two.only hO (by omega)⟩
        clear k0 k1 k2 k3 m0 m1 m2 m3 f0 f1 f2 f3 hO hk hn
        have k0 := blk_cell hy 0
        have k1 := blk_cell hy 1
        have k2 := blk_cell hy 2
        have k3 := blk_cell hy 3
        simp only [List.getElem?_toArray, List.getElem?_cons_zero, List.getElem?_cons_succ] at k0 k1 k2 k3
        go_wp2
        exact bodyPost_ret (v := .agg #[.int .i64 x1, .int .i64 x2, .slice pp x5.length cp, .slice pd x6.length cd]) (by simp [results, Tryz.results39, go_sem, k0, k1, k2, k3]) rfl ⟨pp, cp, pd, cd, rfl, HG.out⟩
end Go.Proofs.YtmpgeabfogcblaaGreat

namespace Go.Proofs.YtmpgeabfogcblaaGreat
open Go.RowKit
set_option linter.unusedSimpArgs false

def ElA (_ : World) (cs : List Value) (x : Axn) : Prop := cs = [.int .i64 x.op, .int .i64 x.a, .int .i64 x.b]
def ElV (_ : World) (cs : List Value) (x : Arv) : Prop := cs = [.int .i64 x.tick, .int .i64 x.obj]
theorem ElA.kept {w w' : World} (_ : Kept [] w w') (cs : List Value) (x : Axn) (h : ElA w cs x) : ElA w' cs x := h
theorem ElV.kept {w w' : World} (_ : Kept [] w w') (cs : List Value) (x : Arv) (h : ElV w cs x) : ElV w' cs x := h
/-- An element that is a row of actions; of arrivals. -/
def ElS (w : World) (cs : List Value) (l : List Axn) : Prop := ∃ v, cs = [v] ∧ Rowed 43 3 ElA 0 w v l
def ElW (w : World) (cs : List Value) (l : List Arv) : Prop := ∃ v, cs = [v] ∧ Rowed 46 2 ElV 0 w v l
theorem ElS.kept {w w' : World} (k : Kept [43] w w') (cs : List Value) (l : List Axn) (h : ElS w cs l) : ElS w' cs l := by
  obtain ⟨v, e, hr⟩ := h
  exact ⟨v, e, hr.kept k (by simp) fun _ _ h => h⟩
theorem ElW.kept {w w' : World} (k : Kept [46] w w') (cs : List Value) (l : List Arv) (h : ElW w cs l) : ElW w' cs l := by
  obtain ⟨v, e, hr⟩ := h
  exact ⟨v, e, hr.kept k (by simp) fun _ _ h => h⟩
theorem infoA : (Tryz.prog.info? 43).map (fun i => (i.zero, i.size, i.bytes)) = some (some (.agg #[.int .i64 0, .int .i64 0, .int .i64 0]), 3, 24) := by kernel_rfl
theorem infoV : (Tryz.prog.info? 46).map (fun i => (i.zero, i.size, i.bytes)) = some (some (.agg #[.int .i64 0, .int .i64 0]), 2, 16) := by kernel_rfl
theorem infoAs : (Tryz.prog.info? 44).map (fun i => (i.zero, i.size, i.bytes)) = some (some (.slice none 0 0), 1, 24) := by kernel_rfl
theorem infoVs : (Tryz.prog.info? 47).map (fun i => (i.zero, i.size, i.bytes)) = some (some (.slice none 0 0), 1, 24) := by kernel_rfl
theorem sets3 {w : World} {n : Nat} {T : TypeId} {z0 z1 z2 : Value} (h : w.heap[n]? = some (.cells #[z0, z1, z2] T (0, 0))) (a0 a1 a2 : Value) :
    (((w.setCell ⟨n, 0, none⟩ a0).setCell ⟨n, 1, none⟩ a1).setCell ⟨n, 2, none⟩ a2).heap[n]? = some (.cells #[a0, a1, a2] T (0, 0)) := by
  have := blk_set (blk_set (blk_set h 0 a0) 1 a1) 2 a2
  simpa using this
theorem sets2 {w : World} {n : Nat} {T : TypeId} {z0 z1 : Value} (h : w.heap[n]? = some (.cells #[z0, z1] T (0, 0))) (a0 a1 : Value) :
    ((w.setCell ⟨n, 0, none⟩ a0).setCell ⟨n, 1, none⟩ a1).heap[n]? = some (.cells #[a0, a1] T (0, 0)) := by
  have := blk_set (blk_set h 0 a0) 1 a1
  simpa using this
theorem axnP_of {s s1 s2 s3 : Rb} {x1 x2 x3 : Int} (e1 : numP s = (x1, s1)) (e2 : numP s1 = (x2, s2)) (e3 : numP s2 = (x3, s3)) : axnP s = (⟨x1, x2, x3⟩, s3) := by simp only [axnP, e1, e2, e3]
theorem arvP_of {s s1 s2 : Rb} {x1 x2 : Int} (e1 : numP s = (x1, s1)) (e2 : numP s1 = (x2, s2)) : arvP s = (⟨x1, x2⟩, s2) := by simp only [arvP, e1, e2]

set_option maxRecDepth 100000 in
set_option maxHeartbeats 4000000 in
theorem axn_any (b c A : Nat) (s : Rb) (w : World) (h : Sr b c s w) (hA : w.cell? ⟨A, 0, none⟩ = some (.pointer (some ⟨b, 0, none⟩))) (hne : A ≠ b ∧ A ≠ c) : Calls Tryz.prog 81 #[.pointer (some ⟨A, 0, none⟩)] w
    (Reads b c (.agg #[.int .i64 (axnP s).1.op, .int .i64 (axnP s).1.a, .int .i64 (axnP s).1.b]) (axnP s).2 w) := by
  have H := hid h
  have HA := hid hA
  have HNE := hid hne
  have HLA := hid (World.block_lt_of_cell? _ _ hA)
  clear h hA hne
  obtain ⟨x1, s1, e1⟩ : ∃ x t, numP s = (x, t) := ⟨_, _, rfl⟩
  obtain ⟨x2, s2, e2⟩ : ∃ x t, numP s1 = (x, t) := ⟨_, _, rfl⟩
  obtain ⟨x3, s3, e3⟩ : ∃ x t, numP s2 = (x, t) := ⟨_, _, rfl⟩
  rw [axnP_of e1 e2 e3]
  have E1 := hid e1
  have E2 := hid e2
  have E3 := hid e3
  clear e1 e2 e3
  go_enter Tryz.func81, Tryz.ntmps81
  go_upto_region 1 with (fail)
  refine wp_forget (fun v => Sr b c s v ∧ Two b c w v ∧ v.heap[w.heap.size]? = some (.cells #[.int .i64 0, .int .i64 0, .int .i64 0] 43 (0, 0)) ∧ v.cell? ⟨A, 0, none⟩ = some (.pointer (some ⟨b, 0, none⟩))) ⟨H.out.ext (by repeat (first | exact Ext.refl _ | assumption | refine Ext.more ?_ _ | refine Ext.drew ?_ | refine Ext.drewN ?_ _ | refine Ext.alloc ?_ _ | refine Ext.setCell ?_ (by simp; try omega) _ | refine Ext.trans ?_ (by assumption))), Two.of_ext (by repeat (first | exact Ext.refl _ | assumption | refine Ext.more ?_ _ | refine Ext.drew ?_ | refine Ext.drewN ?_ _ | refine Ext.alloc ?_ _ | refine Ext.setCell ?_ (by simp; try omega) _ | refine Ext.trans ?_ (by assumption))), heap_alloc_new w _, cell_alloc _ HA.out⟩ ?_
  rintro v ⟨hs0, ht0, hn0, hc0⟩
  have HS0 := hid (hs0.ext (Ext.drew (Ext.refl v)))
  have HT0 := hid (ht0.ext (Ext.drew (Ext.refl v)))
  have HN0 : Hid (v.drew.heap[w.heap.size]? = some (.cells #[.int .i64 0, .int .i64 0, .int .i64 0] 43 (0, 0))) := hn0
  have HSS : v.drew.cell? ⟨A, 0, none⟩ = some (.pointer (some ⟨b, 0, none⟩)) := cell_drew hc0
  clear hs0 ht0 hn0 hc0
  refine wp_region_T 7 1 (fun u => u.cell? ⟨A, 0, none⟩ = some (.pointer (some ⟨b, 0, none⟩))) (by kernel_rfl) (by kernel_rfl) ?_
  generalize v.drew = v0 at *
  have HV0 := hid (Two.refl b c v0)
  refine wpT_take 0 (v := ?v26) rfl (by kernel_rfl) (by kernel_rfl) (by kernel_rfl) (by kernel_rfl) (by intro _ _ _ h; first | exact h | (obtain ⟨h, _⟩ := h; cases h)) (by rfl) HSS ?hy26 ?_
  case hy26 => (intro u hu; go_simp; first | done | (with_reducible rfl))
  (try simp only [Act.put, List.getElem_toArray, List.getElem_cons_zero, List.getElem_cons_succ, List.setIfInBounds_toArray, List.set_cons_zero, List.set_cons_succ])
  refine wpT_take 2 (v := ?v27) rfl (by kernel_rfl) (by kernel_rfl) (by kernel_rfl) (by kernel_rfl) (by intro _ _ _ h; first | exact h | (obtain ⟨h, _⟩ := h; cases h)) (by rfl) HSS ?hy27 ?_
  case hy27 => (intro u hu; go_simp; first | done | (with_reducible rfl))
  (try simp only [Act.put, List.getElem_toArray, List.getElem_cons_zero, List.getElem_cons_succ, List.setIfInBounds_toArray, List.set_cons_zero, List.set_cons_succ])
  refine wpT_take 4 (v := ?v28) rfl (by kernel_rfl) (by kernel_rfl) (by kernel_rfl) (by kernel_rfl) (by intro _ _ _ h; first | exact h | (obtain ⟨h, _⟩ := h; cases h)) (by rfl) HSS ?hy28 ?_
  case hy28 => (intro u hu; go_simp; first | done | (with_reducible rfl))
  (try simp only [Act.put, List.getElem_toArray, List.getElem_cons_zero, List.getElem_cons_succ, List.setIfInBounds_toArray, List.set_cons_zero, List.set_cons_succ])
  refine wpT_one 1 rfl (by kernel_rfl) (by rfl) (fun K' hK => ?_)
  go_simp
  refine (srNum_to E1.out HS0.out).mono ?_
  rintro e v1 ⟨rfl, hs, ht⟩
  have HS1 := hid hs
  have HV1 := hid (HV0.out.trans ht)
  have HX := hid (ht.cell HSS HNE.out.1 HNE.out.2)
  clear hs ht
  refine hK.out _ _ HX.out ?_
  clear HSS hK K' HV0
  have HSS := HX.out
  clear HX
  (try simp only [Act.put, List.setIfInBounds_toArray, List.set_cons_zero, List.set_cons_succ])
  refine wpT_one 3 rfl (by kernel_rfl) (by rfl) (fun K' hK => ?_)
  go_simp
  refine (srNum_to E2.out HS1.out).mono ?_
  rintro e v2 ⟨rfl, hs, ht⟩
  have HS2 := hid hs
  have HV2 := hid (HV1.out.trans ht)
  have HX := hid (ht.cell HSS HNE.out.1 HNE.out.2)
  clear hs ht
  refine hK.out _ _ HX.out ?_
  clear HSS hK K' HV1
  have HSS := HX.out
  clear HX
  (try simp only [Act.put, List.setIfInBounds_toArray, List.set_cons_zero, List.set_cons_succ])
  refine wpT_one 5 rfl (by kernel_rfl) (by rfl) (fun K' hK => ?_)
  go_simp
  refine (srNum_to E3.out HS2.out).mono ?_
  rintro e v3 ⟨rfl, hs, ht⟩
  have HS3 := hid hs
  have HV3 := hid (HV2.out.trans ht)
  have HX := hid (ht.cell HSS HNE.out.1 HNE.out.2)
  clear hs ht
  refine hK.out _ _ HX.out ?_
  clear HSS hK K' HV2
  have HSS := HX.out
  clear HX
  (try simp only [Act.put, List.setIfInBounds_toArray, List.set_cons_zero, List.set_cons_succ])
  refine wpT_take 6 (v := ?v29) rfl (by kernel_rfl) (by kernel_rfl) (by kernel_rfl) (by kernel_rfl) (by intro _ _ _ h; first | exact h | (obtain ⟨h, _⟩ := h; cases h)) (by rfl) HSS ?hy29 ?_
  case hy29 => (intro u hu; go_simp; first | done | (with_reducible rfl))
  (try simp only [Act.put, List.getElem_toArray, List.getElem_cons_zero, List.getElem_cons_succ, List.setIfInBounds_toArray, List.set_cons_zero, List.set_cons_succ])
  refine wpT_done (by kernel_rfl) ?_
  refine wpAny_one 7 rfl (by kernel_rfl) (by rfl) (fun K' hK => ?_)
  have hlt := H.out.lt
  have hn := HV3.out.blk HN0.out (by omega) (by omega)
  have k0 := blk_cell hn 0
  have k1 := blk_cell hn 1
  have k2 := blk_cell hn 2
  have f0 := blk_free hn 0
  have f1 := blk_free hn 1
  have f2 := blk_free hn 2
  go_simp
  refine hK.out _ _ ?_
  (try simp only [Act.put, List.setIfInBounds_toArray, List.set_cons_zero, List.set_cons_succ])
  refine wpAny_done (by kernel_rfl) ?_ _
  refine ‹∀ (a : Act) (w : World), Code.wp _ _ _ a w → _› _ _ ?_
  refine wp_forget (fun y => y.heap[w.heap.size]? = some (.cells #[.int .i64 x1, .int .i64 x2, .int .i64 x3] 43 (0, 0)) ∧ Only w.heap.size v3 y)
    ⟨sets3 hn _ _ _, (((Only.refl _ _).setCell _).setCell _).setCell _⟩ ?_
  rintro y ⟨hy, hO⟩
  have HF : Hid (Sr b c s3 y ∧ Two b c w y) := ⟨HS3.out.only hO (by omega) (by omega), (HT0.out.trans HV3.out).only hO (Nat.le_refl _)⟩
  clear k0 k1 k2 f0 f1 f2 hO hn
  have k0 := blk_cell hy 0
  have k1 := blk_cell hy 1
  have k2 := blk_cell hy 2
  simp only [List.getElem?_toArray, List.getElem?_cons_zero, List.getElem?_cons_succ] at k0 k1 k2
  go_wp2
  exact bodyPost_ret (v := .agg #[.int .i64 x1, .int .i64 x2, .int .i64 x3]) (by simp [results, Tryz.results81, go_sem, k0, k1, k2]) rfl ⟨rfl, HF.out⟩
set_option maxRecDepth 100000 in
set_option maxHeartbeats 4000000 in
theorem arv_any (b c A : Nat) (s : Rb) (w : World) (h : Sr b c s w) (hA : w.cell? ⟨A, 0, none⟩ = some (.pointer (some ⟨b, 0, none⟩))) (hne : A ≠ b ∧ A ≠ c) : Calls Tryz.prog 83 #[.pointer (some ⟨A, 0, none⟩)] w
    (Reads b c (.agg #[.int .i64 (arvP s).1.tick, .int .i64 (arvP s).1.obj]) (arvP s).2 w) := by
  have H := hid h
  have HA := hid hA
  have HNE := hid hne
  have HLA := hid (World.block_lt_of_cell? _ _ hA)
  clear h hA hne
  obtain ⟨x1, s1, e1⟩ : ∃ x t, numP s = (x, t) := ⟨_, _, rfl⟩
  obtain ⟨x2, s2, e2⟩ : ∃ x t, numP s1 = (x, t) := ⟨_, _, rfl⟩
  rw [arvP_of e1 e2]
  have E1 := hid e1
  have E2 := hid e2
  clear e1 e2
  go_enter Tryz.func83, Tryz.ntmps83
  go_upto_region 1 with (fail)
  refine wp_forget (fun v => Sr b c s v ∧ Two b c w v ∧ v.heap[w.heap.size]? = some (.cells #[.int .i64 0, .int .i64 0] 46 (0, 0)) ∧ v.cell? ⟨A, 0, none⟩ = some (.pointer (some ⟨b, 0, none⟩))) ⟨H.out.ext (by repeat (first | exact Ext.refl _ | assumption | refine Ext.more ?_ _ | refine Ext.drew ?_ | refine Ext.drewN ?_ _ | refine Ext.alloc ?_ _ | refine Ext.setCell ?_ (by simp; try omega) _ | refine Ext.trans ?_ (by assumption))), Two.of_ext (by repeat (first | exact Ext.refl _ | assumption | refine Ext.more ?_ _ | refine Ext.drew ?_ | refine Ext.drewN ?_ _ | refine Ext.alloc ?_ _ | refine Ext.setCell ?_ (by simp; try omega) _ | refine Ext.trans ?_ (by assumption))), heap_alloc_new w _, cell_alloc _ HA.out⟩ ?_
  rintro v ⟨hs0, ht0, hn0, hc0⟩
  have HS0 := hid (hs0.ext (Ext.drew (Ext.refl v)))
  have HT0 := hid (ht0.ext (Ext.drew (Ext.refl v)))
  have HN0 : Hid (v.drew.heap[w.heap.size]? = some (.cells #[.int .i64 0, .int .i64 0] 46 (0, 0))) := hn0
  have HSS : v.drew.cell? ⟨A, 0, none⟩ = some (.pointer (some ⟨b, 0, none⟩)) := cell_drew hc0
  clear hs0 ht0 hn0 hc0
  refine wp_region_T 5 1 (fun u => u.cell? ⟨A, 0, none⟩ = some (.pointer (some ⟨b, 0, none⟩))) (by kernel_rfl) (by kernel_rfl) ?_
  generalize v.drew = v0 at *
  have HV0 := hid (Two.refl b c v0)
  refine wpT_take 0 (v := ?v30) rfl (by kernel_rfl) (by kernel_rfl) (by kernel_rfl) (by kernel_rfl) (by intro _ _ _ h; first | exact h | (obtain ⟨h, _⟩ := h; cases h)) (by rfl) HSS ?hy30 ?_
  case hy30 => (intro u hu; go_simp; first | done | (with_reducible rfl))
  (try simp only [Act.put, List.getElem_toArray, List.getElem_cons_zero, List.getElem_cons_succ, List.setIfInBounds_toArray, List.set_cons_zero, List.set_cons_succ])
  refine wpT_take 2 (v := ?v31) rfl (by kernel_rfl) (by kernel_rfl) (by kernel_rfl) (by kernel_rfl) (by intro _ _ _ h; first | exact h | (obtain ⟨h, _⟩ := h; cases h)) (by rfl) HSS ?hy31 ?_
  case hy31 => (intro u hu; go_simp; first | done | (with_reducible rfl))
  (try simp only [Act.put, List.getElem_toArray, List.getElem_cons_zero, List.getElem_cons_succ, List.setIfInBounds_toArray, List.set_cons_zero, List.set_cons_succ])
  refine wpT_one 1 rfl (by kernel_rfl) (by rfl) (fun K' hK => ?_)
  go_simp
  refine (srNum_to E1.out HS0.out).mono ?_
  rintro e v1 ⟨rfl, hs, ht⟩
  have HS1 := hid hs
  have HV1 := hid (HV0.out.trans ht)
  have HX := hid (ht.cell HSS HNE.out.1 HNE.out.2)
  clear hs ht
  refine hK.out _ _ HX.out ?_
  clear HSS hK K' HV0
  have HSS := HX.out
  clear HX
  (try simp only [Act.put, List.setIfInBounds_toArray, List.set_cons_zero, List.set_cons_succ])
  refine wpT_one 3 rfl (by kernel_rfl) (by rfl) (fun K' hK => ?_)
  go_simp
  refine (srNum_to E2.out HS1.out).mono ?_
  rintro e v2 ⟨rfl, hs, ht⟩
  have HS2 := hid hs
  have HV2 := hid (HV1.out.trans ht)
  have HX := hid (ht.cell HSS HNE.out.1 HNE.out.2)
  clear hs ht
  refine hK.out _ _ HX.out ?_
  clear HSS hK K' HV1
  have HSS := HX.out
  clear HX
  (try simp only [Act.put, List.setIfInBounds_toArray, List.set_cons_zero, List.set_cons_succ])
  refine wpT_take 4 (v := ?v32) rfl (by kernel_rfl) (by kernel_rfl) (by kernel_rfl) (by kernel_rfl) (by intro _ _ _ h; first | exact h | (obtain ⟨h, _⟩ := h; cases h)) (by rfl) HSS ?hy32 ?_
  case hy32 => (intro u hu; go_simp; first | done | (with_reducible rfl))
  (try simp only [Act.put, List.getElem_toArray, List.getElem_cons_zero, List.getElem_cons_succ, List.setIfInBounds_toArray, List.set_cons_zero, List.set_cons_succ])
  refine wpT_done (by kernel_rfl) ?_
  refine wpAny_one 5 rfl (by kernel_rfl) (by rfl) (fun K' hK => ?_)
  have hlt := H.out.lt
  have hn := HV2.out.blk HN0.out (by omega) (by omega)
  have k0 := blk_cell hn 0
  have k1 := blk_cell hn 1
  have f0 := blk_free hn 0
  have f1 := blk_free hn 1
  go_simp
  refine hK.out _ _ ?_
  (try simp only [Act.put, List.setIfInBounds_toArray, List.set_cons_zero, List.set_cons_succ])
  refine wpAny_done (by kernel_rfl) ?_ _
  refine ‹∀ (a : Act) (w : World), Code.wp _ _ _ a w → _› _ _ ?_
  refine wp_forget (fun y => y.heap[w.heap.size]? = some (.cells #[.int .i64 x1, .int .i64 x2] 46 (0, 0)) ∧ Only w.heap.size v2 y)
    ⟨sets2 hn _ _, ((Only.refl _ _).setCell _).setCell _⟩ ?_
  rintro y ⟨hy, hO⟩
  have HF : Hid (Sr b c s2 y ∧ Two b c w y) := ⟨HS2.out.only hO (by omega) (by omega), (HT0.out.trans HV2.out).only hO (Nat.le_refl _)⟩
  clear k0 k1 f0 f1 hO hn
  have k0 := blk_cell hy 0
  have k1 := blk_cell hy 1
  simp only [List.getElem?_toArray, List.getElem?_cons_zero, List.getElem?_cons_succ] at k0 k1
  go_wp2
  exact bodyPost_ret (v := .agg #[.int .i64 x1, .int .i64 x2]) (by simp [results, Tryz.results83, go_sem, k0, k1]) rfl ⟨rfl, HF.out⟩
set_option maxRecDepth 100000 in
set_option maxHeartbeats 4000000 in
theorem manyA_any (b c A : Nat) (s : Rb) (cnt : Int) (w : World) (h : Sr b c s w) (hA : w.cell? ⟨A, 0, none⟩ = some (.pointer (some ⟨b, 0, none⟩))) (hne : A ≠ b ∧ A ≠ c) (h0 : s.wrong = false → 0 ≤ cnt) (hc : cnt ≤ 40000) :
    Calls Tryz.prog 80 #[.pointer (some ⟨b, 0, none⟩), .int .i64 cnt, .func (.func 81) #[] #[.pointer (some ⟨A, 0, none⟩)]] w
      (ReadsRow 43 3 ElA b c (manyP axnP cnt.toNat s) w) := by
  have HS0 := hid h
  have H0 := hid h0
  clear h h0
  have HA := hid hA
  have HNE := hid hne
  clear hA hne
  have hne := fun v w => run_neq_iface_nil (P := Tryz.prog) w 39 v Tryz.underlying32
  have hnn := fun w => run_neq_nil_nil' (P := Tryz.prog) w Tryz.underlying32
  go_enter Tryz.func80, Tryz.ntmps80
  go_wp2
  refine wp_goto 0 (ManyJ 43 3 ElA b c axnP s cnt (.func (.func 81) #[] #[.pointer (some ⟨A, 0, none⟩)]) w) (fun a' _ => cnt.toNat - lenOf (a'.tmps.getD 7 undef)) rfl ?_ ?_
  · refine fun a' w' => ex_elim fun k => ex_elim fun p => ex_elim fun cap => ex_elim fun u3 => ex_elim fun u4 => ex_elim fun u5 => ex_elim fun u8 => ex_elim fun u9 => ex_elim fun u10 => ex_elim fun u11 => ex_elim fun u12 => ex_elim fun u13 => ex_elim fun u14 => ex_elim fun u15 => ex_elim fun u16 => ex_elim fun u17 => ex_elim fun u18 => ex_elim fun u19 => ex_elim fun u20 => ex_elim fun u21 => ex_elim fun u22 => ?_
    rintro ⟨rfl, hT, hS, hR, hlen, hk⟩
    have HT := hid hT
    have HS := hid hS
    have HR := hid hR
    have HL := hid hlen
    clear hT hS hR hlen
    cases hw : (manyP axnP k s).2.wrong
    case true =>
      have HW := hid hw
      have HE := hid (manyP_stays axnP k s hw cnt.toNat hk)
      clear hw
      go_wp2_with (go_at_call 15; refine (srWrong_bad HS.out HW.out).mono ?_; rintro e w1 ⟨rfl, rfl⟩)
      simp only [Exit.jump]
      go_returns
      rw [HE.out]
      exact ⟨_, rfl, HR.out, HS.out, HT.out⟩
    have HW := hid hw
    clear hw
    have hc0 : 0 ≤ cnt := H0.out (manyP_right HW.out)
    by_cases hkc : (k : Int) = cnt
    · have l1 : ((k : Int) == cnt) = true := by simp [hkc]
      have HK : Hid (cnt.toNat = k) := by unfold Hid; omega
      clear hkc
      go_wp2_with (go_at_call 15; refine (srWrong_ok HS.out HW.out).mono ?_; rintro e w1 ⟨rfl, rfl⟩)
      simp only [Exit.jump]
      go_returns
      rw [HK.out]
      exact ⟨_, rfl, HR.out, HS.out, HT.out⟩
    · have l1 : ((k : Int) == cnt) = false := by simp [hkc]
      have hk1 : k + 1 ≤ cnt.toNat := by omega
      have HK1 : Hid (k + 1 ≤ cnt.toNat) := hk1
      have HC := hid hc
      have HQ := hid (manyP_snoc axnP k s HW.out)
      clear hkc hk1 hc hc0 hk
      go_wp2_with (first
        | (go_at_call 15; refine (srWrong_ok HS.out HW.out).mono ?_; rintro e w1 ⟨rfl, rfl⟩)
        | (go_at_call 81; refine (axn_any b c A _ _ HS.out (HT.out.cell HA.out HNE.out.1 HNE.out.2) HNE.out).mono ?_; rintro e w1 ⟨rfl, hs1, ht1⟩; have HS1 := hid hs1; have HT1 := hid ht1; have HKp := hid (HS.out.kept (good := [43]) ht1 (by decide)); clear hs1 ht1)
        | (at_builtin; refine wpList_push_row rfl (.tmp 18) (.tmp 21) 44 43 (.agg #[.int .i64 0, .int .i64 0, .int .i64 0]) 3 24 rfl Tryz.underlying44 infoA rfl (by decide) [] (axnP (manyP axnP k s).2).1 (HR.out.kept HKp.out (by simp) (ElA.kept (HKp.out.sub (by simp)))) rfl (by intro u hu; simp only [List.mem_cons, List.not_mem_nil, or_false] at hu; rcases hu with rfl | rfl | rfl <;> rfl) (by have := HL.out; have := HK1.out; have := HC.out; omega) (by decide) HS1.out (by decide) (HT.out.trans HT1.out) rfl (by decide) rfl (fun _ hk => ElA.kept hk) rfl rfl rfl ?_; intro p1 cap1 w2 hr2 hs2 ht2))
      go_step3
      rename_i Qz
      simp only [Qz, Exit.jump]
      rw [HL.out] at hr2
      rw [HL.out]
      refine ⟨trivial, ⟨k + 1, p1, cap1, _, _, _, _, _, _, _, _, _, _, _, _, _, _, _, _, _, _, rfl, ht2, by rw [HQ.out]; exact hs2, by rw [HQ.out]; exact hr2, by rw [HQ.out, List.length_append, HL.out]; rfl, HK1.out⟩, ?_⟩
      have := HK1.out
      simp [lenOf]
      omega
  · intro start
    have Start := hid start
    clear start
    go_wp2
    go_step3
    simp only [Exit.then]
    refine ‹∀ (a : Act) (w : World), Code.wp _ _ _ a w → _› _ _ ?_
    exact Start.out _ _ ⟨0, none, 0, _, _, _, _, _, _, _, _, _, _, _, _, _, _, _, _, _, _, rfl, Two.refl _ _ _, HS0.out, Rowed.nil _ _ _ _ _, rfl, Nat.zero_le _⟩

set_option maxRecDepth 100000 in
set_option maxHeartbeats 4000000 in
theorem manyV_any (b c A : Nat) (s : Rb) (cnt : Int) (w : World) (h : Sr b c s w) (hA : w.cell? ⟨A, 0, none⟩ = some (.pointer (some ⟨b, 0, none⟩))) (hne : A ≠ b ∧ A ≠ c) (h0 : s.wrong = false → 0 ≤ cnt) (hc : cnt ≤ 40000) :
    Calls Tryz.prog 82 #[.pointer (some ⟨b, 0, none⟩), .int .i64 cnt, .func (.func 83) #[] #[.pointer (some ⟨A, 0, none⟩)]] w
      (ReadsRow 46 2 ElV b c (manyP arvP cnt.toNat s) w) := by
  have HS0 := hid h
  have H0 := hid h0
  clear h h0
  have HA := hid hA
  have HNE := hid hne
  clear hA hne
  have hne := fun v w => run_neq_iface_nil (P := Tryz.prog) w 39 v Tryz.underlying32
  have hnn := fun w => run_neq_nil_nil' (P := Tryz.prog) w Tryz.underlying32
  go_enter Tryz.func82, Tryz.ntmps82
  go_wp2
  refine wp_goto 0 (ManyJ 46 2 ElV b c arvP s cnt (.func (.func 83) #[] #[.pointer (some ⟨A, 0, none⟩)]) w) (fun a' _ => cnt.toNat - lenOf (a'.tmps.getD 7 undef)) rfl ?_ ?_
  · refine fun a' w' => ex_elim fun k => ex_elim fun p => ex_elim fun cap => ex_elim fun u3 => ex_elim fun u4 => ex_elim fun u5 => ex_elim fun u8 => ex_elim fun u9 => ex_elim fun u10 => ex_elim fun u11 => ex_elim fun u12 => ex_elim fun u13 => ex_elim fun u14 => ex_elim fun u15 => ex_elim fun u16 => ex_elim fun u17 => ex_elim fun u18 => ex_elim fun u19 => ex_elim fun u20 => ex_elim fun u21 => ex_elim fun u22 => ?_
    rintro ⟨rfl, hT, hS, hR, hlen, hk⟩
    have HT := hid hT
    have HS := hid hS
    have HR := hid hR
    have HL := hid hlen
    clear hT hS hR hlen
    cases hw : (manyP arvP k s).2.wrong
    case true =>
      have HW := hid hw
      have HE := hid (manyP_stays arvP k s hw cnt.toNat hk)
      clear hw
      go_wp2_with (go_at_call 15; refine (srWrong_bad HS.out HW.out).mono ?_; rintro e w1 ⟨rfl, rfl⟩)
      simp only [Exit.jump]
      go_returns
      rw [HE.out]
      exact ⟨_, rfl, HR.out, HS.out, HT.out⟩
    have HW := hid hw
    clear hw
    have hc0 : 0 ≤ cnt := H0.out (manyP_right HW.out)
    by_cases hkc : (k : Int) = cnt
    · have l1 : ((k : Int) == cnt) = true := by simp [hkc]
      have HK : Hid (cnt.toNat = k) := by unfold Hid; omega
      clear hkc
      go_wp2_with (go_at_call 15; refine (srWrong_ok HS.out HW.out).mono ?_; rintro e w1 ⟨rfl, rfl⟩)
      simp only [Exit.jump]
      go_returns
      rw [HK.out]
      exact ⟨_, rfl, HR.out, HS.out, HT.out⟩
    · have l1 : ((k : Int) == cnt) = false := by simp [hkc]
      have hk1 : k + 1 ≤ cnt.toNat := by omega
      have HK1 : Hid (k + 1 ≤ cnt.toNat) := hk1
      have HC := hid hc
      have HQ := hid (manyP_snoc arvP k s HW.out)
      clear hkc hk1 hc hc0 hk
      go_wp2_with (first
        | (go_at_call 15; refine (srWrong_ok HS.out HW.out).mono ?_; rintro e w1 ⟨rfl, rfl⟩)
        | (go_at_call 83; refine (arv_any b c A _ _ HS.out (HT.out.cell HA.out HNE.out.1 HNE.out.2) HNE.out).mono ?_; rintro e w1 ⟨rfl, hs1, ht1⟩; have HS1 := hid hs1; have HT1 := hid ht1; have HKp := hid (HS.out.kept (good := [46]) ht1 (by decide)); clear hs1 ht1)
        | (at_builtin; refine wpList_push_row rfl (.tmp 18) (.tmp 21) 47 46 (.agg #[.int .i64 0, .int .i64 0]) 2 16 rfl Tryz.underlying47 infoV rfl (by decide) [] (arvP (manyP arvP k s).2).1 (HR.out.kept HKp.out (by simp) (ElV.kept (HKp.out.sub (by simp)))) rfl (by intro u hu; simp only [List.mem_cons, List.not_mem_nil, or_false] at hu; rcases hu with rfl | rfl <;> rfl) (by have := HL.out; have := HK1.out; have := HC.out; omega) (by decide) HS1.out (by decide) (HT.out.trans HT1.out) rfl (by decide) rfl (fun _ hk => ElV.kept hk) rfl rfl rfl ?_; intro p1 cap1 w2 hr2 hs2 ht2))
      go_step3
      rename_i Qz
      simp only [Qz, Exit.jump]
      rw [HL.out] at hr2
      rw [HL.out]
      refine ⟨trivial, ⟨k + 1, p1, cap1, _, _, _, _, _, _, _, _, _, _, _, _, _, _, _, _, _, _, rfl, ht2, by rw [HQ.out]; exact hs2, by rw [HQ.out]; exact hr2, by rw [HQ.out, List.length_append, HL.out]; rfl, HK1.out⟩, ?_⟩
      have := HK1.out
      simp [lenOf]
      omega
  · intro start
    have Start := hid start
    clear start
    go_wp2
    go_step3
    simp only [Exit.then]
    refine ‹∀ (a : Act) (w : World), Code.wp _ _ _ a w → _› _ _ ?_
    exact Start.out _ _ ⟨0, none, 0, _, _, _, _, _, _, _, _, _, _, _, _, _, _, _, _, _, _, rfl, Two.refl _ _ _, HS0.out, Rowed.nil _ _ _ _ _, rfl, Nat.zero_le _⟩

set_option maxRecDepth 100000 in
set_option maxHeartbeats 4000000 in
theorem stream_any (b c : Nat) (s : Rb) (w : World) (h : Sr b c s w) : Calls Tryz.prog 42 #[.pointer (some ⟨b, 0, none⟩)] w (ReadsRow 43 3 ElA b c (rowP axnP s) w) := by
  have H := hid h
  clear h
  go_enter Tryz.func42, Tryz.ntmps42
  go_upto_region 1 with (fail)
  refine wp_forget (fun v => Sr b c s v ∧ Two b c w v ∧ v.cell? ⟨w.heap.size, 0, none⟩ = some (.pointer (some ⟨b, 0, none⟩))) ⟨H.out.ext (by repeat (first | exact Ext.refl _ | assumption | refine Ext.more ?_ _ | refine Ext.drew ?_ | refine Ext.drewN ?_ _ | refine Ext.alloc ?_ _ | refine Ext.setCell ?_ (by simp; try omega) _ | refine Ext.trans ?_ (by assumption))), Two.of_ext (by repeat (first | exact Ext.refl _ | assumption | refine Ext.more ?_ _ | refine Ext.drew ?_ | refine Ext.drewN ?_ _ | refine Ext.alloc ?_ _ | refine Ext.setCell ?_ (by simp; try omega) _ | refine Ext.trans ?_ (by assumption))), blk_cell (heap_alloc_new w _) 0⟩ ?_
  rintro v ⟨hs0, ht0, hc0⟩
  have HS0 := hid (hs0.ext (Ext.drew (Ext.refl v)))
  have HT0 := hid (ht0.ext (Ext.drew (Ext.refl v)))
  have HSS : v.drew.cell? ⟨w.heap.size, 0, none⟩ = some (.pointer (some ⟨b, 0, none⟩)) := cell_drew hc0
  clear hs0 ht0 hc0
  refine wp_region_T 5 1 (fun u => u.cell? ⟨w.heap.size, 0, none⟩ = some (.pointer (some ⟨b, 0, none⟩))) (by kernel_rfl) (by kernel_rfl) ?_
  generalize v.drew = v0 at *
  have hlt := H.out.lt
  have HNE : Hid (w.heap.size ≠ b ∧ w.heap.size ≠ c) := ⟨by omega, by omega⟩
  refine wpT_take 0 (v := ?v33) rfl (by kernel_rfl) (by kernel_rfl) (by kernel_rfl) (by kernel_rfl) (by intro _ _ _ h; first | exact h | (obtain ⟨h, _⟩ := h; cases h)) (by rfl) HSS ?hy33 ?_
  case hy33 => (intro u hu; go_simp; first | done | (with_reducible rfl))
  (try simp only [Act.put, List.getElem_toArray, List.getElem_cons_zero, List.getElem_cons_succ, List.setIfInBounds_toArray, List.set_cons_zero, List.set_cons_succ])
  refine wpT_take 1 (v := ?v34) rfl (by kernel_rfl) (by kernel_rfl) (by kernel_rfl) (by kernel_rfl) (by intro _ _ _ h; first | exact h | (obtain ⟨h, _⟩ := h; cases h)) (by rfl) HSS ?hy34 ?_
  case hy34 => (intro u hu; go_simp; first | done | (with_reducible rfl))
  (try simp only [Act.put, List.getElem_toArray, List.getElem_cons_zero, List.getElem_cons_succ, List.setIfInBounds_toArray, List.set_cons_zero, List.set_cons_succ])
  refine wpT_take 3 (v := ?v35) rfl (by kernel_rfl) (by kernel_rfl) (by kernel_rfl) (by kernel_rfl) (by intro _ _ _ h; first | exact h | (obtain ⟨h, _⟩ := h; cases h)) (by rfl) HSS ?hy35 ?_
  case hy35 => (intro u hu; go_simp; first | done | (with_reducible rfl))
  (try simp only [Act.put, List.getElem_toArray, List.getElem_cons_zero, List.getElem_cons_succ, List.setIfInBounds_toArray, List.set_cons_zero, List.set_cons_succ])
  refine wpT_one 2 rfl (by kernel_rfl) (by rfl) (fun K' hK => ?_)
  go_simp
  refine (srCount_any b c _ _ HS0.out).mono ?_
  rintro e v1 ⟨rfl, hs, ht⟩
  have HS1 := hid hs
  have HT1 := hid (HT0.out.trans ht)
  have HX := hid (ht.cell HSS HNE.out.1 HNE.out.2)
  clear hs ht
  refine hK.out _ _ HX.out ?_
  clear HSS hK K'
  have HSS := HX.out
  clear HX
  (try simp only [Act.put, List.setIfInBounds_toArray, List.set_cons_zero, List.set_cons_succ])
  refine wpT_one 4 rfl (by kernel_rfl) (by rfl) (fun K' hK => ?_)
  go_simp
  refine (manyA_any b c w.heap.size (cntP s).2 (cntP s).1 v1 HS1.out HSS HNE.out cnt_nonneg (cntP_le s)).mono ?_
  rintro e v2 ⟨v', rfl, hr, hs, ht⟩
  have HS2 := hid hs
  have HT2 := hid (HT1.out.trans ht)
  have HR2 := hid (hr.weak HT1.out.size)
  have HX := hid (ht.cell HSS HNE.out.1 HNE.out.2)
  clear hs ht hr
  refine hK.out _ _ HX.out ?_
  clear HSS hK K' HX
  (try simp only [Act.put, List.setIfInBounds_toArray, List.set_cons_zero, List.set_cons_succ])
  refine wpT_done (by kernel_rfl) ?_
  refine wpAny_one 5 rfl (by kernel_rfl) (by rfl) (fun K' hK => ?_)
  go_simp
  refine hK.out _ _ ?_
  (try simp only [Act.put, List.setIfInBounds_toArray, List.set_cons_zero, List.set_cons_succ])
  refine wpAny_done (by kernel_rfl) ?_ _
  go_wp2
  go_returns
  exact ⟨v', rfl, HR2.out, HS2.out, HT2.out⟩
set_option maxRecDepth 100000 in
set_option maxHeartbeats 4000000 in
theorem arrivals_any (b c : Nat) (s : Rb) (w : World) (h : Sr b c s w) : Calls Tryz.prog 44 #[.pointer (some ⟨b, 0, none⟩)] w (ReadsRow 46 2 ElV b c (rowP arvP s) w) := by
  have H := hid h
  clear h
  go_enter Tryz.func44, Tryz.ntmps44
  go_upto_region 1 with (fail)
  refine wp_forget (fun v => Sr b c s v ∧ Two b c w v ∧ v.cell? ⟨w.heap.size, 0, none⟩ = some (.pointer (some ⟨b, 0, none⟩))) ⟨H.out.ext (by repeat (first | exact Ext.refl _ | assumption | refine Ext.more ?_ _ | refine Ext.drew ?_ | refine Ext.drewN ?_ _ | refine Ext.alloc ?_ _ | refine Ext.setCell ?_ (by simp; try omega) _ | refine Ext.trans ?_ (by assumption))), Two.of_ext (by repeat (first | exact Ext.refl _ | assumption | refine Ext.more ?_ _ | refine Ext.drew ?_ | refine Ext.drewN ?_ _ | refine Ext.alloc ?_ _ | refine Ext.setCell ?_ (by simp; try omega) _ | refine Ext.trans ?_ (by assumption))), blk_cell (heap_alloc_new w _) 0⟩ ?_
  rintro v ⟨hs0, ht0, hc0⟩
  have HS0 := hid (hs0.ext (Ext.drew (Ext.refl v)))
  have HT0 := hid (ht0.ext (Ext.drew (Ext.refl v)))
  have HSS : v.drew.cell? ⟨w.heap.size, 0, none⟩ = some (.pointer (some ⟨b, 0, none⟩)) := cell_drew hc0
  clear hs0 ht0 hc0
  refine wp_region_T 5 1 (fun u => u.cell? ⟨w.heap.size, 0, none⟩ = some (.pointer (some ⟨b, 0, none⟩))) (by kernel_rfl) (by kernel_rfl) ?_
  generalize v.drew = v0 at *
  have hlt := H.out.lt
  have HNE : Hid (w.heap.size ≠ b ∧ w.heap.size ≠ c) := ⟨by omega, by omega⟩
  refine wpT_take 0 (v := ?v36) rfl (by kernel_rfl) (by kernel_rfl) (by kernel_rfl) (by kernel_rfl) (by intro _ _ _ h; first | exact h | (obtain ⟨h, _⟩ := h; cases h)) (by rfl) HSS ?hy36 ?_
  case hy36 => (intro u hu; go_simp; first | done | (with_reducible rfl))
  (try simp only [Act.put, List.getElem_toArray, List.getElem_cons_zero, List.getElem_cons_succ, List.setIfInBounds_toArray, List.set_cons_zero, List.set_cons_succ])
  refine wpT_take 1 (v := ?v37) rfl (by kernel_rfl) (by kernel_rfl) (by kernel_rfl) (by kernel_rfl) (by intro _ _ _ h; first | exact h | (obtain ⟨h, _⟩ := h; cases h)) (by rfl) HSS ?hy37 ?_
  case hy37 => (intro u hu; go_simp; first | done | (with_reducible rfl))
  (try simp only [Act.put, List.getElem_toArray, List.getElem_cons_zero, List.getElem_cons_succ, List.setIfInBounds_toArray, List.set_cons_zero, List.set_cons_succ])
  refine wpT_take 3 (v := ?v38) rfl (by kernel_rfl) (by kernel_rfl) (by kernel_rfl) (by kernel_rfl) (by intro _ _ _ h; first | exact h | (obtain ⟨h, _⟩ := h; cases h)) (by rfl) HSS ?hy38 ?_
  case hy38 => (intro u hu; go_simp; first | done | (with_reducible rfl))
  (try simp only [Act.put, List.getElem_toArray, List.getElem_cons_zero, List.getElem_cons_succ, List.setIfInBounds_toArray, List.set_cons_zero, List.set_cons_succ])
  refine wpT_one 2 rfl (by kernel_rfl) (by rfl) (fun K' hK => ?_)
  go_simp
  refine (srCount_any b c _ _ HS0.out).mono ?_
  rintro e v1 ⟨rfl, hs, ht⟩
  have HS1 := hid hs
  have HT1 := hid (HT0.out.trans ht)
  have HX := hid (ht.cell HSS HNE.out.1 HNE.out.2)
  clear hs ht
  refine hK.out _ _ HX.out ?_
  clear HSS hK K'
  have HSS := HX.out
  clear HX
  (try simp only [Act.put, List.setIfInBounds_toArray, List.set_cons_zero, List.set_cons_succ])
  refine wpT_one 4 rfl (by kernel_rfl) (by rfl) (fun K' hK => ?_)
  go_simp
  refine (manyV_any b c w.heap.size (cntP s).2 (cntP s).1 v1 HS1.out HSS HNE.out cnt_nonneg (cntP_le s)).mono ?_
  rintro e v2 ⟨v', rfl, hr, hs, ht⟩
  have HS2 := hid hs
  have HT2 := hid (HT1.out.trans ht)
  have HR2 := hid (hr.weak HT1.out.size)
  have HX := hid (ht.cell HSS HNE.out.1 HNE.out.2)
  clear hs ht hr
  refine hK.out _ _ HX.out ?_
  clear HSS hK K' HX
  (try simp only [Act.put, List.setIfInBounds_toArray, List.set_cons_zero, List.set_cons_succ])
  refine wpT_done (by kernel_rfl) ?_
  refine wpAny_one 5 rfl (by kernel_rfl) (by rfl) (fun K' hK => ?_)
  go_simp
  refine hK.out _ _ ?_
  (try simp only [Act.put, List.setIfInBounds_toArray, List.set_cons_zero, List.set_cons_succ])
  refine wpAny_done (by kernel_rfl) ?_ _
  go_wp2
  go_returns
  exact ⟨v', rfl, HR2.out, HS2.out, HT2.out⟩
set_option maxRecDepth 100000 in
set_option maxHeartbeats 4000000 in
theorem manyS_any (b c : Nat) (s : Rb) (cnt : Int) (w : World) (h : Sr b c s w) (h0 : s.wrong = false → 0 ≤ cnt) (hc : cnt ≤ 40000) :
    Calls Tryz.prog 41 #[.pointer (some ⟨b, 0, none⟩), .int .i64 cnt, .func (.func 42) #[.pointer (some ⟨b, 0, none⟩)] #[]] w
      (ReadsRow 44 1 ElS b c (manyP (rowP axnP) cnt.toNat s) w) := by
  have HS0 := hid h
  have H0 := hid h0
  clear h h0
  have hne := fun v w => run_neq_iface_nil (P := Tryz.prog) w 39 v Tryz.underlying32
  have hnn := fun w => run_neq_nil_nil' (P := Tryz.prog) w Tryz.underlying32
  go_enter Tryz.func41, Tryz.ntmps41
  go_wp2
  refine wp_goto 0 (ManyJ 44 1 ElS b c (rowP axnP) s cnt (.func (.func 42) #[.pointer (some ⟨b, 0, none⟩)] #[]) w) (fun a' _ => cnt.toNat - lenOf (a'.tmps.getD 7 undef)) rfl ?_ ?_
  · refine fun a' w' => ex_elim fun k => ex_elim fun p => ex_elim fun cap => ex_elim fun u3 => ex_elim fun u4 => ex_elim fun u5 => ex_elim fun u8 => ex_elim fun u9 => ex_elim fun u10 => ex_elim fun u11 => ex_elim fun u12 => ex_elim fun u13 => ex_elim fun u14 => ex_elim fun u15 => ex_elim fun u16 => ex_elim fun u17 => ex_elim fun u18 => ex_elim fun u19 => ex_elim fun u20 => ex_elim fun u21 => ex_elim fun u22 => ?_
    rintro ⟨rfl, hT, hS, hR, hlen, hk⟩
    have HT := hid hT
    have HS := hid hS
    have HR := hid hR
    have HL := hid hlen
    clear hT hS hR hlen
    cases hw : (manyP (rowP axnP) k s).2.wrong
    case true =>
      have HW := hid hw
      have HE := hid (manyP_stays (rowP axnP) k s hw cnt.toNat hk)
      clear hw
      go_wp2_with (go_at_call 15; refine (srWrong_bad HS.out HW.out).mono ?_; rintro e w1 ⟨rfl, rfl⟩)
      simp only [Exit.jump]
      go_returns
      rw [HE.out]
      exact ⟨_, rfl, HR.out, HS.out, HT.out⟩
    have HW := hid hw
    clear hw
    have hc0 : 0 ≤ cnt := H0.out (manyP_right HW.out)
    by_cases hkc : (k : Int) = cnt
    · have l1 : ((k : Int) == cnt) = true := by simp [hkc]
      have HK : Hid (cnt.toNat = k) := by unfold Hid; omega
      clear hkc
      go_wp2_with (go_at_call 15; refine (srWrong_ok HS.out HW.out).mono ?_; rintro e w1 ⟨rfl, rfl⟩)
      simp only [Exit.jump]
      go_returns
      rw [HK.out]
      exact ⟨_, rfl, HR.out, HS.out, HT.out⟩
    · have l1 : ((k : Int) == cnt) = false := by simp [hkc]
      have hk1 : k + 1 ≤ cnt.toNat := by omega
      have HK1 : Hid (k + 1 ≤ cnt.toNat) := hk1
      have HC := hid hc
      have HQ := hid (manyP_snoc (rowP axnP) k s HW.out)
      clear hkc hk1 hc hc0 hk
      go_wp2_with (first
        | (go_at_call 15; refine (srWrong_ok HS.out HW.out).mono ?_; rintro e w1 ⟨rfl, rfl⟩)
        | (go_at_call 42; refine (stream_any _ _ _ _ HS.out).mono ?_; rintro e w1 ⟨v1, rfl, hr1, hs1, ht1⟩; obtain ⟨q1, c1, rfl, -, -⟩ := hr1.shape; have HR1 := hid (hr1.weak (Nat.zero_le _)); clear hr1; have HS1 := hid hs1; have HT1 := hid ht1; have HKp := hid (HS.out.kept (good := [44, 43]) ht1 (by decide)); clear hs1 ht1)
        | (at_builtin; refine wpList_push_row rfl (.tmp 18) (.tmp 21) 27 44 (.slice none 0 0) 1 24 rfl Tryz.underlying27 infoAs rfl (by decide) [43] ((rowP axnP) (manyP (rowP axnP) k s).2).1 (HR.out.kept HKp.out (by simp) (ElS.kept (HKp.out.sub (by simp)))) rfl (by intro u hu; simp only [List.mem_cons, List.not_mem_nil, or_false] at hu; subst hu; rfl) (by have := HL.out; have := HK1.out; have := HC.out; omega) (by decide) HS1.out (by decide) (HT.out.trans HT1.out) rfl (by decide) ⟨_, rfl, HR1.out⟩ (fun _ hk => ElS.kept hk) rfl rfl rfl ?_; intro p1 cap1 w2 hr2 hs2 ht2))
      go_step3
      rename_i Qz
      simp only [Qz, Exit.jump]
      rw [HL.out] at hr2
      rw [HL.out]
      refine ⟨trivial, ⟨k + 1, p1, cap1, _, _, _, _, _, _, _, _, _, _, _, _, _, _, _, _, _, _, rfl, ht2, by rw [HQ.out]; exact hs2, by rw [HQ.out]; exact hr2, by rw [HQ.out, List.length_append, HL.out]; rfl, HK1.out⟩, ?_⟩
      have := HK1.out
      simp [lenOf]
      omega
  · intro start
    have Start := hid start
    clear start
    go_wp2
    go_step3
    simp only [Exit.then]
    refine ‹∀ (a : Act) (w : World), Code.wp _ _ _ a w → _› _ _ ?_
    exact Start.out _ _ ⟨0, none, 0, _, _, _, _, _, _, _, _, _, _, _, _, _, _, _, _, _, _, rfl, Two.refl _ _ _, HS0.out, Rowed.nil _ _ _ _ _, rfl, Nat.zero_le _⟩

set_option maxRecDepth 100000 in
set_option maxHeartbeats 4000000 in
theorem manyW_any (b c : Nat) (s : Rb) (cnt : Int) (w : World) (h : Sr b c s w) (h0 : s.wrong = false → 0 ≤ cnt) (hc : cnt ≤ 40000) :
    Calls Tryz.prog 43 #[.pointer (some ⟨b, 0, none⟩), .int .i64 cnt, .func (.func 44) #[.pointer (some ⟨b, 0, none⟩)] #[]] w
      (ReadsRow 47 1 ElW b c (manyP (rowP arvP) cnt.toNat s) w) := by
  have HS0 := hid h
  have H0 := hid h0
  clear h h0
  have hne := fun v w => run_neq_iface_nil (P := Tryz.prog) w 39 v Tryz.underlying32
  have hnn := fun w => run_neq_nil_nil' (P := Tryz.prog) w Tryz.underlying32
  go_enter Tryz.func43, Tryz.ntmps43
  go_wp2
  refine wp_goto 0 (ManyJ 47 1 ElW b c (rowP arvP) s cnt (.func (.func 44) #[.pointer (some ⟨b, 0, none⟩)] #[]) w) (fun a' _ => cnt.toNat - lenOf (a'.tmps.getD 7 undef)) rfl ?_ ?_
  · refine fun a' w' => ex_elim fun k => ex_elim fun p => ex_elim fun cap => ex_elim fun u3 => ex_elim fun u4 => ex_elim fun u5 => ex_elim fun u8 => ex_elim fun u9 => ex_elim fun u10 => ex_elim fun u11 => ex_elim fun u12 => ex_elim fun u13 => ex_elim fun u14 => ex_elim fun u15 => ex_elim fun u16 => ex_elim fun u17 => ex_elim fun u18 => ex_elim fun u19 => ex_elim fun u20 => ex_elim fun u21 => ex_elim fun u22 => ?_
    rintro ⟨rfl, hT, hS, hR, hlen, hk⟩
    have HT := hid hT
    have HS := hid hS
    have HR := hid hR
    have HL := hid hlen
    clear hT hS hR hlen
    cases hw : (manyP (rowP arvP) k s).2.wrong
    case true =>
      have HW := hid hw
      have HE := hid (manyP_stays (rowP arvP) k s hw cnt.toNat hk)
      clear hw
      go_wp2_with (go_at_call 15; refine (srWrong_bad HS.out HW.out).mono ?_; rintro e w1 ⟨rfl, rfl⟩)
      simp only [Exit.jump]
      go_returns
      rw [HE.out]
      exact ⟨_, rfl, HR.out, HS.out, HT.out⟩
    have HW := hid hw
    clear hw
    have hc0 : 0 ≤ cnt := H0.out (manyP_right HW.out)
    by_cases hkc : (k : Int) = cnt
    · have l1 : ((k : Int) == cnt) = true := by simp [hkc]
      have HK : Hid (cnt.toNat = k) := by unfold Hid; omega
      clear hkc
      go_wp2_with (go_at_call 15; refine (srWrong_ok HS.out HW.out).mono ?_; rintro e w1 ⟨rfl, rfl⟩)
      simp only [Exit.jump]
      go_returns
      rw [HK.out]
      exact ⟨_, rfl, HR.out, HS.out, HT.out⟩
    · have l1 : ((k : Int) == cnt) = false := by simp [hkc]
      have hk1 : k + 1 ≤ cnt.toNat := by omega
      have HK1 : Hid (k + 1 ≤ cnt.toNat) := hk1
      have HC := hid hc
      have HQ := hid (manyP_snoc (rowP arvP) k s HW.out)
      clear hkc hk1 hc hc0 hk
      go_wp2_with (first
        | (go_at_call 15; refine (srWrong_ok HS.out HW.out).mono ?_; rintro e w1 ⟨rfl, rfl⟩)
        | (go_at_call 44; refine (arrivals_any _ _ _ _ HS.out).mono ?_; rintro e w1 ⟨v1, rfl, hr1, hs1, ht1⟩; obtain ⟨q1, c1, rfl, -, -⟩ := hr1.shape; have HR1 := hid (hr1.weak (Nat.zero_le _)); clear hr1; have HS1 := hid hs1; have HT1 := hid ht1; have HKp := hid (HS.out.kept (good := [47, 46]) ht1 (by decide)); clear hs1 ht1)
        | (at_builtin; refine wpList_push_row rfl (.tmp 18) (.tmp 21) 28 47 (.slice none 0 0) 1 24 rfl Tryz.underlying28 infoVs rfl (by decide) [46] ((rowP arvP) (manyP (rowP arvP) k s).2).1 (HR.out.kept HKp.out (by simp) (ElW.kept (HKp.out.sub (by simp)))) rfl (by intro u hu; simp only [List.mem_cons, List.not_mem_nil, or_false] at hu; subst hu; rfl) (by have := HL.out; have := HK1.out; have := HC.out; omega) (by decide) HS1.out (by decide) (HT.out.trans HT1.out) rfl (by decide) ⟨_, rfl, HR1.out⟩ (fun _ hk => ElW.kept hk) rfl rfl rfl ?_; intro p1 cap1 w2 hr2 hs2 ht2))
      go_step3
      rename_i Qz
      simp only [Qz, Exit.jump]
      rw [HL.out] at hr2
      rw [HL.out]
      refine ⟨trivial, ⟨k + 1, p1, cap1, _, _, _, _, _, _, _, _, _, _, _, _, _, _, _, _, _, _, rfl, ht2, by rw [HQ.out]; exact hs2, by rw [HQ.out]; exact hr2, by rw [HQ.out, List.length_append, HL.out]; rfl, HK1.out⟩, ?_⟩
      have := HK1.out
      simp [lenOf]
      omega
  · intro start
    have Start := hid start
    clear start
    go_wp2
    go_step3
    simp only [Exit.then]
    refine ‹∀ (a : Act) (w : World), Code.wp _ _ _ a w → _› _ _ ?_
    exact Start.out _ _ ⟨0, none, 0, _, _, _, _, _, _, _, _, _, _, _, _, _, _, _, _, _, _, rfl, Two.refl _ _ _, HS0.out, Rowed.nil _ _ _ _ _, rfl, Nat.zero_le _⟩

end Go.Proofs.YtmpgeabfogcblaaGreat

namespace Go.Proofs.YtmpgeabfogcblaaGreat
open Go.RowKit
set_option linter.unusedSimpArgs false

theorem sets7 {w : World} {n : Nat} {T : TypeId} {z0 z1 z2 z3 z4 z5 z6 : Value} (h : w.heap[n]? = some (.cells #[z0, z1, z2, z3, z4, z5, z6] T (0, 0))) (a0 a1 a2 a3 a4 a5 a6 : Value) :
    (((((((w.setCell ⟨n, 0, none⟩ a0).setCell ⟨n, 1, none⟩ a1).setCell ⟨n, 2, none⟩ a2).setCell ⟨n, 3, none⟩ a3).setCell ⟨n, 4, none⟩ a4).setCell ⟨n, 5, none⟩ a5).setCell ⟨n, 6, none⟩ a6).heap[n]? = some (.cells #[a0, a1, a2, a3, a4, a5, a6] T (0, 0)) := by
  have := blk_set (blk_set (blk_set (blk_set (blk_set (blk_set (blk_set h 0 a0) 1 a1) 2 a2) 3 a3) 4 a4) 5 a5) 6 a6
  simpa using this
/-- The types of what a script holds. -/
abbrev goodS : List TypeId := [94, 89, 3, 44, 43, 47, 46]
/-- A script in the reader's own rows. -/
structure ScrRows (w : World) (q : Scr) (pv dv sv av : Value) : Prop where
  plans : Rowed 89 1 ElR 0 w pv q.conf.plans
  doms : Rowed 94 10 ElD 0 w dv q.conf.doms
  streams : Rowed 44 1 ElS 0 w sv q.streams
  arrivals : Rowed 47 1 ElW 0 w av q.arrivals
theorem plans_kept {w w' : World} {v : Value} {l : List (List Int)} (h : Rowed 89 1 ElR 0 w v l) (k : Kept goodS w w') : Rowed 89 1 ElR 0 w' v l := h.kept k (by simp) (ElR.kept (k.sub (by simp)))
theorem doms_kept {w w' : World} {v : Value} {l : List Dom} (h : Rowed 94 10 ElD 0 w v l) (k : Kept goodS w w') : Rowed 94 10 ElD 0 w' v l := h.kept k (by simp) (ElD.kept (k.sub (by simp)))
theorem streams_kept {w w' : World} {v : Value} {l : List (List Axn)} (h : Rowed 44 1 ElS 0 w v l) (k : Kept goodS w w') : Rowed 44 1 ElS 0 w' v l := h.kept k (by simp) (ElS.kept (k.sub (by simp)))
theorem arrivals_kept {w w' : World} {v : Value} {l : List (List Arv)} (h : Rowed 47 1 ElW 0 w v l) (k : Kept goodS w w') : Rowed 47 1 ElW 0 w' v l := h.kept k (by simp) (ElW.kept (k.sub (by simp)))
theorem ScrRows.kept {w w' : World} {q : Scr} {pv dv sv av : Value} (h : ScrRows w q pv dv sv av) (k : Kept goodS w w') : ScrRows w' q pv dv sv av :=
  ⟨plans_kept h.plans k, doms_kept h.doms k, streams_kept h.streams k, arrivals_kept h.arrivals k⟩
def ReadsScr (b c : Nat) (q : Scr × Rb) (w : World) (e : Ending) (w' : World) : Prop := ∃ pp cp pd cd ps cs pa ca,
  e = .returned (.agg #[.int .i64 q.1.conf.frame, .int .i64 q.1.conf.epoch, .slice pp q.1.conf.plans.length cp, .slice pd q.1.conf.doms.length cd, .int .i64 q.1.horizon, .slice ps q.1.streams.length cs, .slice pa q.1.arrivals.length ca]) ∧
  ScrRows w' q.1 (.slice pp q.1.conf.plans.length cp) (.slice pd q.1.conf.doms.length cd) (.slice ps q.1.streams.length cs) (.slice pa q.1.arrivals.length ca) ∧ Sr b c q.2 w' ∧ Two b c w w'
theorem scrP_of {s s1 s2 s3 s4 : Rb} {x1 : Cnf} {x2 : Int} {x3 : List (List Axn)} {x4 : List (List Arv)} (e1 : confP s = (x1, s1)) (e2 : numP s1 = (x2, s2)) (e3 : manyP (rowP axnP) x1.doms.length s2 = (x3, s3)) (e4 : manyP (rowP arvP) x1.doms.length s3 = (x4, s4)) : scrP s = (⟨x1, x2, x3, x4⟩, s4) := by
  simp only [scrP, e1, e2, e3, e4]
theorem confP_doms (s : Rb) : (confP s).1.doms.length ≤ 40000 := by
  have h1 := manyP_len domP (cntP (cntP (numP (numP s).2).2).2).1.toNat (manyP (manyP numP (cntP (cntP (numP (numP s).2).2).2).1.toNat) (cntP (numP (numP s).2).2).1.toNat (cntP (cntP (numP (numP s).2).2).2).2).2
  have h2 := cntP_le (cntP (numP (numP s).2).2).2
  show (manyP domP _ _).1.length ≤ 40000
  omega

set_option maxRecDepth 100000 in
set_option maxHeartbeats 4000000 in
theorem script_any (b c : Nat) (s : Rb) (w : World) (h : Sr b c s w) : Calls Tryz.prog 14 #[.pointer (some ⟨b, 0, none⟩)] w (ReadsScr b c (scrP s) w) := by
  have H := hid h
  clear h
  obtain ⟨x1, s1, e1⟩ : ∃ x t, confP s = (x, t) := ⟨_, _, rfl⟩
  obtain ⟨x2, s2, e2⟩ : ∃ x t, numP s1 = (x, t) := ⟨_, _, rfl⟩
  obtain ⟨x3, s3, e3⟩ : ∃ x t, manyP (rowP axnP) x1.doms.length s2 = (x, t) := ⟨_, _, rfl⟩
  obtain ⟨x4, s4, e4⟩ : ∃ x t, manyP (rowP arvP) x1.doms.length s3 = (x, t) := ⟨_, _, rfl⟩
  have hd : x1.doms.length ≤ 40000 := by have := confP_doms s; rw [e1] at this; exact this
  have HDL := hid hd
  rw [scrP_of e1 e2 e3 e4]
  have E2 := hid e2
  have E3 := hid e3
  have E4 := hid e4
  have hcf := conf_any b c s
  rw [e1] at hcf
  have HCF := hid hcf
  clear e1 e2 e3 e4 hcf hd
  go_enter Tryz.func14, Tryz.ntmps14
  go_upto_region 2 with (go_at_call 39; refine (HCF.out _ (H.out.ext (Ext.alloc (Ext.refl w) _))).mono ?_; rintro e w1 ⟨pp, cp, pd, cd, rfl, hp, hd, hs, ht⟩; have HP := hid hp; have HD := hid hd; have HS := hid hs; have HT := hid ht; clear hp hd hs ht)
  have hlt := H.out.lt
  have hR1 := HT.out.blk (heap_alloc_new w (.cells #[.int .i64 0, .int .i64 0, .slice none 0 0, .slice none 0 0, .int .i64 0, .slice none 0 0, .slice none 0 0] 30 (0, 0))) (by omega) (by omega)
  have hz := HT.out.size
  rw [World.size_alloc] at hz
  refine wp_forget (fun v => Sr b c s1 v ∧ Two b c w v ∧ v.heap[w1.heap.size]? = some (confO (.int .i64 x1.frame) (.int .i64 x1.epoch) (.slice pp x1.plans.length cp) (.slice pd x1.doms.length cd)) ∧ v.heap[w.heap.size]? = some (.cells #[.int .i64 0, .int .i64 0, .slice none 0 0, .slice none 0 0, .int .i64 0, .slice none 0 0, .slice none 0 0] 30 (0, 0)) ∧ Rowed 89 1 ElR 0 v (.slice pp x1.plans.length cp) x1.plans ∧ Rowed 94 10 ElD 0 v (.slice pd x1.doms.length cd) x1.doms)
    ⟨HS.out.ext (by repeat (first | exact Ext.refl _ | assumption | refine Ext.more ?_ _ | refine Ext.drew ?_ | refine Ext.drewN ?_ _ | refine Ext.alloc ?_ _ | refine Ext.setCell ?_ (by simp; try omega) _ | refine Ext.trans ?_ (by assumption))), (Two.of_ext (Ext.alloc (Ext.refl w) (.cells #[.int .i64 0, .int .i64 0, .slice none 0 0, .slice none 0 0, .int .i64 0, .slice none 0 0, .slice none 0 0] 30 (0, 0)))).trans (HT.out.ext (by repeat (first | exact Ext.refl _ | assumption | refine Ext.more ?_ _ | refine Ext.drew ?_ | refine Ext.drewN ?_ _ | refine Ext.alloc ?_ _ | refine Ext.setCell ?_ (by simp; try omega) _ | refine Ext.trans ?_ (by assumption)))), heap_alloc_new w1 _, block_ext (by repeat (first | exact Ext.refl _ | assumption | refine Ext.more ?_ _ | refine Ext.drew ?_ | refine Ext.drewN ?_ _ | refine Ext.alloc ?_ _ | refine Ext.setCell ?_ (by simp; try omega) _ | refine Ext.trans ?_ (by assumption))) hR1, plans_kept HP.out (Kept.of_ext (by repeat (first | exact Ext.refl _ | assumption | refine Ext.more ?_ _ | refine Ext.drew ?_ | refine Ext.drewN ?_ _ | refine Ext.alloc ?_ _ | refine Ext.setCell ?_ (by simp; try omega) _ | refine Ext.trans ?_ (by assumption)))), doms_kept HD.out (Kept.of_ext (by repeat (first | exact Ext.refl _ | assumption | refine Ext.more ?_ _ | refine Ext.drew ?_ | refine Ext.drewN ?_ _ | refine Ext.alloc ?_ _ | refine Ext.setCell ?_ (by simp; try omega) _ | refine Ext.trans ?_ (by assumption))))⟩ ?_
  have HLT : Hid (b < w.heap.size ∧ c < w.heap.size ∧ w.heap.size < w1.heap.size) := ⟨hlt.1, hlt.2, by omega⟩
  clear HS HT HP HD hlt hR1 hz
  obtain ⟨C, hC⟩ : ∃ C, C = w1.heap.size := ⟨_, rfl⟩
  rw [← hC] at HLT ⊢
  clear hC
  clear w1
  rintro v ⟨hs0, ht0, hC, hR, hp, hd⟩
  have HS0 := hid (hs0.ext (Ext.drew (Ext.refl v)))
  have HT0 := hid (ht0.ext (Ext.drew (Ext.refl v)))
  have HC0 : Hid (v.drew.heap[C]? = some (confO (.int .i64 x1.frame) (.int .i64 x1.epoch) (.slice pp x1.plans.length cp) (.slice pd x1.doms.length cd))) := hC
  have HR0 : Hid (v.drew.heap[w.heap.size]? = some (.cells #[.int .i64 0, .int .i64 0, .slice none 0 0, .slice none 0 0, .int .i64 0, .slice none 0 0, .slice none 0 0] 30 (0, 0))) := hR
  have HP0 := hid (plans_kept hp (Kept.of_ext (Ext.drew (Ext.refl v))))
  have HD0 := hid (doms_kept hd (Kept.of_ext (Ext.drew (Ext.refl v))))
  clear hs0 ht0 hC hR hp hd
  refine wp_region_T 18 1 (fun u => u.cell? ⟨C, 0, none⟩ = some (.int .i64 x1.frame) ∧ u.cell? ⟨C, 1, none⟩ = some (.int .i64 x1.epoch) ∧ u.cell? ⟨C, 2, none⟩ = some (.slice pp x1.plans.length cp) ∧ u.cell? ⟨C, 3, none⟩ = some (.slice pd x1.doms.length cd)) (by kernel_rfl) (by kernel_rfl) ?_
  generalize v.drew = v0 at *
  have HSS : v0.cell? ⟨C, 0, none⟩ = some (.int .i64 x1.frame) ∧ v0.cell? ⟨C, 1, none⟩ = some (.int .i64 x1.epoch) ∧ v0.cell? ⟨C, 2, none⟩ = some (.slice pp x1.plans.length cp) ∧ v0.cell? ⟨C, 3, none⟩ = some (.slice pd x1.doms.length cd) := ⟨blk_cell HC0.out 0, blk_cell HC0.out 1, blk_cell HC0.out 2, blk_cell HC0.out 3⟩
  have HV0 := hid (Two.refl b c v0)
  refine wpT_take 0 (v := ?v39) rfl (by kernel_rfl) (by kernel_rfl) (by kernel_rfl) (by kernel_rfl) (by intro _ _ _ h; first | exact h | (obtain ⟨h, _⟩ := h; cases h)) (by rfl) HSS ?hy39 ?_
  case hy39 => (intro u hu; obtain ⟨hu0, hu1, hu2, hu3⟩ := hu; go_simp; first | done | (with_reducible rfl))
  (try simp only [Act.put, List.getElem_toArray, List.getElem_cons_zero, List.getElem_cons_succ, List.setIfInBounds_toArray, List.set_cons_zero, List.set_cons_succ])
  refine wpT_take 1 (v := ?v40) rfl (by kernel_rfl) (by kernel_rfl) (by kernel_rfl) (by kernel_rfl) (by intro _ _ _ h; first | exact h | (obtain ⟨h, _⟩ := h; cases h)) (by rfl) HSS ?hy40 ?_
  case hy40 => (intro u hu; obtain ⟨hu0, hu1, hu2, hu3⟩ := hu; go_simp; first | done | (with_reducible rfl))
  (try simp only [Act.put, List.getElem_toArray, List.getElem_cons_zero, List.getElem_cons_succ, List.setIfInBounds_toArray, List.set_cons_zero, List.set_cons_succ])
  refine wpT_take 3 (v := ?v41) rfl (by kernel_rfl) (by kernel_rfl) (by kernel_rfl) (by kernel_rfl) (by intro _ _ _ h; first | exact h | (obtain ⟨h, _⟩ := h; cases h)) (by rfl) HSS ?hy41 ?_
  case hy41 => (intro u hu; obtain ⟨hu0, hu1, hu2, hu3⟩ := hu; go_simp; first | done | (with_reducible rfl))
  (try simp only [Act.put, List.getElem_toArray, List.getElem_cons_zero, List.getElem_cons_succ, List.setIfInBounds_toArray, List.set_cons_zero, List.set_cons_succ])
  refine wpT_take 4 (v := ?v42) rfl (by kernel_rfl) (by kernel_rfl) (by kernel_rfl) (by kernel_rfl) (by intro _ _ _ h; first | exact h | (obtain ⟨h, _⟩ := h; cases h)) (by rfl) HSS ?hy42 ?_
  case hy42 => (intro u hu; obtain ⟨hu0, hu1, hu2, hu3⟩ := hu; go_simp; first | done | (with_reducible rfl))
  (try simp only [Act.put, List.getElem_toArray, List.getElem_cons_zero, List.getElem_cons_succ, List.setIfInBounds_toArray, List.set_cons_zero, List.set_cons_succ])
  refine wpT_take 5 (v := ?v43) rfl (by kernel_rfl) (by kernel_rfl) (by kernel_rfl) (by kernel_rfl) (by intro _ _ _ h; first | exact h | (obtain ⟨h, _⟩ := h; cases h)) (by rfl) HSS ?hy43 ?_
  case hy43 => (intro u hu; obtain ⟨hu0, hu1, hu2, hu3⟩ := hu; go_simp; first | done | (with_reducible rfl))
  (try simp only [Act.put, List.getElem_toArray, List.getElem_cons_zero, List.getElem_cons_succ, List.setIfInBounds_toArray, List.set_cons_zero, List.set_cons_succ])
  refine wpT_take 6 (v := ?v44) rfl (by kernel_rfl) (by kernel_rfl) (by kernel_rfl) (by kernel_rfl) (by intro _ _ _ h; first | exact h | (obtain ⟨h, _⟩ := h; cases h)) (by rfl) HSS ?hy44 ?_
  case hy44 => (intro u hu; obtain ⟨hu0, hu1, hu2, hu3⟩ := hu; go_simp; first | done | (with_reducible rfl))
  (try simp only [Act.put, List.getElem_toArray, List.getElem_cons_zero, List.getElem_cons_succ, List.setIfInBounds_toArray, List.set_cons_zero, List.set_cons_succ])
  refine wpT_take 7 (v := ?v45) rfl (by kernel_rfl) (by kernel_rfl) (by kernel_rfl) (by kernel_rfl) (by intro _ _ _ h; first | exact h | (obtain ⟨h, _⟩ := h; cases h)) (by rfl) HSS ?hy45 ?_
  case hy45 => (intro u hu; obtain ⟨hu0, hu1, hu2, hu3⟩ := hu; go_simp; first | done | (with_reducible rfl))
  (try simp only [Act.put, List.getElem_toArray, List.getElem_cons_zero, List.getElem_cons_succ, List.setIfInBounds_toArray, List.set_cons_zero, List.set_cons_succ])
  refine wpT_take 8 (v := ?v46) rfl (by kernel_rfl) (by kernel_rfl) (by kernel_rfl) (by kernel_rfl) (by intro _ _ _ h; first | exact h | (obtain ⟨h, _⟩ := h; cases h)) (by rfl) HSS ?hy46 ?_
  case hy46 => (intro u hu; obtain ⟨hu0, hu1, hu2, hu3⟩ := hu; go_simp; first | done | (with_reducible rfl))
  (try simp only [Act.put, List.getElem_toArray, List.getElem_cons_zero, List.getElem_cons_succ, List.setIfInBounds_toArray, List.set_cons_zero, List.set_cons_succ])
  refine wpT_take 10 (v := ?v47) rfl (by kernel_rfl) (by kernel_rfl) (by kernel_rfl) (by kernel_rfl) (by intro _ _ _ h; first | exact h | (obtain ⟨h, _⟩ := h; cases h)) (by rfl) HSS ?hy47 ?_
  case hy47 => (intro u hu; obtain ⟨hu0, hu1, hu2, hu3⟩ := hu; go_simp; first | done | (with_reducible rfl))
  (try simp only [Act.put, List.getElem_toArray, List.getElem_cons_zero, List.getElem_cons_succ, List.setIfInBounds_toArray, List.set_cons_zero, List.set_cons_succ])
  refine wpT_take 11 (v := ?v48) rfl (by kernel_rfl) (by kernel_rfl) (by kernel_rfl) (by kernel_rfl) (by intro _ _ _ h; first | exact h | (obtain ⟨h, _⟩ := h; cases h)) (by rfl) HSS ?hy48 ?_
  case hy48 => (intro u hu; obtain ⟨hu0, hu1, hu2, hu3⟩ := hu; go_simp; first | done | (with_reducible rfl))
  (try simp only [Act.put, List.getElem_toArray, List.getElem_cons_zero, List.getElem_cons_succ, List.setIfInBounds_toArray, List.set_cons_zero, List.set_cons_succ])
  refine wpT_take 12 (v := ?v49) rfl (by kernel_rfl) (by kernel_rfl) (by kernel_rfl) (by kernel_rfl) (by intro _ _ _ h; first | exact h | (obtain ⟨h, _⟩ := h; cases h)) (by rfl) HSS ?hy49 ?_
  case hy49 => (intro u hu; obtain ⟨hu0, hu1, hu2, hu3⟩ := hu; go_simp; first | done | (with_reducible rfl))
  (try simp only [Act.put, List.getElem_toArray, List.getElem_cons_zero, List.getElem_cons_succ, List.setIfInBounds_toArray, List.set_cons_zero, List.set_cons_succ])
  refine wpT_take 13 (v := ?v50) rfl (by kernel_rfl) (by kernel_rfl) (by kernel_rfl) (by kernel_rfl) (by intro _ _ _ h; first | exact h | (obtain ⟨h, _⟩ := h; cases h)) (by rfl) HSS ?hy50 ?_
  case hy50 => (intro u hu; obtain ⟨hu0, hu1, hu2, hu3⟩ := hu; go_simp; first | done | (with_reducible rfl))
  (try simp only [Act.put, List.getElem_toArray, List.getElem_cons_zero, List.getElem_cons_succ, List.setIfInBounds_toArray, List.set_cons_zero, List.set_cons_succ])
  refine wpT_take 14 (v := ?v51) rfl (by kernel_rfl) (by kernel_rfl) (by kernel_rfl) (by kernel_rfl) (by intro _ _ _ h; first | exact h | (obtain ⟨h, _⟩ := h; cases h)) (by rfl) HSS ?hy51 ?_
  case hy51 => (intro u hu; obtain ⟨hu0, hu1, hu2, hu3⟩ := hu; go_simp; first | done | (with_reducible rfl))
  (try simp only [Act.put, List.getElem_toArray, List.getElem_cons_zero, List.getElem_cons_succ, List.setIfInBounds_toArray, List.set_cons_zero, List.set_cons_succ])
  refine wpT_take 15 (v := ?v52) rfl (by kernel_rfl) (by kernel_rfl) (by kernel_rfl) (by kernel_rfl) (by intro _ _ _ h; first | exact h | (obtain ⟨h, _⟩ := h; cases h)) (by rfl) HSS ?hy52 ?_
  case hy52 => (intro u hu; obtain ⟨hu0, hu1, hu2, hu3⟩ := hu; go_simp; first | done | (with_reducible rfl))
  (try simp only [Act.put, List.getElem_toArray, List.getElem_cons_zero, List.getElem_cons_succ, List.setIfInBounds_toArray, List.set_cons_zero, List.set_cons_succ])
  refine wpT_one 2 rfl (by kernel_rfl) (by rfl) (fun K' hK => ?_)
  go_simp
  refine (srNum_to E2.out HS0.out).mono ?_
  rintro e v1 ⟨rfl, hs, ht⟩
  have HS1 := hid hs
  have HV1 := hid (HV0.out.trans ht)
  have HKK := hid (HS0.out.kept (good := goodS) ht (by decide))
  have HP1 := hid (plans_kept HP0.out HKK.out)
  have HD1 := hid (doms_kept HD0.out HKK.out)
  have HX : Hid (v1.cell? ⟨C, 0, none⟩ = some (.int .i64 x1.frame) ∧ v1.cell? ⟨C, 1, none⟩ = some (.int .i64 x1.epoch) ∧ v1.cell? ⟨C, 2, none⟩ = some (.slice pp x1.plans.length cp) ∧ v1.cell? ⟨C, 3, none⟩ = some (.slice pd x1.doms.length cd)) := by
    have hl := HLT.out
    exact ⟨ht.cell HSS.1 (by simp; omega) (by simp; omega), ht.cell HSS.2.1 (by simp; omega) (by simp; omega), ht.cell HSS.2.2.1 (by simp; omega) (by simp; omega), ht.cell HSS.2.2.2 (by simp; omega) (by simp; omega)⟩
  clear hs ht HKK HP0 HD0
  refine hK.out _ _ HX.out ?_
  clear HSS hK K' HV0
  have HSS := HX.out
  clear HX
  (try simp only [Act.put, List.setIfInBounds_toArray, List.set_cons_zero, List.set_cons_succ])
  have hmS := manyS_any b c s2 (x1.doms.length : Int) v1 HS1.out (fun _ => by omega) (by have := HDL.out; omega)
  rw [Int.toNat_natCast, E3.out] at hmS
  have HMS := hid hmS
  clear hmS
  refine wpT_one 9 rfl (by kernel_rfl) (by rfl) (fun K' hK => ?_)
  go_simp
  refine (HMS.out).mono ?_
  rintro e v2 ⟨vs, rfl, hr, hs, ht⟩
  obtain ⟨ps, cs, rfl, -, -⟩ := hr.shape
  have HS2 := hid hs
  have HV2 := hid (HV1.out.trans ht)
  have HKK := hid (HS1.out.kept (good := goodS) ht (by decide))
  have HP2 := hid (plans_kept HP1.out HKK.out)
  have HD2 := hid (doms_kept HD1.out HKK.out)
  have HX : Hid (v2.cell? ⟨C, 0, none⟩ = some (.int .i64 x1.frame) ∧ v2.cell? ⟨C, 1, none⟩ = some (.int .i64 x1.epoch) ∧ v2.cell? ⟨C, 2, none⟩ = some (.slice pp x1.plans.length cp) ∧ v2.cell? ⟨C, 3, none⟩ = some (.slice pd x1.doms.length cd)) := by
    have hl := HLT.out
    exact ⟨ht.cell HSS.1 (by simp; omega) (by simp; omega), ht.cell HSS.2.1 (by simp; omega) (by simp; omega), ht.cell HSS.2.2.1 (by simp; omega) (by simp; omega), ht.cell HSS.2.2.2 (by simp; omega) (by simp; omega)⟩
  have HQ2 := hid (hr.weak (base' := 0) (Nat.zero_le _))
  clear hr
  clear hs ht HKK HP1 HD1
  refine hK.out _ _ HX.out ?_
  clear HSS hK K' HV1
  have HSS := HX.out
  clear HX
  (try simp only [Act.put, List.setIfInBounds_toArray, List.set_cons_zero, List.set_cons_succ])
  have hmW := manyW_any b c s3 (x1.doms.length : Int) v2 HS2.out (fun _ => by omega) (by have := HDL.out; omega)
  rw [Int.toNat_natCast, E4.out] at hmW
  have HMW := hid hmW
  clear hmW
  refine wpT_one 16 rfl (by kernel_rfl) (by rfl) (fun K' hK => ?_)
  go_simp
  refine (HMW.out).mono ?_
  rintro e v3 ⟨va, rfl, hr, hs, ht⟩
  obtain ⟨pa, ca, rfl, -, -⟩ := hr.shape
  have HS3 := hid hs
  have HV3 := hid (HV2.out.trans ht)
  have HKK := hid (HS2.out.kept (good := goodS) ht (by decide))
  have HP3 := hid (plans_kept HP2.out HKK.out)
  have HD3 := hid (doms_kept HD2.out HKK.out)
  have HX : Hid (v3.cell? ⟨C, 0, none⟩ = some (.int .i64 x1.frame) ∧ v3.cell? ⟨C, 1, none⟩ = some (.int .i64 x1.epoch) ∧ v3.cell? ⟨C, 2, none⟩ = some (.slice pp x1.plans.length cp) ∧ v3.cell? ⟨C, 3, none⟩ = some (.slice pd x1.doms.length cd)) := by
    have hl := HLT.out
    exact ⟨ht.cell HSS.1 (by simp; omega) (by simp; omega), ht.cell HSS.2.1 (by simp; omega) (by simp; omega), ht.cell HSS.2.2.1 (by simp; omega) (by simp; omega), ht.cell HSS.2.2.2 (by simp; omega) (by simp; omega)⟩
  have HW3 := hid (hr.weak (base' := 0) (Nat.zero_le _))
  have HQ3 := hid (streams_kept HQ2.out HKK.out)
  clear hr HQ2
  clear hs ht HKK HP2 HD2
  refine hK.out _ _ HX.out ?_
  clear HSS hK K' HV2
  have HSS := HX.out
  clear HX
  (try simp only [Act.put, List.setIfInBounds_toArray, List.set_cons_zero, List.set_cons_succ])
  refine wpT_take 17 (v := ?v53) rfl (by kernel_rfl) (by kernel_rfl) (by kernel_rfl) (by kernel_rfl) (by intro _ _ _ h; first | exact h | (obtain ⟨h, _⟩ := h; cases h)) (by rfl) HSS ?hy53 ?_
  case hy53 => (intro u hu; obtain ⟨hu0, hu1, hu2, hu3⟩ := hu; go_simp; first | done | (with_reducible rfl))
  (try simp only [Act.put, List.getElem_toArray, List.getElem_cons_zero, List.getElem_cons_succ, List.setIfInBounds_toArray, List.set_cons_zero, List.set_cons_succ])
  refine wpT_done (by kernel_rfl) ?_
  refine wpAny_one 18 rfl (by kernel_rfl) (by rfl) (fun K' hK => ?_)
  have hl := HLT.out
  have hn := HV3.out.blk HR0.out (by omega) (by omega)
  have k0 := blk_cell hn 0
  have k1 := blk_cell hn 1
  have k2 := blk_cell hn 2
  have k3 := blk_cell hn 3
  have k4 := blk_cell hn 4
  have k5 := blk_cell hn 5
  have k6 := blk_cell hn 6
  have f0 := blk_free hn 0
  have f1 := blk_free hn 1
  have f2 := blk_free hn 2
  have f3 := blk_free hn 3
  have f4 := blk_free hn 4
  have f5 := blk_free hn 5
  have f6 := blk_free hn 6
  clear HSS
  go_simp
  refine hK.out _ _ ?_
  (try simp only [Act.put, List.setIfInBounds_toArray, List.set_cons_zero, List.set_cons_succ])
  refine wpAny_done (by kernel_rfl) ?_ _
  refine ‹∀ (a : Act) (w : World), Code.wp _ _ _ a w → _› _ _ ?_
  refine wp_forget (fun y => y.heap[w.heap.size]? = some (.cells #[.int .i64 x1.frame, .int .i64 x1.epoch, .slice pp x1.plans.length cp, .slice pd x1.doms.length cd, .int .i64 x2, .slice ps x3.length cs, .slice pa x4.length ca] 30 (0, 0)) ∧ Only w.heap.size v3 y)
    ⟨sets7 hn _ _ _ _ _ _ _, (((((((Only.refl _ _).setCell _).setCell _).setCell _).setCell _).setCell _).setCell _).setCell _⟩ ?_
  rintro y ⟨hy, hO⟩
  have hk := hO.kept hn (good := goodS) (by decide)
  have HF : Hid (ScrRows y ⟨x1, x2, x3, x4⟩ (.slice pp x1.plans.length cp) (.slice pd x1.doms.length cd) (.slice ps x3.length cs) (.slice pa x4.length ca) ∧ Sr b c s4 y ∧ Two b c w y) :=
    ⟨⟨plans_kept HP3.out hk, doms_kept HD3.out hk, streams_kept HQ3.out hk, arrivals_kept HW3.out hk⟩, HS3.out.only hO (by omega) (by omega), (HT0.out.trans HV3.out).only hO (Nat.le_refl _)⟩
  clear k0 k1 k2 k3 k4 k5 k6 f0 f1 f2 f3 f4 f5 f6 hO hn hk hl
  have k0 := blk_cell hy 0
  have k1 := blk_cell hy 1
  have k2 := blk_cell hy 2
  have k3 := blk_cell hy 3
  have k4 := blk_cell hy 4
  have k5 := blk_cell hy 5
  have k6 := blk_cell hy 6
  simp only [List.getElem?_toArray, List.getElem?_cons_zero, List.getElem?_cons_succ] at k0 k1 k2 k3 k4 k5 k6
  go_wp2
  exact bodyPost_ret (v := .agg #[.int .i64 x1.frame, .int .i64 x1.epoch, .slice pp x1.plans.length cp, .slice pd x1.doms.length cd, .int .i64 x2, .slice ps x3.length cs, .slice pa x4.length ca]) (by simp [results, Tryz.results14, go_sem, k0, k1, k2, k3, k4, k5, k6]) rfl ⟨pp, cp, pd, cd, ps, cs, pa, ca, rfl, HF.out⟩
  end Go.Proofs.YtmpgeabfogcblaaGreat

namespace Go.Proofs.YtmpgeabfogcblaaGreat
open Go.RowKit

theorem flatten_at {n : Nat} : ∀ (css : List (List Value)) (i : Nat) (cs : List Value) (j : Nat), (∀ c ∈ css, c.length = n) → css[i]? = some cs → j < n → css.flatten[i * n + j]? = cs[j]?
  | [], _, _, _, _, h, _ => by simp at h
  | c :: css, 0, cs, j, hl, h, hj => by
    simp at h; subst h
    rw [List.flatten_cons, Nat.zero_mul, Nat.zero_add, List.getElem?_append_left (by rw [hl c (List.mem_cons_self ..)]; exact hj)]
  | c :: css, i + 1, cs, j, hl, h, hj => by
    have hc := hl c (List.mem_cons_self ..)
    rw [List.flatten_cons, List.getElem?_append_right (by rw [hc, Nat.add_mul]; omega), hc, show (i + 1) * n + j - n = i * n + j by rw [Nat.add_mul]; omega]
    exact flatten_at css i cs j (fun c hc => hl c (List.mem_cons_of_mem _ hc)) (by simpa using h) hj
theorem Rowed.slc {α : Type} {T n base : Nat} {El : World → List Value → α → Prop} {w : World} {v : Value} {xs : List α} {E : World → Nat → Nat → α → Prop}
    (hE : ∀ b off cs x, cs.length = n → El w cs x → (∀ j, j < n → w.cell? ⟨b, off + j, none⟩ = cs[j]?) → E w b off x) (h : Rowed T n El base w v xs) : Slc n E w v xs := by
  obtain ⟨css, ho, hl, hf⟩ := h
  rcases ho.2 with ⟨rfl, h0⟩ | ⟨g, cap, cur, rfl, _, hg, hle, hmx, hsz, ht⟩
  · exact ⟨none, 0, by rw [h0], by omega, by unfold maxLen; omega, fun hp => by omega⟩
  · refine ⟨some ⟨g, 0, none⟩, cap, rfl, hle, hmx, fun _ => ⟨g, 0, rfl, fun i x hx => ?_⟩⟩
    obtain ⟨cs, hcs, hel⟩ := hf.get hx
    refine hE _ _ cs x (hl cs (List.mem_of_getElem? hcs)) hel fun j hj => ?_
    rw [cell_of_row w g _ cur T (0, 0) hg, Nat.zero_add]
    have hi : i < xs.length := (List.getElem?_eq_some_iff.1 hx).1
    have h1 : i * n + j < xs.length * n := by
      have : (i + 1) * n ≤ xs.length * n := Nat.mul_le_mul_right n hi
      rw [Nat.add_mul] at this
      omega
    have h2 := flatten_at css i cs j hl hcs hj
    rw [← ht, List.getElem?_take, if_pos h1] at h2
    simpa using h2
theorem int_wf {x : Int} (h : -1 ≤ x ∧ x ≤ 1048576) : (Lit.int .i64 x).wf = true := by
  have e1 : IntKind.i64.min = -9223372036854775808 := by decide
  have e2 : IntKind.i64.max = 9223372036854775807 := by decide
  simp [Lit.wf, e1, e2]; omega
theorem nums_slc {w : World} {v : Value} {l : List Int} (h : Rowed 3 1 ElI 0 w v l) : Nums .i64 w v l := h.slc fun b off cs x _ he hc => by
  obtain ⟨rfl, hx⟩ := he
  exact ⟨by simpa using hc 0 (by omega), int_wf hx⟩
theorem rows_slc {w : World} {v : Value} {l : List (List Int)} (h : Rowed 89 1 ElR 0 w v l) : RowsV w v l := h.slc fun b off cs x _ he hc => by
  obtain ⟨v, rfl, hr⟩ := he
  exact ⟨v, by simpa using hc 0 (by omega), nums_slc hr⟩
theorem doms_slc {w : World} {v : Value} {l : List Dom} (h : Rowed 94 10 ElD 0 w v l) : DomsV w v l := h.slc fun b off cs x _ he hc => by
  obtain ⟨vr, ve, rfl, h1, h2, h3⟩ := he
  exact ⟨vr, ve, ⟨by simpa [DomCells] using hc 0 (by omega), by simpa [DomCells] using hc 1 (by omega), by simpa [DomCells] using hc 2 (by omega), by simpa [DomCells] using hc 3 (by omega), by simpa [DomCells] using hc 4 (by omega),
    by simpa [DomCells] using hc 5 (by omega), by simpa [DomCells] using hc 6 (by omega), by simpa [DomCells] using hc 7 (by omega), by simpa [DomCells] using hc 8 (by omega), by simpa [DomCells] using hc 9 (by omega)⟩, rows_slc h1, nums_slc h2, h3⟩
theorem axns_slc {w : World} {v : Value} {l : List Axn} (h : Rowed 43 3 ElA 0 w v l) : AxnsV w v l := h.slc fun b off cs x _ he hc => by
  have he' : cs = _ := he
  subst he'
  exact ⟨by simpa using hc 0 (by omega), by simpa using hc 1 (by omega), by simpa using hc 2 (by omega)⟩
theorem arvs_slc {w : World} {v : Value} {l : List Arv} (h : Rowed 46 2 ElV 0 w v l) : ArvsV w v l := h.slc fun b off cs x _ he hc => by
  have he' : cs = _ := he
  subst he'
  exact ⟨by simpa using hc 0 (by omega), by simpa using hc 1 (by omega)⟩
theorem streams_slc {w : World} {v : Value} {l : List (List Axn)} (h : Rowed 44 1 ElS 0 w v l) : StreamsV w v l := h.slc fun b off cs x _ he hc => by
  obtain ⟨v, rfl, hr⟩ := he
  exact ⟨v, by simpa using hc 0 (by omega), axns_slc hr⟩
theorem arrivals_slc {w : World} {v : Value} {l : List (List Arv)} (h : Rowed 47 1 ElW 0 w v l) : ArrsV w v l := h.slc fun b off cs x _ he hc => by
  obtain ⟨v, rfl, hr⟩ := he
  exact ⟨v, by simpa using hc 0 (by omega), arvs_slc hr⟩
theorem ScrRows.scrV {w : World} {q : Scr} {pv dv sv av : Value} (h : ScrRows w q pv dv sv av) : ScrV w q pv dv sv av := ⟨⟨rows_slc h.plans, doms_slc h.doms⟩, streams_slc h.streams, arrivals_slc h.arrivals⟩

/-- No script. -/
abbrev noScrV : Value := .agg #[.int .i64 0, .int .i64 0, .slice none 0 0, .slice none 0 0, .int .i64 0, .slice none 0 0, .slice none 0 0]
def ReadBad (w : World) (e : Ending) (w' : World) : Prop := ∃ n : Nat, n ≠ 0 ∧ e = .returned (.tuple #[noScrV, .iface 39 (.int .i64 n)]) ∧ Ext w w'
def ReadGood (q : Scr) (w : World) (e : Ending) (w' : World) : Prop := ∃ pp cp pd cd ps cs pa ca,
  e = .returned (.tuple #[scrV q (.slice pp q.conf.plans.length cp) (.slice pd q.conf.doms.length cd) (.slice ps q.streams.length cs) (.slice pa q.arrivals.length ca), .nilIface]) ∧
  ScrV w' q (.slice pp q.conf.plans.length cp) (.slice pd q.conf.doms.length cd) (.slice ps q.streams.length cs) (.slice pa q.arrivals.length ca) ∧ Ext w w'
theorem cell_set_self {w : World} {p : Addr} {x : Value} (h : w.cell? p = some x) (u : Value) : (w.setCell p u).cell? p = some u := by
  exact World.cell?_setCell_same w p u h
set_option maxRecDepth 100000 in
set_option maxHeartbeats 4000000 in
theorem read_large (w : World) (l : List UInt8) (hl : 40000 < l.length) :
    Calls Tryz.prog 5 #[.string (str l)] w (fun e w' => e = .returned (.tuple #[noScrV, .iface 39 (.int .i64 12)]) ∧ Ext w w') := by
  go_enter Tryz.func5, Tryz.ntmps5
  go_wp2_with fail
  exact bodyPost_ret (v := .tuple #[noScrV, .iface 39 (.int .i64 12)]) (by simp [results, Tryz.results5, go_sem]) rfl ⟨rfl, (by repeat (first | exact Ext.refl _ | assumption | refine Ext.more ?_ _ | refine Ext.drew ?_ | refine Ext.drewN ?_ _ | refine Ext.alloc ?_ _ | refine Ext.setCell ?_ (by simp; try omega) _ | refine Ext.trans ?_ (by assumption)))⟩

abbrev zeroScrO : Obj := .cells #[.int .i64 0, .int .i64 0, .slice none 0 0, .slice none 0 0, .int .i64 0, .slice none 0 0, .slice none 0 0] 30 (0, 0)
/-- Ahead of the reading. -/
abbrev readW (w : World) (l : List UInt8) : World := ((w.alloc zeroScrO).alloc (.cells #[.string (str l), .nilIface] 83 (0, 0))).alloc (.cells #[.pointer (some ⟨w.heap.size + 1, 0, none⟩), .bool false] 53 (0, 0))
/-- At the end: the result's block, the error. -/
def ReadM (N : Nat) (ev : Value) (o : Obj) (W : World) (a' : Act) (y : World) : Prop :=
  ∃ (u0 u1 u4 u5 u6 u7 u8 u9 u10 u11 u12 u13 u14 u15 u16 u17 u18 u19 u20 u21 u22 u23 u24 u25 u26 u27 u28 u29 u30 u31 u32 u33 u34 : Value), a' = { tmps := #[u0, u1, .pointer (some ⟨N, 0, none⟩), ev, u4, u5, u6, u7, u8, u9, u10, u11, u12, u13, u14, u15, u16, u17, u18, u19, u20, u21, u22, u23, u24, u25, u26, u27, u28, u29, u30, u31, u32, u33, u34], defers := [] } ∧ y.heap[N]? = some o ∧ Only N W y
theorem read_start (w : World) (l : List UInt8) (hl : l.length ≤ 40000) : Sr (w.heap.size + 2) (w.heap.size + 1) ⟨⟨l, 0⟩, false⟩ (readW w l) := by
  refine ⟨?_, ?_, hl⟩
  · have := heap_new2 (w.alloc zeroScrO) (.cells #[.string (str l), .nilIface] 83 (0, 0)) (.cells #[.pointer (some ⟨w.heap.size + 1, 0, none⟩), .bool false] 53 (0, 0))
    rwa [World.size_alloc] at this
  · have := heap_new2 w zeroScrO (.cells #[.string (str l), .nilIface] 83 (0, 0))
    exact block_ext (Ext.alloc (Ext.refl _) _) this
theorem read_zero (w : World) (l : List UInt8) : (readW w l).heap[w.heap.size]? = some zeroScrO :=
  block_ext (Ext.alloc (Ext.refl _) _) (block_ext (Ext.alloc (Ext.refl _) _) (heap_alloc_new w _))
theorem read_ext (w : World) (l : List UInt8) : Ext w (readW w l) := Ext.alloc (Ext.alloc (Ext.alloc (Ext.refl w) _) _) _
theorem read_size (w : World) (l : List UInt8) : (readW w l).heap.size = w.heap.size + 3 := by simp [readW, World.size_alloc]

set_option maxRecDepth 100000 in
set_option maxHeartbeats 4000000 in
theorem read_bad (w : World) (l : List UInt8) (hl : l.length ≤ 40000) (q : Scr) (s : Rb) (hq : scrP ⟨⟨l, 0⟩, false⟩ = (q, s)) (hb : s.wrong = true ∨ s.wrong = false ∧ 0 < s.r.s.length ∨ s.wrong = false ∧ s.r.s.length = 0 ∧ isScr q ≠ 0) :
    Calls Tryz.prog 5 #[.string (str l)] w (ReadBad w) := by
  have HL := hid hl
  have hlb : decide ((40000 : Int) < (l.length : Int)) = false := by simp; omega
  have hsc := fun b c => script_any b c ⟨⟨l, 0⟩, false⟩
  rw [hq] at hsc
  have HSC := hid hsc
  clear hq hl hsc
  have HB := hid hb
  clear hb
  have hne := fun v w => run_neq_iface_nil (P := Tryz.prog) w 39 v Tryz.underlying32
  have hnn := fun w => run_neq_nil_nil' (P := Tryz.prog) w Tryz.underlying32
  have hee := fun v w => run_eql_iface_nil (P := Tryz.prog) w 39 v Tryz.underlying32
  have hen := fun w => run_eql_nil_nil' (P := Tryz.prog) w Tryz.underlying32
  go_enter Tryz.func5, Tryz.ntmps5
  go_upto_region 5 with (first
    | (go_at_call 13; refine (of_any l _).mono ?_; rintro e w1 ⟨rfl, rfl⟩)
    | (go_at_call 14; refine (HSC.out (w.heap.size + 2) (w.heap.size + 1) _ (read_start w l HL.out)).mono ?_; rintro e w2 ⟨pp, cp, pd, cd, ps, cs, pa, ca, rfl, hr, hs, ht⟩; have HR := hid hr; have HS := hid hs; have HT := hid ht; clear hr hs ht))
  have hz := read_size w l
  have hsz := HT.out.size
  rw [hz] at hsz
  have hX : Ext w w2 := ⟨(read_ext w l).below.trans (HT.out.below (by omega) (by omega) (read_ext w l).size)⟩
  refine wp_forget (fun v => Sr (w.heap.size + 1 + 1) (w.heap.size + 1) s v ∧ Ext w v ∧ v.heap[w.heap.size]? = some zeroScrO ∧ v.heap[w2.heap.size]? = some (.cells #[.int .i64 q.conf.frame, .int .i64 q.conf.epoch, .slice pp q.conf.plans.length cp, .slice pd q.conf.doms.length cd, .int .i64 q.horizon, .slice ps q.streams.length cs, .slice pa q.arrivals.length ca] 30 (0, 0)) ∧ ScrRows v q (.slice pp q.conf.plans.length cp) (.slice pd q.conf.doms.length cd) (.slice ps q.streams.length cs) (.slice pa q.arrivals.length ca))
    ⟨HS.out.ext (by repeat (first | exact Ext.refl _ | assumption | refine Ext.more ?_ _ | refine Ext.drew ?_ | refine Ext.drewN ?_ _ | refine Ext.alloc ?_ _ | refine Ext.setCell ?_ (by simp; try omega) _ | refine Ext.trans ?_ (by assumption))), hX.alloc _, block_ext (by repeat (first | exact Ext.refl _ | assumption | refine Ext.more ?_ _ | refine Ext.drew ?_ | refine Ext.drewN ?_ _ | refine Ext.alloc ?_ _ | refine Ext.setCell ?_ (by simp; try omega) _ | refine Ext.trans ?_ (by assumption))) (HT.out.blk (read_zero w l) (by omega) (by omega)), heap_alloc_new w2 _, HR.out.kept (Kept.of_ext (by repeat (first | exact Ext.refl _ | assumption | refine Ext.more ?_ _ | refine Ext.drew ?_ | refine Ext.drewN ?_ _ | refine Ext.alloc ?_ _ | refine Ext.setCell ?_ (by simp; try omega) _ | refine Ext.trans ?_ (by assumption))))⟩ ?_
  obtain ⟨C, hC⟩ : ∃ C, C = w2.heap.size := ⟨_, rfl⟩
  rw [← hC]
  have HCn : Hid (w.heap.size < C) := by unfold Hid; omega
  clear hC hX hz hsz HR HS HT
  clear w2
  rintro v ⟨hs, hx, hR, hS, hr⟩
  have hRl := lt_of_block hR
  have hSl := lt_of_block hS
  have c0 := hs.cell0
  have HS := hid hs
  have HX := hid hx
  have HR := hid hr
  have HRB := hid hR
  have HSB := hid hS
  clear hs hr hR hS hx
  rcases HB.out with hw | ⟨hw, hl⟩ | ⟨hw, hl, hi⟩
  · have HW := hid hw
    have HN := hid (wrongE_bad hw)
    clear hw HB
    have m0 := blk_cell HRB.out 0
    have m1 := blk_cell HRB.out 1
    have m2 := blk_cell HRB.out 2
    have m3 := blk_cell HRB.out 3
    have m4 := blk_cell HRB.out 4
    have m5 := blk_cell HRB.out 5
    have m6 := blk_cell HRB.out 6
    have f0 := blk_free HRB.out 0
    have f1 := blk_free HRB.out 1
    have f2 := blk_free HRB.out 2
    have f3 := blk_free HRB.out 3
    have f4 := blk_free HRB.out 4
    have f5 := blk_free HRB.out 5
    have f6 := blk_free HRB.out 6
    simp only [List.getElem?_toArray, List.getElem?_cons_zero, List.getElem?_cons_succ] at m0 m1 m2 m3 m4 m5 m6
    go_upto_region 11 with (go_at_call 15; refine (srWrong_bad HS.out HW.out).mono ?_; rintro e w1 ⟨rfl, hw1⟩; rw [← hw1]; clear hw1; clear w1)
    refine wp_meet (ReadM w.heap.size (.iface 39 (.int .i64 (wrongE s : Nat))) (zeroScrO) v) ?_ ?_
    · go_wp2
      exact ⟨_, _, _, _, _, _, _, _, _, _, _, _, _, _, _, _, _, _, _, _, _, _, _, _, _, _, _, _, _, _, _, _, _, rfl, sets7 HRB.out _ _ _ _ _ _ _, (((((((Only.refl _ _).setCell _).setCell _).setCell _).setCell _).setCell _).setCell _).setCell _⟩
    · refine fun a' y => ex_elim fun u0 => ex_elim fun u1 => ex_elim fun u4 => ex_elim fun u5 => ex_elim fun u6 => ex_elim fun u7 => ex_elim fun u8 => ex_elim fun u9 => ex_elim fun u10 => ex_elim fun u11 => ex_elim fun u12 => ex_elim fun u13 => ex_elim fun u14 => ex_elim fun u15 => ex_elim fun u16 => ex_elim fun u17 => ex_elim fun u18 => ex_elim fun u19 => ex_elim fun u20 => ex_elim fun u21 => ex_elim fun u22 => ex_elim fun u23 => ex_elim fun u24 => ex_elim fun u25 => ex_elim fun u26 => ex_elim fun u27 => ex_elim fun u28 => ex_elim fun u29 => ex_elim fun u30 => ex_elim fun u31 => ex_elim fun u32 => ex_elim fun u33 => ex_elim fun u34 => ?_
      rintro ⟨rfl, hy, hO⟩
      have hF : Ext w y := ⟨HX.out.below.trans (hO.below (Nat.le_refl _) HX.out.size)⟩
      have HF := hid hF
      clear hF m0 f0 m1 f1 m2 f2 m3 f3 m4 f4 m5 f5 m6 f6
      have HO := hid hO
      clear hO
      have m0 := blk_cell hy 0
      have m1 := blk_cell hy 1
      have m2 := blk_cell hy 2
      have m3 := blk_cell hy 3
      have m4 := blk_cell hy 4
      have m5 := blk_cell hy 5
      have m6 := blk_cell hy 6
      simp only [List.getElem?_toArray, List.getElem?_cons_zero, List.getElem?_cons_succ] at m0 m1 m2 m3 m4 m5 m6
      go_wp2
      exact bodyPost_ret (v := .tuple #[noScrV, .iface 39 (.int .i64 (wrongE s : Nat))]) (by simp [results, Tryz.results5, go_sem, m0, m1, m2, m3, m4, m5, m6]) rfl ⟨wrongE s, HN.out, rfl, HF.out⟩
  · have HW := hid hw
    have hl' : (0 : Int) < s.r.s.length := by omega
    clear hw HB hl
    have m0 := blk_cell HRB.out 0
    have m1 := blk_cell HRB.out 1
    have m2 := blk_cell HRB.out 2
    have m3 := blk_cell HRB.out 3
    have m4 := blk_cell HRB.out 4
    have m5 := blk_cell HRB.out 5
    have m6 := blk_cell HRB.out 6
    have f0 := blk_free HRB.out 0
    have f1 := blk_free HRB.out 1
    have f2 := blk_free HRB.out 2
    have f3 := blk_free HRB.out 3
    have f4 := blk_free HRB.out 4
    have f5 := blk_free HRB.out 5
    have f6 := blk_free HRB.out 6
    simp only [List.getElem?_toArray, List.getElem?_cons_zero, List.getElem?_cons_succ] at m0 m1 m2 m3 m4 m5 m6
    go_upto_region 11 with (first | (go_at_call 15; refine (srWrong_ok HS.out HW.out).mono ?_; rintro e w1 ⟨rfl, hw1⟩; rw [← hw1]; clear hw1; clear w1) | (go_at_call 16; refine (left_any _ _ _ HS.out.rd).mono ?_; rintro e w1 ⟨rfl, hw1⟩; rw [hw1]; clear hw1; clear w1))
    refine wp_meet (ReadM w.heap.size (.iface 39 (.int .i64 10)) (zeroScrO) v) ?_ ?_
    · go_wp2
      exact ⟨_, _, _, _, _, _, _, _, _, _, _, _, _, _, _, _, _, _, _, _, _, _, _, _, _, _, _, _, _, _, _, _, _, rfl, sets7 HRB.out _ _ _ _ _ _ _, (((((((Only.refl _ _).setCell _).setCell _).setCell _).setCell _).setCell _).setCell _).setCell _⟩
    · refine fun a' y => ex_elim fun u0 => ex_elim fun u1 => ex_elim fun u4 => ex_elim fun u5 => ex_elim fun u6 => ex_elim fun u7 => ex_elim fun u8 => ex_elim fun u9 => ex_elim fun u10 => ex_elim fun u11 => ex_elim fun u12 => ex_elim fun u13 => ex_elim fun u14 => ex_elim fun u15 => ex_elim fun u16 => ex_elim fun u17 => ex_elim fun u18 => ex_elim fun u19 => ex_elim fun u20 => ex_elim fun u21 => ex_elim fun u22 => ex_elim fun u23 => ex_elim fun u24 => ex_elim fun u25 => ex_elim fun u26 => ex_elim fun u27 => ex_elim fun u28 => ex_elim fun u29 => ex_elim fun u30 => ex_elim fun u31 => ex_elim fun u32 => ex_elim fun u33 => ex_elim fun u34 => ?_
      rintro ⟨rfl, hy, hO⟩
      have hF : Ext w y := ⟨HX.out.below.trans (hO.below (Nat.le_refl _) HX.out.size)⟩
      have HF := hid hF
      clear hF m0 f0 m1 f1 m2 f2 m3 f3 m4 f4 m5 f5 m6 f6
      have HO := hid hO
      clear hO
      have m0 := blk_cell hy 0
      have m1 := blk_cell hy 1
      have m2 := blk_cell hy 2
      have m3 := blk_cell hy 3
      have m4 := blk_cell hy 4
      have m5 := blk_cell hy 5
      have m6 := blk_cell hy 6
      simp only [List.getElem?_toArray, List.getElem?_cons_zero, List.getElem?_cons_succ] at m0 m1 m2 m3 m4 m5 m6
      go_wp2
      exact bodyPost_ret (v := .tuple #[noScrV, .iface 39 (.int .i64 10)]) (by simp [results, Tryz.results5, go_sem, m0, m1, m2, m3, m4, m5, m6]) rfl ⟨10, by decide, rfl, HF.out⟩
  · have HW := hid hw
    have hl' : ¬ (0 : Int) < s.r.s.length := by omega
    have hlb' : decide ((0 : Int) < (s.r.s.length : Int)) = false := by simpa using hl'
    have HI := hid hi
    have hI := scrIs_any v q _ _ _ _ HR.out.scrV
    rw [errV_pos hi] at hI
    have HII := hid hI
    clear hw HB hl hi hI
    have k0 := blk_cell HSB.out 0
    have k1 := blk_cell HSB.out 1
    have k2 := blk_cell HSB.out 2
    have k3 := blk_cell HSB.out 3
    have k4 := blk_cell HSB.out 4
    have k5 := blk_cell HSB.out 5
    have k6 := blk_cell HSB.out 6
    simp only [List.getElem?_toArray, List.getElem?_cons_zero, List.getElem?_cons_succ] at k0 k1 k2 k3 k4 k5 k6
    go_upto_region 10 with (first | (go_at_call 15; refine (srWrong_ok HS.out HW.out).mono ?_; rintro e w1 ⟨rfl, hw1⟩; rw [← hw1]; clear hw1; clear w1) | (go_at_call 16; refine (left_any _ _ _ HS.out.rd).mono ?_; rintro e w1 ⟨rfl, hw1⟩; rw [hw1]; clear hw1; clear w1) | (go_at_call 11; refine HII.out.yields ?_; intro p1))
    refine wp_forget (fun y => Ext v y) (by repeat (first | exact Ext.refl _ | assumption | refine Ext.more ?_ _ | refine Ext.drew ?_ | refine Ext.drewN ?_ _ | refine Ext.alloc ?_ _ | refine Ext.setCell ?_ (by simp; try omega) _ | refine Ext.trans ?_ (by assumption))) ?_
    clear p1
    rintro v1 hx1
    have HRB1 := hid (block_ext hx1 HRB.out)
    have HX1 := hid (HX.out.trans hx1)
    clear k0 k1 k2 k3 k4 k5 k6 c0 hRl hSl hx1 HSB HRB HX
    have m0 := blk_cell HRB1.out 0
    have m1 := blk_cell HRB1.out 1
    have m2 := blk_cell HRB1.out 2
    have m3 := blk_cell HRB1.out 3
    have m4 := blk_cell HRB1.out 4
    have m5 := blk_cell HRB1.out 5
    have m6 := blk_cell HRB1.out 6
    have f0 := blk_free HRB1.out 0
    have f1 := blk_free HRB1.out 1
    have f2 := blk_free HRB1.out 2
    have f3 := blk_free HRB1.out 3
    have f4 := blk_free HRB1.out 4
    have f5 := blk_free HRB1.out 5
    have f6 := blk_free HRB1.out 6
    simp only [List.getElem?_toArray, List.getElem?_cons_zero, List.getElem?_cons_succ] at m0 m1 m2 m3 m4 m5 m6
    go_upto_region 11 with (fail)
    refine wp_meet (ReadM w.heap.size (.iface 39 (.int .i64 (isScr q : Nat))) (zeroScrO) v1) ?_ ?_
    · go_wp2
      exact ⟨_, _, _, _, _, _, _, _, _, _, _, _, _, _, _, _, _, _, _, _, _, _, _, _, _, _, _, _, _, _, _, _, _, rfl, sets7 HRB1.out _ _ _ _ _ _ _, (((((((Only.refl _ _).setCell _).setCell _).setCell _).setCell _).setCell _).setCell _).setCell _⟩
    · refine fun a' y => ex_elim fun u0 => ex_elim fun u1 => ex_elim fun u4 => ex_elim fun u5 => ex_elim fun u6 => ex_elim fun u7 => ex_elim fun u8 => ex_elim fun u9 => ex_elim fun u10 => ex_elim fun u11 => ex_elim fun u12 => ex_elim fun u13 => ex_elim fun u14 => ex_elim fun u15 => ex_elim fun u16 => ex_elim fun u17 => ex_elim fun u18 => ex_elim fun u19 => ex_elim fun u20 => ex_elim fun u21 => ex_elim fun u22 => ex_elim fun u23 => ex_elim fun u24 => ex_elim fun u25 => ex_elim fun u26 => ex_elim fun u27 => ex_elim fun u28 => ex_elim fun u29 => ex_elim fun u30 => ex_elim fun u31 => ex_elim fun u32 => ex_elim fun u33 => ex_elim fun u34 => ?_
      rintro ⟨rfl, hy, hO⟩
      have hF : Ext w y := ⟨HX1.out.below.trans (hO.below (Nat.le_refl _) HX1.out.size)⟩
      have HF := hid hF
      clear hF m0 f0 m1 f1 m2 f2 m3 f3 m4 f4 m5 f5 m6 f6
      have HO := hid hO
      clear hO
      have m0 := blk_cell hy 0
      have m1 := blk_cell hy 1
      have m2 := blk_cell hy 2
      have m3 := blk_cell hy 3
      have m4 := blk_cell hy 4
      have m5 := blk_cell hy 5
      have m6 := blk_cell hy 6
      simp only [List.getElem?_toArray, List.getElem?_cons_zero, List.getElem?_cons_succ] at m0 m1 m2 m3 m4 m5 m6
      go_wp2
      exact bodyPost_ret (v := .tuple #[noScrV, .iface 39 (.int .i64 (isScr q : Nat))]) (by simp [results, Tryz.results5, go_sem, m0, m1, m2, m3, m4, m5, m6]) rfl ⟨isScr q, HI.out, rfl, HF.out⟩
set_option maxRecDepth 100000 in
set_option maxHeartbeats 4000000 in
theorem read_good (w : World) (l : List UInt8) (hl : l.length ≤ 40000) (q : Scr) (s : Rb) (hq : scrP ⟨⟨l, 0⟩, false⟩ = (q, s)) (hw : s.wrong = false) (hl0 : s.r.s.length = 0) (hi : isScr q = 0) :
    Calls Tryz.prog 5 #[.string (str l)] w (ReadGood q w) := by
  have HL := hid hl
  have hlb : decide ((40000 : Int) < (l.length : Int)) = false := by simp; omega
  have hsc := fun b c => script_any b c ⟨⟨l, 0⟩, false⟩
  rw [hq] at hsc
  have HSC := hid hsc
  clear hq hl hsc
  have HW := hid hw
  have hl' : ¬ (0 : Int) < s.r.s.length := by omega
  have hlb' : decide ((0 : Int) < (s.r.s.length : Int)) = false := by simpa using hl'
  have HI := hid hi
  clear hw hl0 hi
  have hne := fun v w => run_neq_iface_nil (P := Tryz.prog) w 39 v Tryz.underlying32
  have hnn := fun w => run_neq_nil_nil' (P := Tryz.prog) w Tryz.underlying32
  have hee := fun v w => run_eql_iface_nil (P := Tryz.prog) w 39 v Tryz.underlying32
  have hen := fun w => run_eql_nil_nil' (P := Tryz.prog) w Tryz.underlying32
  go_enter Tryz.func5, Tryz.ntmps5
  go_upto_region 5 with (first
    | (go_at_call 13; refine (of_any l _).mono ?_; rintro e w1 ⟨rfl, rfl⟩)
    | (go_at_call 14; refine (HSC.out (w.heap.size + 2) (w.heap.size + 1) _ (read_start w l HL.out)).mono ?_; rintro e w2 ⟨pp, cp, pd, cd, ps, cs, pa, ca, rfl, hr, hs, ht⟩; have HR := hid hr; have HS := hid hs; have HT := hid ht; clear hr hs ht))
  have hz := read_size w l
  have hsz := HT.out.size
  rw [hz] at hsz
  have hX : Ext w w2 := ⟨(read_ext w l).below.trans (HT.out.below (by omega) (by omega) (read_ext w l).size)⟩
  refine wp_forget (fun v => Sr (w.heap.size + 1 + 1) (w.heap.size + 1) s v ∧ Ext w v ∧ v.heap[w.heap.size]? = some zeroScrO ∧ v.heap[w2.heap.size]? = some (.cells #[.int .i64 q.conf.frame, .int .i64 q.conf.epoch, .slice pp q.conf.plans.length cp, .slice pd q.conf.doms.length cd, .int .i64 q.horizon, .slice ps q.streams.length cs, .slice pa q.arrivals.length ca] 30 (0, 0)) ∧ ScrRows v q (.slice pp q.conf.plans.length cp) (.slice pd q.conf.doms.length cd) (.slice ps q.streams.length cs) (.slice pa q.arrivals.length ca))
    ⟨HS.out.ext (by repeat (first | exact Ext.refl _ | assumption | refine Ext.more ?_ _ | refine Ext.drew ?_ | refine Ext.drewN ?_ _ | refine Ext.alloc ?_ _ | refine Ext.setCell ?_ (by simp; try omega) _ | refine Ext.trans ?_ (by assumption))), hX.alloc _, block_ext (by repeat (first | exact Ext.refl _ | assumption | refine Ext.more ?_ _ | refine Ext.drew ?_ | refine Ext.drewN ?_ _ | refine Ext.alloc ?_ _ | refine Ext.setCell ?_ (by simp; try omega) _ | refine Ext.trans ?_ (by assumption))) (HT.out.blk (read_zero w l) (by omega) (by omega)), heap_alloc_new w2 _, HR.out.kept (Kept.of_ext (by repeat (first | exact Ext.refl _ | assumption | refine Ext.more ?_ _ | refine Ext.drew ?_ | refine Ext.drewN ?_ _ | refine Ext.alloc ?_ _ | refine Ext.setCell ?_ (by simp; try omega) _ | refine Ext.trans ?_ (by assumption))))⟩ ?_
  obtain ⟨C, hC⟩ : ∃ C, C = w2.heap.size := ⟨_, rfl⟩
  rw [← hC]
  have HCn : Hid (w.heap.size < C) := by unfold Hid; omega
  clear hC hX hz hsz HR HS HT
  clear w2
  rintro v ⟨hs, hx, hR, hS, hr⟩
  have hRl := lt_of_block hR
  have hSl := lt_of_block hS
  have c0 := hs.cell0
  have HS := hid hs
  have HX := hid hx
  have HR := hid hr
  have HRB := hid hR
  have HSB := hid hS
  clear hs hr hR hS hx
  have hI := scrIs_any v q _ _ _ _ HR.out.scrV
  rw [HI.out, errV_0] at hI
  have HII := hid hI
  clear hI
  have k0 := blk_cell HSB.out 0
  have k1 := blk_cell HSB.out 1
  have k2 := blk_cell HSB.out 2
  have k3 := blk_cell HSB.out 3
  have k4 := blk_cell HSB.out 4
  have k5 := blk_cell HSB.out 5
  have k6 := blk_cell HSB.out 6
  simp only [List.getElem?_toArray, List.getElem?_cons_zero, List.getElem?_cons_succ] at k0 k1 k2 k3 k4 k5 k6
  go_upto_region 10 with (first | (go_at_call 15; refine (srWrong_ok HS.out HW.out).mono ?_; rintro e w1 ⟨rfl, hw1⟩; rw [← hw1]; clear hw1; clear w1) | (go_at_call 16; refine (left_any _ _ _ HS.out.rd).mono ?_; rintro e w1 ⟨rfl, hw1⟩; rw [hw1]; clear hw1; clear w1) | (go_at_call 11; refine HII.out.yields ?_; intro p1))
  refine wp_forget (fun y => Ext v y) (by repeat (first | exact Ext.refl _ | assumption | refine Ext.more ?_ _ | refine Ext.drew ?_ | refine Ext.drewN ?_ _ | refine Ext.alloc ?_ _ | refine Ext.setCell ?_ (by simp; try omega) _ | refine Ext.trans ?_ (by assumption))) ?_
  clear p1
  rintro v1 hx1
  have HRB1 := hid (block_ext hx1 HRB.out)
  have HSB1 := hid (block_ext hx1 HSB.out)
  have HX1 := hid (HX.out.trans hx1)
  have HV1 := hid (HR.out.kept (Kept.of_ext hx1))
  clear k0 k1 k2 k3 k4 k5 k6 c0 hRl hSl hx1 HRB HX
  have k0 := blk_cell HSB1.out 0
  have k1 := blk_cell HSB1.out 1
  have k2 := blk_cell HSB1.out 2
  have k3 := blk_cell HSB1.out 3
  have k4 := blk_cell HSB1.out 4
  have k5 := blk_cell HSB1.out 5
  have k6 := blk_cell HSB1.out 6
  simp only [List.getElem?_toArray, List.getElem?_cons_zero, List.getElem?_cons_succ] at k0 k1 k2 k3 k4 k5 k6
  have m0 := blk_cell HRB1.out 0
  have m1 := blk_cell HRB1.out 1
  have m2 := blk_cell HRB1.out 2
  have m3 := blk_cell HRB1.out 3
  have m4 := blk_cell HRB1.out 4
  have m5 := blk_cell HRB1.out 5
  have m6 := blk_cell HRB1.out 6
  have f0 := blk_free HRB1.out 0
  have f1 := blk_free HRB1.out 1
  have f2 := blk_free HRB1.out 2
  have f3 := blk_free HRB1.out 3
  have f4 := blk_free HRB1.out 4
  have f5 := blk_free HRB1.out 5
  have f6 := blk_free HRB1.out 6
  simp only [List.getElem?_toArray, List.getElem?_cons_zero, List.getElem?_cons_succ] at m0 m1 m2 m3 m4 m5 m6
  go_upto_region 12 with (fail)
  refine wp_meet (ReadM w.heap.size (.nilIface) (.cells #[.int .i64 q.conf.frame, .int .i64 q.conf.epoch, .slice pp q.conf.plans.length cp, .slice pd q.conf.doms.length cd, .int .i64 q.horizon, .slice ps q.streams.length cs, .slice pa q.arrivals.length ca] 30 (0, 0)) v1) ?_ ?_
  · go_wp2
    exact ⟨_, _, _, _, _, _, _, _, _, _, _, _, _, _, _, _, _, _, _, _, _, _, _, _, _, _, _, _, _, _, _, _, _, rfl, sets7 HRB1.out _ _ _ _ _ _ _, (((((((Only.refl _ _).setCell _).setCell _).setCell _).setCell _).setCell _).setCell _).setCell _⟩
  · refine fun a' y => ex_elim fun u0 => ex_elim fun u1 => ex_elim fun u4 => ex_elim fun u5 => ex_elim fun u6 => ex_elim fun u7 => ex_elim fun u8 => ex_elim fun u9 => ex_elim fun u10 => ex_elim fun u11 => ex_elim fun u12 => ex_elim fun u13 => ex_elim fun u14 => ex_elim fun u15 => ex_elim fun u16 => ex_elim fun u17 => ex_elim fun u18 => ex_elim fun u19 => ex_elim fun u20 => ex_elim fun u21 => ex_elim fun u22 => ex_elim fun u23 => ex_elim fun u24 => ex_elim fun u25 => ex_elim fun u26 => ex_elim fun u27 => ex_elim fun u28 => ex_elim fun u29 => ex_elim fun u30 => ex_elim fun u31 => ex_elim fun u32 => ex_elim fun u33 => ex_elim fun u34 => ?_
    rintro ⟨rfl, hy, hO⟩
    have hF : Ext w y := ⟨HX1.out.below.trans (hO.below (Nat.le_refl _) HX1.out.size)⟩
    have HF := hid hF
    clear hF m0 f0 m1 f1 m2 f2 m3 f3 m4 f4 m5 f5 m6 f6
    have HO := hid hO
    clear hO
    have m0 := blk_cell hy 0
    have m1 := blk_cell hy 1
    have m2 := blk_cell hy 2
    have m3 := blk_cell hy 3
    have m4 := blk_cell hy 4
    have m5 := blk_cell hy 5
    have m6 := blk_cell hy 6
    simp only [List.getElem?_toArray, List.getElem?_cons_zero, List.getElem?_cons_succ] at m0 m1 m2 m3 m4 m5 m6
    go_wp2
    exact bodyPost_ret (v := .tuple #[.agg #[.int .i64 q.conf.frame, .int .i64 q.conf.epoch, .slice pp q.conf.plans.length cp, .slice pd q.conf.doms.length cd, .int .i64 q.horizon, .slice ps q.streams.length cs, .slice pa q.arrivals.length ca], .nilIface]) (by simp [results, Tryz.results5, go_sem, m0, m1, m2, m3, m4, m5, m6]) rfl ⟨pp, cp, pd, cd, ps, cs, pa, ca, rfl, (HV1.out.kept (HO.out.kept HRB1.out (by decide))).scrV, HF.out⟩
end Go.Proofs.YtmpgeabfogcblaaGreat
