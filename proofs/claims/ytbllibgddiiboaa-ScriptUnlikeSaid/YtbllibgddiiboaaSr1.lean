/- What the script's reader takes in a row: many, at whatever element; numbers first. -/
import Derived.Test.YtbllibgddiiboaaSr0
namespace Go.Proofs.Ytbllibgddiiboaa
open Go.RowKit

def wrongE (s : Rb) : Nat := if s.b = true then 10 else s.r.e
theorem wrongE_ok {s : Rb} (h : s.wrong = false) : wrongE s = 0 := by
  obtain ⟨h1, h2⟩ := Rb.wrong_iff.1 h
  simp [wrongE, h1, h2]
theorem wrongE_bad {s : Rb} (h : s.wrong = true) : wrongE s ≠ 0 := by
  unfold wrongE
  split
  · omega
  · rename_i hb
    intro he
    have : s.wrong = false := Rb.wrong_iff.2 ⟨by simpa using hb, he⟩
    rw [this] at h; cases h
set_option maxHeartbeats 1000000 in
theorem srWrong_any (b c : Nat) (s : Rb) (w : World) (h : Sr b c s w) : Calls Try.prog 26 #[.pointer (some ⟨b, 0, none⟩)] w fun e w' => e = .returned (errV (wrongE s)) ∧ w = w' := by
  have c0 := h.cell0
  have c1 := h.cell1
  have H := hid h
  clear h
  cases hb : s.b
  all_goals
    have HB := hid hb
    rw [hb] at c1
    clear hb
    go_enter Try.func26, Try.ntmps26
    go_wp2_with (go_at_call 46; refine (err_any _ _ _ H.out.rd).mono ?_; rintro e w' ⟨rfl, rfl⟩)
    go_returns
    exact ⟨by simp [wrongE, HB.out, errV], rfl⟩
theorem srWrong_ok {b c : Nat} {s : Rb} {w : World} (h : Sr b c s w) (hw : s.wrong = false) : Calls Try.prog 26 #[.pointer (some ⟨b, 0, none⟩)] w fun e w' => e = .returned .nilIface ∧ w = w' :=
  (srWrong_any b c s w h).mono fun _ _ ⟨he, hx⟩ => ⟨by rw [he, wrongE_ok hw, errV_0], hx⟩
theorem srWrong_bad {b c : Nat} {s : Rb} {w : World} (h : Sr b c s w) (hw : s.wrong = true) : Calls Try.prog 26 #[.pointer (some ⟨b, 0, none⟩)] w fun e w' => e = .returned (.iface 34 (.int .i64 (wrongE s : Nat))) ∧ w = w' :=
  (srWrong_any b c s w h).mono fun _ _ ⟨he, hx⟩ => ⟨by rw [he, errV_pos (wrongE_bad hw)], hx⟩

/-! ### Rows of the reader's own -/

/-- Each to each. -/
def Fit {α β : Type} (R : β → α → Prop) : List β → List α → Prop
  | [], [] => True
  | c :: cs, x :: xs => R c x ∧ Fit R cs xs
  | _, _ => False
theorem Fit.len {α β : Type} {R : β → α → Prop} : ∀ {cs : List β} {xs : List α}, Fit R cs xs → cs.length = xs.length
  | [], [], _ => rfl
  | _ :: _, _ :: _, h => by simp [Fit.len h.2]
theorem Fit.mono {α β : Type} {R S : β → α → Prop} (hRS : ∀ c x, R c x → S c x) : ∀ {cs : List β} {xs : List α}, Fit R cs xs → Fit S cs xs
  | [], [], _ => trivial
  | _ :: _, _ :: _, h => ⟨hRS _ _ h.1, Fit.mono hRS h.2⟩
theorem Fit.snoc {α β : Type} {R : β → α → Prop} {c : β} {x : α} (hc : R c x) : ∀ {cs : List β} {xs : List α}, Fit R cs xs → Fit R (cs ++ [c]) (xs ++ [x])
  | [], [], _ => ⟨hc, trivial⟩
  | _ :: _, _ :: _, h => ⟨h.1, Fit.snoc hc h.2⟩
theorem Fit.get {α β : Type} {R : β → α → Prop} : ∀ {cs : List β} {xs : List α} {i : Nat} {x : α}, Fit R cs xs → xs[i]? = some x → ∃ c, cs[i]? = some c ∧ R c x
  | [], [], _, _, _, h => by simp at h
  | c :: _, _ :: _, 0, _, hf, h => by simp at h; subst h; exact ⟨c, rfl, hf.1⟩
  | _ :: _, _ :: _, i + 1, _, hf, h => by
    obtain ⟨c, h1, h2⟩ := Fit.get hf.2 (by simpa using h)
    exact ⟨c, by simpa using h1, h2⟩

/-- v is a slice of the reader's own, elements of n cells of type T, that tell xs. -/
def Rowed {α : Type} (T n : Nat) (El : World → List Value → α → Prop) (base : Nat) (w : World) (v : Value) (xs : List α) : Prop :=
  ∃ css : List (List Value), w.ownsRow base T n v xs.length css.flatten ∧ (∀ cs ∈ css, cs.length = n) ∧ Fit (El w) css xs
theorem Rowed.kept {α : Type} {T n base : Nat} {El : World → List Value → α → Prop} {good : List TypeId} {w w' : World} {v : Value} {xs : List α} (h : Rowed T n El base w v xs) (k : Kept good w w') (hT : T ∈ good) (hE : ∀ cs x, El w cs x → El w' cs x) : Rowed T n El base w' v xs := by
  obtain ⟨css, h1, h2, h3⟩ := h
  exact ⟨css, owns_kept h1 k hT, h2, h3.mono hE⟩
theorem Rowed.weak {α : Type} {T n base base' : Nat} {El : World → List Value → α → Prop} {w : World} {v : Value} {xs : List α} (h : Rowed T n El base w v xs) (hb : base' ≤ base) : Rowed T n El base' w v xs := by
  obtain ⟨css, h1, h2, h3⟩ := h
  exact ⟨css, owns_weak h1 hb, h2, h3⟩
theorem Rowed.nil {α : Type} (T n : Nat) (El : World → List Value → α → Prop) (base : Nat) (w : World) : Rowed T n El base w (.slice none 0 0) [] :=
  ⟨[], ⟨by simp, .inl ⟨rfl, rfl⟩⟩, by simp, trivial⟩
theorem Rowed.shape {α : Type} {T n base : Nat} {El : World → List Value → α → Prop} {w : World} {v : Value} {xs : List α} (h : Rowed T n El base w v xs) : ∃ p cap, v = .slice p xs.length cap ∧ xs.length ≤ cap ∧ cap ≤ maxLen := by
  obtain ⟨css, h1, -, -⟩ := h
  rcases h1.2 with ⟨rfl, h0⟩ | ⟨g, cap, cur, rfl, -, -, h5, h6, -⟩
  · exact ⟨none, 0, by rw [h0], by omega, by unfold maxLen; omega⟩
  · exact ⟨_, cap, rfl, h5, h6⟩

/-- l = append(l, x): x of n cells laid in a block of its own: all but l's own block stays. -/
theorem wp_push_one {P : Program} {o : Oper} {a : Act} {w : World} {K : Act → World → Prop} {Q : Exit → Act → World → Prop} (s x : Operand) (t T : TypeId) (z : Value) (n by' : Nat)
    (ho : o.op = .call { callee := .builtin .append, args := #[s, x], argTypes := #[t, t] }) (ht : P.underlying t = some (.slice T)) (hi : (P.info? T).map (fun i => (i.zero, i.size, i.bytes)) = some (some z, n, by')) (hz : z.cells.size = n) (hn : 0 < n)
    {base m : Nat} {v : Value} {xs news : List Value} (hown : w.ownsRow base T n v m xs) (hnl : news.length = n) (h1 : ∀ u ∈ news, u.oneCell' = true) (b1 : m + 1 ≤ maxLen) (b2 : (m + 1) * by' ≤ 140737488355328) (hbase : base ≤ w.heap.size)
    (hs : a.eval s = v) {nb : Nat} (hx : a.eval x = .slice (some ⟨nb, 0, none⟩) 1 1) (hnb : nb = w.heap.size)
    (hK : ∀ (p : Option Addr) (c : Nat) w1, w1.ownsRow base T n (.slice p (m + 1) c) (m + 1) (xs ++ news) → w.grownBy w1 v.ownBlock → K (a.put o.dst (.slice p (m + 1) c)) w1) :
    o.wp P a (w.alloc (.cells news.toArray T)) K Q := by
  subst hnb
  obtain ⟨i0, hi, hz0, hz1, hz2⟩ := info_parts hi
  refine wp_append_own _ s x t ho base T i0 z n by' ht hi hz0 hz1 hz2 hz hn v m xs hs (World.ownsRow.alloc hown _) ⟨w.heap.size, 0, none⟩ 1 1 news hx (by rw [hnl]; simp) ?_ h1 b1 b2 (by simp; omega) ?_
  · intro j u hj
    rw [add_add, Nat.zero_add]
    have hb : (w.alloc (.cells news.toArray T)).heap[w.heap.size]? = some (.cells news.toArray T (0, 0)) := heap_alloc_new w _
    rw [cell_of_row _ _ j _ T (0, 0) hb]
    simpa using hj
  · intro v' w1 ho' hg _
    obtain ⟨p, c, rfl⟩ : ∃ p c, v' = .slice p (m + 1) c := by
      rcases ho'.2 with ⟨rfl, h0⟩ | ⟨g, cap, cur, rfl, _⟩
      · omega
      · exact ⟨_, _, rfl⟩
    have he := Ext.alloc (Ext.refl w) (.cells news.toArray T)
    refine hK p c w1 ho' ⟨hg.os.trans he.below.os, hg.tape.trans he.below.tape, hg.output.trans he.below.output, Nat.le_trans he.size hg.size, fun k hk hne => ?_⟩
    exact (hg.block k (Nat.lt_of_lt_of_le hk he.size) hne).trans (he.below.block k hk)
theorem grown_far {w w1 : World} {v : Value} (hg : w.grownBy w1 v.ownBlock) : ∀ b o, w.heap[b]? = some o → some b ≠ v.ownBlock → w1.heap[b]? = some o := fun b o hb hne => by
  rw [hg.block b (lt_of_block hb) hne]; exact hb
/-- The same, of a row that tells xs: now it tells one more. -/
theorem wpList_push_row {P : Program} {ops : Array Oper} {rest : List Oper} {o : Oper} {a : Act} {w : World} {Q : Exit → Act → World → Prop} (hgd : o.guard = none) (s x : Operand) (t T : TypeId) (z : Value) (n by' : Nat)
    (ho : o.op = .call { callee := .builtin .append, args := #[s, x], argTypes := #[t, t] }) (ht : P.underlying t = some (.slice T)) (hi : (P.info? T).map (fun i => (i.zero, i.size, i.bytes)) = some (some z, n, by')) (hz : z.cells.size = n) (hn : 0 < n)
    {α : Type} {El : World → List Value → α → Prop} (good : List TypeId) {b c : Nat} {st : Rb} {base : Nat} {W0 : World} {v : Value} {xs : List α} (y : α) {news : List Value}
    (hrow : Rowed T n El base w v xs) (hnl : news.length = n) (h1 : ∀ u ∈ news, u.oneCell' = true) (b1 : xs.length ≤ 40000) (b2 : by' ≤ 1000) (hS : Sr b c st w) (hT : T ≠ 74 ∧ T ≠ 101) (hTw : Two b c W0 w) (hW0 : W0.heap.size = base) (hTg : T ∉ good)
    (hy : El w news y) (hE : ∀ w1, Kept good w w1 → ∀ cs x, El w cs x → El w1 cs x)
    (hs : a.eval s = v) {nb : Nat} (hx : a.eval x = .slice (some ⟨nb, 0, none⟩) 1 1) (hnb : nb = w.heap.size)
    (hK : ∀ (p : Option Addr) (cap : Nat) w1, Rowed T n El base w1 (.slice p (xs.length + 1) cap) (xs ++ [y]) → Sr b c st w1 → Two b c W0 w1 → wpList P ops Q rest (a.put o.dst (.slice p (xs.length + 1) cap)) w1) :
    wpList P ops Q (o :: rest) a (w.alloc (.cells news.toArray T)) := by
  obtain ⟨css, r1, r2, r3⟩ := hrow
  refine wpList_plain hgd fun _ hK' => wp_push_one s x t T z n by' ho ht hi hz hn r1 hnl h1 (by unfold maxLen; omega) ?_ (by have := hTw.size; omega) hs hx hnb fun p cap w1 g1 hg => hK' _ _ (hK p cap w1 ?_ (hS.push r1 hT (grown_far hg)) ?_)
  · refine Nat.le_trans (Nat.mul_le_mul_left _ b2) ?_
    omega
  · have hk : Kept good w w1 := kept_push r1 hTg (grown_far hg)
    refine ⟨css ++ [news], ?_, ?_, (r3.mono (hE w1 hk)).snoc (hE w1 hk _ _ hy)⟩
    · rw [List.flatten_append, List.length_append]; simpa using g1
    · intro cs hcs
      rcases List.mem_append.1 hcs with h | h
      · exact r2 cs h
      · rw [List.mem_singleton.1 h]; exact hnl
  · refine ⟨hg.os.trans hTw.os, hg.tape.trans hTw.tape, hg.output.trans hTw.output, Nat.le_trans hTw.size hg.size, fun i hi e1 e2 => ?_⟩
    rw [hg.block i (Nat.lt_of_lt_of_le hi hTw.size) (fun e => by have := (r1.lt i e.symm).1; omega)]
    exact hTw.block i hi e1 e2
end Go.Proofs.Ytbllibgddiiboaa
