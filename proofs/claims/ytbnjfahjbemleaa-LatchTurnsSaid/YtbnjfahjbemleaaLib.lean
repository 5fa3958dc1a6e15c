/- Small laws on worlds that only grow, and on scopes with a label: no program is named here. -/
import Derived.WalkKit
import Derived.Handy
import Derived.Deep.Slices
import Derived.Deep.Fields
import Derived.Deep.Quiet
import Derived.Deep.QuietTactic
import Derived.BigQuiet
namespace Go.Proofs.Ytbnjfahjbemleaa
open Go.RowKit

/-- The second world has what the first had, and perhaps more. -/
structure Ext (w w' : World) : Prop where
  below : Below w.heap.size w w'

theorem Ext.refl (w : World) : Ext w w := ⟨Below.refl _ _⟩
theorem Ext.size {a b : World} (h : Ext a b) : a.heap.size ≤ b.heap.size := h.below.size
theorem Ext.trans {a b c : World} (h : Ext a b) (k : Ext b c) : Ext a c := ⟨Below.trans h.below (Below.mono k.below h.size)⟩
theorem Ext.alloc {a w : World} (h : Ext a w) (o : Obj) : Ext a (w.alloc o) := ⟨Below.alloc h.below h.size o⟩
theorem Ext.drew {a w : World} (h : Ext a w) : Ext a w.drew := ⟨Below.drew h.below⟩
theorem Ext.drewN {a w : World} (h : Ext a w) (n : Nat) : Ext a (w.drewN n) := ⟨h.below.os, h.below.tape, h.below.output, h.below.size, h.below.block⟩
theorem Ext.setCell {a w : World} (h : Ext a w) {p : Addr} (hp : a.heap.size ≤ p.block) (u : Value) : Ext a (w.setCell p u) := ⟨Below.setCell h.below hp u⟩
theorem Ext.cell {a w : World} (h : Ext a w) {p : Addr} {v : Value} (hc : a.cell? p = some v) : w.cell? p = some v := by
  rw [Below.cell h.below (World.block_lt_of_cell? a p hc)]; exact hc

/-- A fact kept from the walk. -/
theorem hid {p : Prop} (h : p) : Hid p := h

/-- Of the world at hand keep what F says, and forget the rest. -/
theorem wp_forget {P : Program} {c : Code} {Q : Exit → Act → World → Prop} {a : Act} {w : World} (F : World → Prop) (hF : F w) (h : ∀ w', F w' → c.wp P Q a w') : c.wp P Q a w := h w hF

/-- What a call that only makes memory comes to. -/
def Yields (w : World) (v : Value) (e : Ending) (w' : World) : Prop := e = .returned v ∧ Ext w w'

theorem wp_skip_seq {P : Program} {a : Act} {w : World} {Q : Exit → Act → World → Prop} {c : Code} (h : c.wp P Q a w) : (Code.skip.seq c).wp P Q a w := by
  go_wp2
  exact h

theorem ex_elim {α : Sort _} {p : α → Prop} {q : Prop} (h : ∀ x, p x → q) : (∃ x, p x) → q := fun ⟨x, hx⟩ => h x hx
theorem ex2 {α β : Sort _} {p : α → β → Prop} {q : Prop} (h : ∀ x y, p x y → q) : (∃ x y, p x y) → q := fun ⟨x, y, hx⟩ => h x y hx
theorem ex4 {α β γ δ : Sort _} {p : α → β → γ → δ → Prop} {q : Prop} (h : ∀ x y z t, p x y z t → q) : (∃ x y z t, p x y z t) → q := fun ⟨x, y, z, t, hx⟩ => h x y z t hx
theorem ex8 {α β γ δ α' β' γ' δ' : Sort _} {p : α → β → γ → δ → α' → β' → γ' → δ' → Prop} {q : Prop} (h : ∀ x y z t x' y' z' t', p x y z t x' y' z' t' → q) :
    (∃ x y z t x' y' z' t', p x y z t x' y' z' t') → q := fun ⟨x, y, z, t, x', y', z', t', hx⟩ => h x y z t x' y' z' t' hx
/-- What a slot holds behind a chain of puts. -/
theorem nrm : (∀ (a : Act) (d : Tmp) (v : Value), a.put (some d) v = { a with tmps := a.tmps.setIfInBounds d v }) ∧ (∀ (a : Act) (v : Value), a.put none v = a) ∧
    (∀ {α : Type} {xs : List α} {i : Nat} (h : i < xs.toArray.size), xs.toArray[i] = xs[i]'(by simpa using h)) ∧
    (∀ {α : Type} {a : α} {l : List α} (h : 0 < (a :: l).length), (a :: l)[0] = a) ∧
    (∀ {α : Type} {a : α} {l : List α} {i : Nat} (h : i + 1 < (a :: l).length), (a :: l)[i + 1] = l[i]'(by simpa using h)) ∧
    (∀ {α : Type} {xs : List α} {i : Nat} {a : α}, xs.toArray.setIfInBounds i a = (xs.set i a).toArray) ∧
    (∀ {α : Type} {a b : α} {l : List α}, (a :: l).set 0 b = b :: l) ∧ (∀ {α : Type} {a b : α} {l : List α} {i : Nat}, (a :: l).set (i + 1) b = a :: l.set i b) :=
  ⟨fun _ _ _ => rfl, fun _ _ => rfl, fun _ => by simp, fun _ => rfl, fun _ => rfl, by intros; simp, rfl, rfl⟩

/-- One walk behind what comes first, in however many ways. -/
theorem wp_mid {P : Program} {a : Act} {w : World} {Q : Exit → Act → World → Prop} {x y : Code} (M : Act → World → Prop) (first : x.wp P (fun e a w => e = .normal ∧ M a w) a w) (rest : ∀ a w, M a w → y.wp P Q a w) : (Code.seq x y).wp P Q a w :=
  wp_seq (Code.wp_mono (fun e a w h => by obtain ⟨rfl, h⟩ := h; exact rest a w h) first)

/-- A scope whose one label is jumped back to: what holds at each pass, and a measure; the way to the label may use what a pass comes to. -/
theorem wp_goto {P : Program} {a : Act} {w : World} {Q : Exit → Act → World → Prop} {c body : Code} (l : Nat) (J : Act → World → Prop) (μ : Act → World → Nat) (hf : findLabel c l = some (Code.skip.seq body))
    (pass : ∀ a w, J a w → body.wp P (Exit.jump l (fun a' w' => J a' w' ∧ μ a' w' < μ a w) Q) a w)
    (first : (∀ a w, J a w → body.wp P (Exit.jump l J Q) a w) → c.wp P (Exit.jump l J Q) a w) : (Code.scope c).wp P Q a w := by
  refine wp_scope_jumps l J μ hf (first fun a w h => Code.wp_mono ?_ (pass a w h)) fun a w h => wp_skip_seq (pass a w h)
  intro e a' w' h
  cases e <;> first | exact h | exact ⟨h.1, h.2.1⟩

/-! ### A region that draws its order, whose operations read and whose callees only make memory -/

/-- What a world may have come by: draws, and blocks behind its own. -/
structure More where
  d : Nat
  os : Array Obj
  deriving Inhabited

def more (w : World) (p : More) : World := { w with drawn := p.d, heap := w.heap ++ p.os }

theorem ext_more (w : World) (p : More) : Ext w (more w p) :=
  ⟨rfl, rfl, rfl, by simp [more], fun k hk => by simp [more, Array.getElem?_append, hk]⟩

theorem more_of_ext {w w' : World} (h : Ext w w') : ∃ p : More, w' = more w p := by
  refine ⟨⟨w'.drawn, w'.heap.extract w.heap.size w'.heap.size⟩, ?_⟩
  obtain ⟨heap', tape', drawn', os', output'⟩ := w'
  have e1 : os' = w.os := h.below.os
  have e2 : tape' = w.tape := h.below.tape
  have e3 : output' = w.output := h.below.output
  have hs : w.heap.size ≤ heap'.size := h.below.size
  have hb : ∀ k, k < w.heap.size → heap'[k]? = w.heap[k]? := h.below.block
  subst e1 e2 e3
  have eh : heap' = w.heap ++ heap'.extract w.heap.size heap'.size := by
    apply Array.ext_getElem?
    intro k
    by_cases hk : k < w.heap.size
    · rw [Array.getElem?_append_left hk]; exact hb k hk
    · rw [Array.getElem?_append_right (by omega), Array.getElem?_extract]
      by_cases hk2 : k < heap'.size
      · rw [if_pos (by omega)]; congr 1; omega
      · rw [if_neg (by omega), Array.getElem?_eq_none (by omega)]
  simp only [more]
  congr 1

theorem wp_region_ext {P : Program} {id : Nat} {Q : Exit → Act → World → Prop} {a : Act} {w : World} {l : List Oper} (hm : P.follows .mixedOrders = true) (hB : Region.lexB .any l.toArray = true)
    (h : wpQuiet P l.toArray (fun w' => ∃ p : More, w' = more w p) (fun a' => ∀ w', (∃ p : More, w' = more w p) → Q .normal a' w') l a) : (Code.region id l.toArray true).wp P Q a w :=
  wp_region_quiet (C := fun w' => ∃ p : More, w' = more w p) hm hB ⟨⟨w.drawn + 1, #[]⟩, by simp [more]⟩ (by simpa using h)

/-- The same in a world that has more already. -/
theorem wp_region_more {P : Program} {id : Nat} {Q : Exit → Act → World → Prop} {a : Act} {w : World} {p0 : More} {l : List Oper} (hm : P.follows .mixedOrders = true) (hB : Region.lexB .any l.toArray = true)
    (h : wpQuiet P l.toArray (fun w' => ∃ p : More, w' = more w p) (fun a' => ∀ w', (∃ p : More, w' = more w p) → Q .normal a' w') l a) : (Code.region id l.toArray true).wp P Q a (more w p0) :=
  wp_region_quiet (C := fun w' => ∃ p : More, w' = more w p) hm hB ⟨⟨p0.d + 1, p0.os⟩, by simp [more]⟩ (by simpa using h)

/-- A long region's operations stand as two lists, one behind the other. -/
theorem append_cons' {α : Type} (a : α) (l m : List α) : List.append (a :: l) m = a :: List.append l m := rfl
theorem append_nil' {α : Type} (m : List α) : List.append [] m = m := rfl

/-- A cell of an old block, in every such world. -/
theorem more_cell {w : World} {a : Addr} {v : Value} (h : w.cell? a = some v) (p : More) : (more w p).cell? a = some v := (ext_more w p).cell h

/-- A callee's contract met in such a world. -/
theorem Calls.more_of {P : Program} {f : FuncId} {args : Array Value} {w : World} {p : More} {v : Value}
    (h : Calls P f args (more w p) (Yields (more w p) v)) : Calls P f args (more w p) fun e w'' => e = .returned v ∧ ∃ q : More, w'' = more w q :=
  h.mono fun _ _ ⟨he, hb⟩ => ⟨he, more_of_ext ((ext_more w p).trans hb)⟩

@[go_sem] theorem more_cell? {w : World} {a : Addr} (h : a.block < w.heap.size) (p : More) : (more w p).cell? a = w.cell? a := (ext_more w p).below.cell h
@[go_sem] theorem more_frozen? {w : World} {a : Addr} (h : a.block < w.heap.size) (p : More) : (more w p).frozen? a = w.frozen? a := (ext_more w p).below.frozen h
@[go_sem] theorem more_size (w : World) (p : More) : (more w p).heap.size = w.heap.size + p.os.size := by simp [more]
def More.then (p q : More) : More := ⟨q.d, p.os ++ q.os⟩
@[go_sem] theorem more_more (w : World) (p q : More) : more (more w p) q = more w (p.then q) := by simp [more, More.then]
@[go_sem] theorem more_drew (w : World) (p : More) : (more w p).drew = more w ⟨p.d + 1, p.os⟩ := rfl
@[go_sem] theorem more_tape (w : World) (p : More) : (more w p).tape = w.tape := rfl
@[go_sem] theorem more_os (w : World) (p : More) : (more w p).os = w.os := rfl

@[go_sem] theorem more_setCell {w : World} {a : Addr} (h : a.block < w.heap.size) (p : More) (v : Value) : (more w p).setCell a v = more (w.setCell a v) p := by
  simp only [more, World.setCell]
  congr 1
  apply Array.ext_getElem?
  intro k
  simp only [Array.getElem?_modify, Array.getElem?_append, Array.size_modify]
  split <;> split <;> simp_all <;> omega

attribute [irreducible] more
/-! A block that was there is another than one that came later (laid out, so that simp need not look deep). -/
@[go_sem] theorem le_later2 (n a b : Nat) : n ≤ n + a + b := by omega
@[go_sem] theorem le_later3 (n a b c : Nat) : n ≤ n + a + b + c := by omega
@[go_sem] theorem le_later4 (n a b c d : Nat) : n ≤ n + a + b + c + d := by omega
@[go_sem] theorem le_later5 (n a b c d e : Nat) : n ≤ n + a + b + c + d + e := by omega
@[go_sem] theorem le_later6 (n a b c d e f : Nat) : n ≤ n + a + b + c + d + e + f := by omega
@[go_sem] theorem lt_later0 (n p : Nat) : n < n + 1 + p := by omega
@[go_sem] theorem eq_later0 (n p : Nat) : (n = n + 1 + p) = False := eq_false (by omega)
@[go_sem] theorem later_eq0 (n p : Nat) : (n + 1 + p = n) = False := eq_false (by omega)
@[go_sem] theorem lt_later1 (n a p : Nat) : n < n + a + 1 + p := by omega
@[go_sem] theorem eq_later1 (n a p : Nat) : (n = n + a + 1 + p) = False := eq_false (by omega)
@[go_sem] theorem later_eq1 (n a p : Nat) : (n + a + 1 + p = n) = False := eq_false (by omega)
@[go_sem] theorem eq_laterz1 (n a : Nat) : (n = n + a + 1) = False := eq_false (by omega)
@[go_sem] theorem later_eqz1 (n a : Nat) : (n + a + 1 = n) = False := eq_false (by omega)
@[go_sem] theorem lt_later2 (n a b p : Nat) : n < n + a + b + 1 + p := by omega
@[go_sem] theorem eq_later2 (n a b p : Nat) : (n = n + a + b + 1 + p) = False := eq_false (by omega)
@[go_sem] theorem later_eq2 (n a b p : Nat) : (n + a + b + 1 + p = n) = False := eq_false (by omega)
@[go_sem] theorem eq_laterz2 (n a b : Nat) : (n = n + a + b + 1) = False := eq_false (by omega)
@[go_sem] theorem later_eqz2 (n a b : Nat) : (n + a + b + 1 = n) = False := eq_false (by omega)
@[go_sem] theorem lt_later3 (n a b c p : Nat) : n < n + a + b + c + 1 + p := by omega
@[go_sem] theorem eq_later3 (n a b c p : Nat) : (n = n + a + b + c + 1 + p) = False := eq_false (by omega)
@[go_sem] theorem later_eq3 (n a b c p : Nat) : (n + a + b + c + 1 + p = n) = False := eq_false (by omega)
@[go_sem] theorem eq_laterz3 (n a b c : Nat) : (n = n + a + b + c + 1) = False := eq_false (by omega)
@[go_sem] theorem later_eqz3 (n a b c : Nat) : (n + a + b + c + 1 = n) = False := eq_false (by omega)
@[go_sem] theorem lt_later4 (n a b c d p : Nat) : n < n + a + b + c + d + 1 + p := by omega
@[go_sem] theorem eq_later4 (n a b c d p : Nat) : (n = n + a + b + c + d + 1 + p) = False := eq_false (by omega)
@[go_sem] theorem later_eq4 (n a b c d p : Nat) : (n + a + b + c + d + 1 + p = n) = False := eq_false (by omega)
@[go_sem] theorem eq_laterz4 (n a b c d : Nat) : (n = n + a + b + c + d + 1) = False := eq_false (by omega)
@[go_sem] theorem later_eqz4 (n a b c d : Nat) : (n + a + b + c + d + 1 = n) = False := eq_false (by omega)
@[go_sem] theorem lt_later5 (n a b c d e p : Nat) : n < n + a + b + c + d + e + 1 + p := by omega
@[go_sem] theorem eq_later5 (n a b c d e p : Nat) : (n = n + a + b + c + d + e + 1 + p) = False := eq_false (by omega)
@[go_sem] theorem later_eq5 (n a b c d e p : Nat) : (n + a + b + c + d + e + 1 + p = n) = False := eq_false (by omega)
@[go_sem] theorem eq_laterz5 (n a b c d e : Nat) : (n = n + a + b + c + d + e + 1) = False := eq_false (by omega)
@[go_sem] theorem later_eqz5 (n a b c d e : Nat) : (n + a + b + c + d + e + 1 = n) = False := eq_false (by omega)
@[go_sem] theorem more_of_drew (w : World) (p : More) : more w.drew p = more w p := by unfold more; rfl

theorem Ext.more {a w : World} (h : Ext a w) (p : More) : Ext a (more w p) := h.trans (ext_more w p)
/-- The same by looking. -/
theorem ext_by {w w' : World} (h : Ext w w' := by repeat (first | exact Ext.refl _ | assumption | refine Ext.more ?_ _ | refine Ext.drew ?_ | refine Ext.drewN ?_ _ | refine Ext.alloc ?_ _ | refine Ext.setCell ?_ (by simp; try omega) _ | refine Ext.trans ?_ (by assumption))) : Ext w w' := h

/-- A contract met at a call: the world behind it has more. -/
theorem _root_.Go.Calls.yields {P : Program} {f : FuncId} {args : Array Value} {w : World} {v : Value} {Q : Ending → World → Prop} (h : Calls P f args w (Yields w v)) (k : ∀ p, Q (.returned v) (Go.Proofs.Ytbnjfahjbemleaa.more w p)) : Calls P f args w Q :=
  h.mono fun e w' ⟨he, hx⟩ => by obtain ⟨p, rfl⟩ := more_of_ext hx; rw [he]; exact k p

/-! ### A slice that came in, of elements of n cells, as a list -/

theorem add_add (b off i : Nat) : (⟨b, off, none⟩ : Addr).add i = ⟨b, off + i, none⟩ := by
  unfold Addr.add
  split
  · subst_vars; rfl
  · rfl

theorem exists_list {α : Type} {Q : Nat → α → Prop} : ∀ n : Nat, (∀ i, i < n → ∃ y, Q i y) → ∃ l : List α, l.length = n ∧ ∀ i y, l[i]? = some y → Q i y
  | 0, _ => ⟨[], rfl, fun i y h => by simp at h⟩
  | n + 1, h => by
    obtain ⟨l, hl, hq⟩ := exists_list n fun i hi => h i (by omega)
    obtain ⟨y, hy⟩ := h n (by omega)
    refine ⟨l ++ [y], by simp [hl], fun i z hz => ?_⟩
    rcases Nat.lt_trichotomy i n with hi | hi | hi
    · rw [List.getElem?_append_left (by omega)] at hz; exact hq i z hz
    · subst hi; simp [← hl] at hz; subst hz; exact hy
    · rw [List.getElem?_eq_none (by simp; omega)] at hz; cases hz

/-- v is a slice whose elements are l: each of n cells, told by E of the world, the block and the place. -/
def Slc {α : Type} (n : Nat) (E : World → Nat → Nat → α → Prop) (w : World) (v : Value) (l : List α) : Prop :=
  ∃ (p : Option Addr) (cap : Nat), v = .slice p l.length cap ∧ l.length ≤ cap ∧ cap ≤ maxLen ∧
    (0 < l.length → ∃ b off, p = some ⟨b, off, none⟩ ∧ ∀ i x, l[i]? = some x → E w b (off + i * n) x)

theorem Slc.mono {α : Type} {n : Nat} {E : World → Nat → Nat → α → Prop} {w w' : World} {v : Value} {l : List α} (hE : ∀ b off x, E w b off x → E w' b off x) (h : Slc n E w v l) : Slc n E w' v l := by
  obtain ⟨p, cap, rfl, h1, h2, h3⟩ := h
  refine ⟨p, cap, rfl, h1, h2, fun h0 => ?_⟩
  obtain ⟨b, off, rfl, h4⟩ := h3 h0
  exact ⟨b, off, rfl, fun i x hx => hE _ _ _ (h4 i x hx)⟩

/-- One element. -/
theorem Slc.at {α : Type} {n : Nat} {E : World → Nat → Nat → α → Prop} {w : World} {p : Option Addr} {len cap : Nat} {l : List α} (h : Slc n E w (.slice p len cap) l) (k : Nat) (hk : k < l.length) : ∃ b off, p = some ⟨b, off, none⟩ ∧ E w b (off + k * n) l[k] := by
  obtain ⟨p', cap', he, _, _, h3⟩ := h
  injection he with he1 he2 he3
  obtain ⟨b, off, hp, hc⟩ := h3 (by omega)
  exact ⟨b, off, he1.trans hp, hc k _ (List.getElem?_eq_getElem hk)⟩
theorem Slc.shape {α : Type} {n : Nat} {E : World → Nat → Nat → α → Prop} {w : World} {v : Value} {l : List α} (h : Slc n E w v l) : ∃ p cap, v = .slice p l.length cap ∧ l.length ≤ cap ∧ cap ≤ maxLen := by
  obtain ⟨p, cap, rfl, h1, h2, _⟩ := h
  exact ⟨p, cap, rfl, h1, h2⟩

open Go.Deep in
theorem Slc.of_trod {H α : Type} {enc : TypeId × Value → H} {P : Program} {w : World} {base : Nat} {spare : Nat → Bool} {held : Bool} {t e : TypeId} {n fuel : Nat} {E : World → Nat → Nat → α → Prop} {cs : List Value} {x : DataW H × List MemPlace}
    (ht : P.underlying t = some (.slice e)) (hn : P.cellsOf e = n) (hpos : 0 < n)
    (hE : ∀ (cs : List Value) (b off m : Nat) (x : DataW H × List MemPlace), cs.length = n → (∀ j, j < n → w.cell? ⟨b, off + j, none⟩ = cs[j]?) → DataW.trod enc P w base spare held m e cs = some x → ∃ y, E w b off y)
    (h : DataW.trod enc P w base spare held fuel t cs = some x) : ∃ v l, cs = [v] ∧ Slc n E w v l := by
  rcases open_slice ht h with ⟨rfl, _⟩ | ⟨a, len, cap, m, n', D, Pl, rfl, _, hl, hm, hmm, _, hi⟩
  · exact ⟨_, [], rfl, none, 0, rfl, by simp, by simp, fun h => by simp at h⟩
  · have hlm : len ≤ m := by rw [hmm]; split <;> omega
    rw [hn] at hi
    by_cases h0 : 0 < len
    · have hspot : a.spot = none := by
        obtain ⟨cs', hc, _⟩ := hi 0 (by omega)
        obtain ⟨_, hlen, hat⟩ := World.cells?_some hc
        have h1 := hat 0 (by omega)
        rw [List.getElem?_eq_getElem (by omega)] at h1
        simp only [Nat.zero_mul, Addr.add, if_true] at h1
        cases hs : a.spot with
        | none => rfl
        | some s => simp [World.cell?, hs] at h1; split at h1 <;> cases h1
      obtain ⟨b, off, sp⟩ := a
      simp only at hspot
      subst hspot
      obtain ⟨l, hl1, hl2⟩ := exists_list (Q := fun i y => E w b (off + i * n) y) len fun i hi' => by
        obtain ⟨cs', hc, ht'⟩ := hi i (by omega)
        obtain ⟨_, hlen, hat⟩ := World.cells?_some hc
        refine hE cs' b (off + i * n) n' _ hlen (fun j hj => ?_) ht'
        have := hat j hj
        rwa [add_add, add_add] at this
      subst hl1
      exact ⟨_, l, rfl, _, cap, rfl, hl, hm, fun _ => ⟨b, off, rfl, hl2⟩⟩
    · obtain rfl : len = 0 := by omega
      exact ⟨_, [], rfl, some a, cap, rfl, hl, hm, fun h => by simp at h⟩

end Go.Proofs.Ytbnjfahjbemleaa
