/- The program's objects in memory: counts, rows as chains of blocks, the waiters by number. -/
import Derived.Test.YtoimkocjfijlkaaDoorRows
import Derived.Test.YtoimkocjfijlkaaDoorObM
import Derived.Test.YtoimkocjfijlkaaDoorMvp
import Derived.Test.YtoimkocjfijlkaaDoorInts
import Derived.Maps.OwnSet
import Derived.WalkKit
import Derived.OwnWalk
import Derived.Handy
namespace Go.Proofs.YtoimkocjfijlkaaDoor
open Go.RowKit
set_option maxRecDepth 100000
namespace Ob
open Go.Maps (Tidy IsMap Keyed)

/-! ### The waiters by number -/
theorem law : Keyed Tryd.prog 3 := Go.Maps.int_keyed Tryd.underlying3
theorem zeroP (w : World) : (zeroValue 52).run Tryd.prog w = .ok nilV w := by kernel_rfl
/-- A pointer is what it is. -/
abbrev same (v : Value) : Option (DataW Value × List MemPlace) := some (.held v, [])
abbrev OM (w : World) (b : Nat) (D : DataW Value) : Prop := w.ownsMap Tryd.prog 3 same b (Maps.size D) D
theorem tight {w : World} {b n : Nat} {D : DataW Value} (h : w.ownsMap Tryd.prog 3 same b n D) : OM w b D := by
  obtain ⟨es, clock, h1, h2, h3, rfl⟩ := h
  exact ⟨es, clock, h1, h2, by rw [Maps.size_eq, length_sorted, List.length_map]; simp, rfl⟩
theorem OM.obj {w : World} {b : Nat} {D : DataW Value} (h : OM w b D) : ∃ es c, w.heap[b]? = some (.map es c) := by
  obtain ⟨es, clock, h1, _⟩ := h
  exact ⟨es, clock, h1⟩
theorem OM.of_block {w w' : World} {b : Nat} {D : DataW Value} (h : OM w b D) (k : w'.heap[b]? = w.heap[b]?) : OM w' b D := by
  obtain ⟨es, c, e1, e2⟩ := h
  exact ⟨es, c, k.trans e1, e2⟩
abbrev key (k : Int) : Lit := .int .i64 k
def hasK (D : DataW Value) (k : Int) : Bool := Maps.has D (key k)
def atK (D : DataW Value) (k : Int) : DataW Value := D.atKey (key k) (.held nilV)
theorem key_ne {a b : Int} (h : a ≠ b) : key a ≠ key b := fun e => h (by injection e)
theorem isKey (k : Int) : Go.WideAt.IsKeyLit (key k) := trivial
/-- No map yet, or one of the call's own. -/
def Places (w : World) (base : Nat) (m : Value) (D : DataW Value) : Prop := (m = .map none ∧ D = .map []) ∨ ∃ b, m = .map (some b) ∧ base ≤ b ∧ OM w b D
theorem Places.keep {w w' : World} {base : Nat} {m : Value} {D : DataW Value} (h : Places w base m D) (k : ∀ b, m = .map (some b) → w'.heap[b]? = w.heap[b]?) : Places w' base m D := by
  rcases h with h1 | ⟨b, h1, h2, h3⟩
  · exact .inl h1
  · exact .inr ⟨b, h1, h2, h3.of_block (k b h1)⟩

/-- Just those who wait, each at his block. -/
structure Full (D : DataW Value) (F : List Wt) : Prop where
  here : ∀ e ∈ F, hasK D e.1 = true ∧ atK D e.1 = .held (ptrV e.2)
  only : ∀ k, hasK D k = true → ∃ e ∈ F, e.1 = k
  size : Maps.size D = F.length
theorem Full.start : Full (.map []) [] := ⟨fun _ h => (by cases h), fun k h => (by simp [hasK, Maps.has] at h), rfl⟩
theorem Full.perm {D : DataW Value} {F G : List Wt} (h : Full D F) (p : F.Perm G) : Full D G :=
  ⟨fun e he => h.here e (p.mem_iff.2 he), fun k hk => (h.only k hk).imp fun e ⟨he, h1⟩ => ⟨p.mem_iff.1 he, h1⟩, by rw [h.size, p.length_eq]⟩
theorem Full.absent {D : DataW Value} {F : List Wt} (h : Full D F) {k : Int} (hk : ∀ e ∈ F, e.1 ≠ k) : hasK D k = false := by
  cases hh : hasK D k with
  | false => rfl
  | true =>
    obtain ⟨e, he, h1⟩ := h.only k hh
    exact absurd h1 (hk e he)
theorem Full.miss {D : DataW Value} {F : List Wt} (h : Full D F) {k : Int} (hk : ∀ e ∈ F, e.1 ≠ k) : atK D k = .held nilV := Go.Maps.atKey_of_not_has (h.absent hk) _
theorem Full.put {D : DataW Value} {F : List Wt} (h : Full D F) (hT : Tidy D) {k : Int} (hk : ∀ e ∈ F, e.1 ≠ k) (b : Nat) : Full (D.put (key k) (.held (ptrV b))) ((k, b) :: F) := by
  refine ⟨fun e he => ?_, fun j hj => ?_, ?_⟩
  · rcases List.mem_cons.1 he with rfl | he
    · exact ⟨Go.Maps.has_put_same hT.isMap (isKey _) _, Go.Maps.atKey_put_same hT.isMap (isKey _) _ _⟩
    · have hne := key_ne (hk e he)
      obtain ⟨h1, h2⟩ := h.here e he
      exact ⟨(Go.Maps.has_put_other hne _).trans h1, (Go.Maps.atKey_put_other hne _ _).trans h2⟩
  · by_cases e : j = k
    · exact ⟨(k, b), by simp, e.symm⟩
    · have h1 : hasK D j = true := (Go.Maps.has_put_other (key_ne e) _).symm.trans hj
      obtain ⟨x, hx, h2⟩ := h.only j h1
      exact ⟨x, by simp [hx], h2⟩
  · rw [Go.Maps.size_put hT, show Maps.has D (key k) = false from h.absent hk, List.length_cons, h.size]
    rfl
theorem Full.del {D : DataW Value} {F : List Wt} {e : Wt} (h : Full D (e :: F)) (hT : Tidy D) (hn : ((e :: F).map (·.1)).Nodup) : Full (D.del (key e.1)) F := by
  rw [List.map_cons, List.nodup_cons] at hn
  obtain ⟨hno, -⟩ := hn
  have hne : ∀ f ∈ F, f.1 ≠ e.1 := fun f hf he => hno (by rw [← he]; exact List.mem_map_of_mem hf)
  refine ⟨fun f hf => ?_, fun j hj => ?_, ?_⟩
  · have hk := key_ne (hne f hf)
    obtain ⟨h1, h2⟩ := h.here f (by simp [hf])
    exact ⟨(Go.Maps.has_del_other hk).trans h1, (Go.Maps.atKey_del_other hk _).trans h2⟩
  · by_cases c : j = e.1
    · subst c
      have : hasK (D.del (key e.1)) e.1 = false := Go.Maps.has_del_same
      rw [this] at hj; cases hj
    · have h1 : hasK D j = true := (Go.Maps.has_del_other (key_ne c)).symm.trans hj
      obtain ⟨x, hx, h2⟩ := h.only j h1
      rcases List.mem_cons.1 hx with rfl | hx
      · exact absurd h2.symm c
      · exact ⟨x, hx, h2⟩
  · have h1 := Go.Maps.size_del (k := key e.1) hT
    rw [show Maps.has D (key e.1) = true from (h.here e (by simp)).1, if_pos rfl, h.size, List.length_cons] at h1
    omega
/-- A look-up. -/
theorem look_any {w : World} {b : Nat} {D : DataW Value} (h : OM w b D) {k : Int} (hk : wf64 k) {v : Value} (ha : atK D k = .held v) : (Instr.lookup 56 (.map (some b)) (.int .i64 k) false).run Tryd.prog w = .ok v w := by
  obtain ⟨u, ps, h1, h2⟩ := World.ownsMap.lookup h law Tryd.underlying56 (zeroP w) (zd := .held nilV) (zp := []) rfl (Go.Maps.keyOf_int_mk Tryd.underlying3 hk.lit)
  have e1 : DataW.held u = D.atKey (key k) (.held nilV) := congrArg Prod.fst (Option.some.inj h2)
  have e2 : DataW.held u = DataW.held v := e1.trans ha
  injection e2 with e2
  rw [← e2]
  exact h1
theorem look_nil (w : World) {k : Int} (hk : wf64 k) : (Instr.lookup 56 (.map none) (.int .i64 k) false).run Tryd.prog w = .ok nilV w := by
  have := Go.Maps.look_nil (P := Tryd.prog) (w := w) false law Tryd.underlying56 (zeroP w) (Go.Maps.keyOf_int_mk Tryd.underlying3 hk.lit)
  simpa using this
theorem look_places {w : World} {base : Nat} {m : Value} {D : DataW Value} (h : Places w base m D) {k : Int} (hk : wf64 k) {v : Value} (ha : atK D k = .held v) : (Instr.lookup 56 m (.int .i64 k) false).run Tryd.prog w = .ok v w := by
  rcases h with ⟨rfl, rfl⟩ | ⟨b, rfl, _, h⟩
  · have e : v = nilV := by
      have : atK (.map []) k = .held nilV := rfl
      rw [this] at ha
      injection ha with ha
      exact ha.symm
    rw [e]
    exact look_nil w hk
  · exact look_any h hk ha

/-! ### The blocks -/
abbrev objV (x i : Nat) : Value := .pointer (some ⟨x, i * 3, none⟩)
/-- Objects at x: the counts, the first ones, the last ones, the map. -/
def OAt (w : World) (x : Nat) (c : Nat → Int) (f l : Nat → Value) (m : Value) : Prop :=
  ∃ cs, w.heap[x]? = some (.cells cs 58 (0, 0)) ∧ cs.size = 13 ∧ cs[12]? = some m ∧ ∀ i, i < 4 → cs[i * 3]? = some (.int .i64 (c i)) ∧ cs[i * 3 + 1]? = some (f i) ∧ cs[i * 3 + 2]? = some (l i)
/-- One who waits, at b: for i, behind a, ahead of n. -/
def NAt (w : World) (x i : Nat) (a : Value) (e : Wt) (n : Value) : Prop := w.heap[e.2]? = some (.cells #[.int .i64 e.1, objV x i, a, n] 66 (0, 0))
def Seg (w : World) (x i : Nat) : Value → List Wt → Value → Prop
  | _, [], _ => True
  | a, e :: l, n => NAt w x i a e (headOr l n) ∧ Seg w x i (ptrV e.2) l n

section
variable {w w' : World} {x i : Nat} {c : Nat → Int} {f l : Nat → Value} {m a n : Value}
theorem OAt.lt (h : OAt w x c f l m) : x < w.heap.size := by
  obtain ⟨cs, h1, _⟩ := h
  exact lt_blk h1
theorem OAt.same (h : OAt w x c f l m) (k : w'.heap[x]? = w.heap[x]?) : OAt w' x c f l m := by
  obtain ⟨cs, h1, h2⟩ := h
  exact ⟨cs, k.trans h1, h2⟩
theorem OAt.cell (h : OAt w x c f l m) (hi : i < 4) : w.cell? ⟨x, i * 3, none⟩ = some (.int .i64 (c i)) ∧ w.cell? ⟨x, i * 3 + 1, none⟩ = some (f i) ∧ w.cell? ⟨x, i * 3 + 2, none⟩ = some (l i) := by
  obtain ⟨cs, h1, _, _, h4⟩ := h
  obtain ⟨e1, e2, e3⟩ := h4 i hi
  exact ⟨by simp [World.cell?, h1, e1], by simp [World.cell?, h1, e2], by simp [World.cell?, h1, e3]⟩
theorem OAt.map (h : OAt w x c f l m) : w.cell? ⟨x, 12, none⟩ = some m := by
  obtain ⟨cs, h1, _, h3, _⟩ := h
  simp [World.cell?, h1, h3]
theorem OAt.free (h : OAt w x c f l m) (j : Nat) : w.frozen? ⟨x, j, none⟩ = false := by
  obtain ⟨cs, h1, _⟩ := h
  simp [World.frozen?, h1]
theorem OAt.setC (h : OAt w x c f l m) (hi : i < 4) (u : Int) : OAt (w.setCell ⟨x, i * 3, none⟩ (.int .i64 u)) x (upd c i u) f l m := by
  obtain ⟨cs, h1, h2, h3, h4⟩ := h
  refine ⟨_, set_same h1 _ _, by simpa using h2, ?_, fun j hj => ?_⟩
  · rw [Array.getElem?_setIfInBounds, if_neg (by omega)]; exact h3
  · obtain ⟨e1, e2, e3⟩ := h4 j hj
    rw [Array.getElem?_setIfInBounds, Array.getElem?_setIfInBounds, Array.getElem?_setIfInBounds, if_neg (show ¬ i * 3 = j * 3 + 1 by omega), if_neg (show ¬ i * 3 = j * 3 + 2 by omega)]
    refine ⟨?_, e2, e3⟩
    by_cases e : j = i
    · subst e; rw [if_pos rfl, upd_same, if_pos (by omega)]
    · rw [if_neg (by omega), upd_other e]; exact e1
theorem OAt.setF (h : OAt w x c f l m) (hi : i < 4) (u : Value) : OAt (w.setCell ⟨x, i * 3 + 1, none⟩ u) x c (upd f i u) l m := by
  obtain ⟨cs, h1, h2, h3, h4⟩ := h
  refine ⟨_, set_same h1 _ _, by simpa using h2, ?_, fun j hj => ?_⟩
  · rw [Array.getElem?_setIfInBounds, if_neg (by omega)]; exact h3
  · obtain ⟨e1, e2, e3⟩ := h4 j hj
    rw [Array.getElem?_setIfInBounds, Array.getElem?_setIfInBounds, Array.getElem?_setIfInBounds, if_neg (show ¬ i * 3 + 1 = j * 3 by omega), if_neg (show ¬ i * 3 + 1 = j * 3 + 2 by omega)]
    refine ⟨e1, ?_, e3⟩
    by_cases e : j = i
    · subst e; rw [if_pos rfl, upd_same, if_pos (by omega)]
    · rw [if_neg (by omega), upd_other e]; exact e2
theorem OAt.setL (h : OAt w x c f l m) (hi : i < 4) (u : Value) : OAt (w.setCell ⟨x, i * 3 + 2, none⟩ u) x c f (upd l i u) m := by
  obtain ⟨cs, h1, h2, h3, h4⟩ := h
  refine ⟨_, set_same h1 _ _, by simpa using h2, ?_, fun j hj => ?_⟩
  · rw [Array.getElem?_setIfInBounds, if_neg (by omega)]; exact h3
  · obtain ⟨e1, e2, e3⟩ := h4 j hj
    rw [Array.getElem?_setIfInBounds, Array.getElem?_setIfInBounds, Array.getElem?_setIfInBounds, if_neg (show ¬ i * 3 + 2 = j * 3 by omega), if_neg (show ¬ i * 3 + 2 = j * 3 + 1 by omega)]
    refine ⟨e1, e2, ?_⟩
    by_cases e : j = i
    · subst e; rw [if_pos rfl, upd_same, if_pos (by omega)]
    · rw [if_neg (by omega), upd_other e]; exact e3
theorem OAt.setM (h : OAt w x c f l m) (u : Value) : OAt (w.setCell ⟨x, 12, none⟩ u) x c f l u := by
  obtain ⟨cs, h1, h2, h3, h4⟩ := h
  refine ⟨_, set_same h1 _ _, by simpa using h2, ?_, fun j hj => ?_⟩
  · rw [Array.getElem?_setIfInBounds, if_pos rfl, if_pos (by omega)]
  · obtain ⟨e1, e2, e3⟩ := h4 j hj
    rw [Array.getElem?_setIfInBounds, Array.getElem?_setIfInBounds, Array.getElem?_setIfInBounds, if_neg (show ¬ 12 = j * 3 by omega), if_neg (show ¬ 12 = j * 3 + 1 by omega), if_neg (show ¬ 12 = j * 3 + 2 by omega)]
    exact ⟨e1, e2, e3⟩
/-- Told alike. -/
theorem OAt.told {f' l' : Nat → Value} {c' : Nat → Int} (h : OAt w x c f l m) (hc : ∀ j, j < 4 → c' j = c j) (hf : ∀ j, j < 4 → f' j = f j) (hl : ∀ j, j < 4 → l' j = l j) : OAt w x c' f' l' m := by
  obtain ⟨cs, h1, h2, h3, h4⟩ := h
  exact ⟨cs, h1, h2, h3, fun j hj => by rw [hc j hj, hf j hj, hl j hj]; exact h4 j hj⟩

variable {e : Wt}
theorem NAt.lt (h : NAt w x i a e n) : e.2 < w.heap.size := lt_blk h
theorem NAt.cells (h : NAt w x i a e n) : w.cell? ⟨e.2, 0, none⟩ = some (.int .i64 e.1) ∧ w.cell? ⟨e.2, 1, none⟩ = some (objV x i) ∧ w.cell? ⟨e.2, 2, none⟩ = some a ∧ w.cell? ⟨e.2, 3, none⟩ = some n := by
  unfold NAt at h
  exact ⟨by simp [World.cell?, h], by simp [World.cell?, h], by simp [World.cell?, h], by simp [World.cell?, h]⟩
theorem NAt.free (h : NAt w x i a e n) (j : Nat) : w.frozen? ⟨e.2, j, none⟩ = false := by
  unfold NAt at h
  simp [World.frozen?, h]
theorem NAt.setA (h : NAt w x i a e n) (u : Value) : NAt (w.setCell ⟨e.2, 2, none⟩ u) x i u e n := set_same h 2 u
theorem NAt.setN (h : NAt w x i a e n) (u : Value) : NAt (w.setCell ⟨e.2, 3, none⟩ u) x i a e u := set_same h 3 u
theorem NAt.far {x' : Nat} (h : NAt w x i a e n) (k : OAt w x' c f l m) : e.2 ≠ x' := by
  intro q
  obtain ⟨cs, h1, h2, _⟩ := k
  unfold NAt at h
  rw [q, h1] at h
  injection (Option.some.inj h) with h3
  rw [h3] at h2
  simp at h2
theorem Seg.keep : ∀ {L : List Wt} {a n : Value}, Seg w x i a L n → (∀ e ∈ L, w'.heap[e.2]? = w.heap[e.2]?) → Seg w' x i a L n
  | [], _, _, _, _ => trivial
  | e :: L, _, _, h, k => ⟨(k e (by simp)).trans h.1, Seg.keep h.2 fun f hf => k f (by simp [hf])⟩
theorem Seg.append : ∀ {L M : List Wt} {a n : Value}, Seg w x i a (L ++ M) n ↔ Seg w x i a L (headOr M n) ∧ Seg w x i (lastOr a L) M n
  | [], M, a, n => ⟨fun h => ⟨trivial, h⟩, fun h => h.2⟩
  | e :: L, M, a, n => by
    show (NAt w x i a e (headOr (L ++ M) n) ∧ Seg w x i (ptrV e.2) (L ++ M) n) ↔ (NAt w x i a e (headOr L (headOr M n)) ∧ Seg w x i (ptrV e.2) L (headOr M n)) ∧ Seg w x i (lastOr (ptrV e.2) L) M n
    rw [headOr_append, Seg.append, and_assoc]
theorem Seg.lt : ∀ {L : List Wt} {a n : Value}, Seg w x i a L n → ∀ e ∈ L, e.2 < w.heap.size
  | [], _, _, _, _, he => by cases he
  | f :: L, _, _, h, e, he => by
    rcases List.mem_cons.1 he with rfl | he
    · exact h.1.lt
    · exact Seg.lt h.2 e he
theorem Seg.far : ∀ {L : List Wt} {a n : Value} {x' : Nat}, Seg w x i a L n → OAt w x' c f l m → ∀ e ∈ L, e.2 ≠ x'
  | [], _, _, _, _, _, _, he => by cases he
  | f :: L, _, _, _, h, k, e, he => by
    rcases List.mem_cons.1 he with rfl | he
    · exact h.1.far k
    · exact Seg.far h.2 k e he
/-- The block of one of the chain. -/
theorem Seg.blk : ∀ {L : List Wt} {a n : Value}, Seg w x i a L n → ∀ e ∈ L, ∃ cs, w.heap[e.2]? = some (.cells cs 66 (0, 0))
  | [], _, _, _, _, he => by cases he
  | f :: L, _, _, h, e, he => by
    rcases List.mem_cons.1 he with rfl | he
    · exact ⟨_, h.1⟩
    · exact Seg.blk h.2 e he
end

/-- The program's objects at x. -/
structure Obs (base x : Nat) (c : Nat → Int) (r : Nat → List Wt) (m : Value) (D : DataW Value) (w : World) : Prop where
  at' : OAt w x c (fun i => headOr (r i) nilV) (fun i => lastOr nilV (r i)) m
  seg : ∀ i, i < 4 → Seg w x i nilV (r i) nilV
  apart : ((flat r).map (·.2)).Nodup
  ids : ((flat r).map (·.1)).Nodup
  wf : ∀ e ∈ flat r, wf64 e.1
  low : ∀ e ∈ flat r, base ≤ e.2
  map : Places w base m D
  full : Full D (flat r)
  bx : base ≤ x
  cb : ∀ i, i < 4 → 0 ≤ c i ∧ c i ≤ 255
/-- The blocks that they own. -/
def Own (x : Nat) (m : Value) (r : Nat → List Wt) (k : Nat) : Prop := k = x ∨ m = .map (some k) ∨ ∃ e ∈ flat r, e.2 = k

section
variable {base x : Nat} {c : Nat → Int} {r : Nat → List Wt} {m : Value} {D : DataW Value} {w w' : World}
theorem Obs.lt (h : Obs base x c r m D w) : x < w.heap.size := h.at'.lt
theorem Obs.node (h : Obs base x c r m D w) {e : Wt} (he : e ∈ flat r) : e.2 < w.heap.size ∧ e.2 ≠ x := by
  obtain ⟨i, hi, he⟩ := mem_flat.1 he
  exact ⟨(h.seg i hi).lt e he, (h.seg i hi).far h.at' e he⟩
theorem Obs.mapFar (h : Obs base x c r m D w) {b : Nat} (hb : m = .map (some b)) : b ≠ x ∧ b < w.heap.size ∧ base ≤ b ∧ ∀ e ∈ flat r, e.2 ≠ b := by
  rcases h.map with ⟨h1, _⟩ | ⟨b', h1, h2, h3⟩
  · rw [h1] at hb; cases hb
  · rw [h1] at hb
    cases hb
    obtain ⟨es, k, ho⟩ := h3.obj
    refine ⟨fun e => ?_, lt_blk ho, h2, fun e he q => ?_⟩
    · obtain ⟨cs, h4, _⟩ := h.at'
      rw [e, h4] at ho; cases ho
    · obtain ⟨i, hi, he⟩ := mem_flat.1 he
      obtain ⟨cs, h4⟩ := (h.seg i hi).blk e he
      rw [q, ho] at h4; cases h4
theorem Obs.own (h : Obs base x c r m D w) : ∀ k, Own x m r k → base ≤ k ∧ k < w.heap.size := by
  intro k hk
  rcases hk with rfl | hk | ⟨e, he, rfl⟩
  · exact ⟨h.bx, h.lt⟩
  · obtain ⟨_, h2, h3, _⟩ := h.mapFar hk
    exact ⟨h3, h2⟩
  · exact ⟨h.low e he, (h.node he).1⟩
theorem Obs.keep (h : Obs base x c r m D w) (k : ∀ b, Own x m r b → w'.heap[b]? = w.heap[b]?) : Obs base x c r m D w' :=
  ⟨h.at'.same (k x (.inl rfl)), fun i hi => (h.seg i hi).keep fun e he => k e.2 (.inr (.inr ⟨e, mem_flat.2 ⟨i, hi, he⟩, rfl⟩)), h.apart, h.ids, h.wf, h.low, h.map.keep fun b hb => k b (.inr (.inl hb)), h.full, h.bx, h.cb⟩
theorem Obs.ext (h : Obs base x c r m D w) (k : Ext w w') : Obs base x c r m D w' := h.keep fun b hb => k.below.block b (h.own b hb).2
theorem Obs.lower {base' : Nat} (h : Obs base x c r m D w) (hb : base' ≤ base) : Obs base' x c r m D w :=
  ⟨h.at', h.seg, h.apart, h.ids, h.wf, fun e he => Nat.le_trans hb (h.low e he), by
    rcases h.map with h1 | ⟨b, h1, h2, h3⟩
    · exact .inl h1
    · exact .inr ⟨b, h1, Nat.le_trans hb h2, h3⟩, h.full, Nat.le_trans hb h.bx, h.cb⟩
/-- Only the counts turned. -/
theorem Obs.setC (h : Obs base x c r m D w) {i : Nat} (hi : i < 4) {u : Int} (hu : 0 ≤ u ∧ u ≤ 255) : Obs base x (upd c i u) r m D (w.setCell ⟨x, i * 3, none⟩ (.int .i64 u)) := by
  have hk : ∀ b, b ≠ x → (w.setCell ⟨x, i * 3, none⟩ (.int .i64 u)).heap[b]? = w.heap[b]? := fun b hb => Below.heap_setCell _ _ _ _ (by simpa using hb)
  refine ⟨h.at'.setC hi u, fun j hj => (h.seg j hj).keep fun e he => hk _ (h.node (mem_flat.2 ⟨j, hj, he⟩)).2, h.apart, h.ids, h.wf, h.low, h.map.keep fun b hb => hk _ (h.mapFar hb).1, h.full, h.bx, fun j hj => ?_⟩
  by_cases e : j = i
  · subst e; rw [upd_same]; exact hu
  · rw [upd_other e]; exact h.cb j hj
end
end Ob
end Go.Proofs.YtoimkocjfijlkaaDoor
