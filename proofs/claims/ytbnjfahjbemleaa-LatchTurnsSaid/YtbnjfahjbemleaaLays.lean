/- Blocks of one's own that are known whole, and what lies in them: numbers, rows, configurations. -/
import Derived.Test.YtbnjfahjbemleaaConf
import Derived.WalkKit
import Derived.Handy
namespace Go.Proofs.Ytbnjfahjbemleaa
open Go.RowKit

/-- From block N on lie these. -/
def Lays (N : Nat) (os : List Obj) (w : World) : Prop := ∀ i o, os[i]? = some o → w.heap[N + i]? = some o
def allocs (w : World) : List Obj → World
  | [] => w
  | o :: os => allocs (w.alloc o) os
theorem allocs_heap : ∀ (os : List Obj) (w : World), (allocs w os).heap = w.heap ++ os.toArray
  | [], w => by simp [allocs]
  | o :: os, w => by
    rw [allocs, allocs_heap os]
    show w.heap.push o ++ os.toArray = _
    apply Array.ext'
    simp
theorem allocs_lays (os : List Obj) (w : World) : Lays w.heap.size os (allocs w os) := fun i o h => by
  rw [allocs_heap, Array.getElem?_append_right (by omega)]
  simpa using h
theorem allocs_ext : ∀ (os : List Obj) (w : World), Ext w (allocs w os)
  | [], w => Ext.refl w
  | o :: os, w => (Ext.alloc (Ext.refl w) o).trans (allocs_ext os (w.alloc o))
theorem allocs_size (os : List Obj) (w : World) : (allocs w os).heap.size = w.heap.size + os.length := by
  rw [allocs_heap]; simp

theorem block_ext {w w' : World} (h : Ext w w') {b : Nat} {o : Obj} (hb : w.heap[b]? = some o) : w'.heap[b]? = some o := by
  have hlt : b < w.heap.size := by
    apply Decidable.byContradiction
    intro hn
    rw [Array.getElem?_eq_none (by omega)] at hb; cases hb
  rw [h.below.block b hlt]; exact hb
theorem Lays.ext {N : Nat} {os : List Obj} {w w' : World} (h : Ext w w') (l : Lays N os w) : Lays N os w' := fun i o ho => block_ext h (l i o ho)

theorem calls_forget {P : Program} {f : FuncId} {args : Array Value} {w : World} {Q : Ending → World → Prop} (F : World → Prop) (hF : F w) (h : ∀ w', F w' → Calls P f args w' Q) : Calls P f args w Q := h w hF
theorem cell_drew {w : World} {p : Addr} {x : Value} (h : w.cell? p = some x) : w.drew.cell? p = some x := h
theorem cell_alloc {w : World} {p : Addr} {x : Value} (o : Obj) (h : w.cell? p = some x) : (w.alloc o).cell? p = some x := Ext.cell (Ext.alloc (Ext.refl _) o) h
theorem cell_set_ne {w : World} {p a : Addr} {x : Value} (u : Value) (hne : p.block ≠ a.block) (h : w.cell? p = some x) : (w.setCell a u).cell? p = some x := by
  rw [← h]
  simp only [World.cell?, World.setCell, Array.getElem?_modify]
  rw [if_neg (Ne.symm hne)]
/-- What lies in a cell: a number, a row in one of the blocks, told from the first one on. -/
inductive RV where
  | i (n : Int)
  | u (n : Int)
  | s (b len : Nat)
  | nil
def RV.val (N : Nat) : RV → Value
  | .i n => .int .i64 n
  | .u n => .int .u64 n
  | .s b l => .slice (some ⟨N + b, 0, none⟩) l l
  | .nil => .slice none 0 0
def RV.wf : RV → Prop
  | .i n => (Lit.int .i64 n).wf = true
  | .u n => 0 ≤ n ∧ n < 18446744073709551616
  | .s _ l => l ≤ maxLen
  | .nil => True
def RV.wfB : RV → Bool
  | .i n => decide (-9223372036854775808 ≤ n) && decide (n ≤ 9223372036854775807)
  | .u n => decide (0 ≤ n) && decide (n < 18446744073709551616)
  | .s _ l => decide (l ≤ 9223372036854775807)
  | .nil => true
theorem RV.wf_of : ∀ {v : RV}, v.wfB = true → v.wf
  | .i n, h => by
    simp only [wfB, Bool.and_eq_true, decide_eq_true_eq] at h
    show (Lit.int .i64 n).wf = true
    have e1 : IntKind.i64.min = -9223372036854775808 := by decide
    have e2 : IntKind.i64.max = 9223372036854775807 := by decide
    simp [Lit.wf, e1, e2, h]
  | .u n, h => by
    simp only [wfB, Bool.and_eq_true, decide_eq_true_eq] at h
    exact h
  | .s _ l, h => by
    simp only [wfB, decide_eq_true_eq] at h
    show l ≤ maxLen
    unfold maxLen; omega
  | .nil, _ => trivial
abbrev RO := List RV × TypeId
theorem wf_all {os : List (List RV × TypeId)} (h : os.all (fun o => o.1.all RV.wfB) = true) : ∀ o ∈ os, ∀ v ∈ o.1, v.wf := fun o ho v hv =>
  RV.wf_of (List.all_eq_true.1 (List.all_eq_true.1 h o ho) v hv)
def RO.obj (N : Nat) (o : RO) : Obj := .cells (o.1.map (RV.val N)).toArray o.2 (0, 0)
/-- The blocks lie from N on. -/
def Lies (N : Nat) (os : List RO) (w : World) : Prop := Lays N (os.map (RO.obj N)) w ∧ ∀ o ∈ os, ∀ v ∈ o.1, v.wf
theorem Lies.ext {N : Nat} {os : List RO} {w w' : World} (h : Ext w w') (l : Lies N os w) : Lies N os w' := ⟨l.1.ext h, l.2⟩
theorem Lies.cell {N : Nat} {os : List RO} {w : World} (l : Lies N os w) {b j : Nat} {o : RO} {v : RV} (ho : os[b]? = some o) (hv : o.1[j]? = some v) : w.cell? ⟨N + b, j, none⟩ = some (v.val N) := by
  have := l.1 b (o.obj N) (by simp [ho])
  simp only [World.cell?, this, RO.obj]
  simp [hv]
theorem Lies.block {N : Nat} {os : List RO} {w : World} (l : Lies N os w) {b : Nat} {o : RO} (ho : os[b]? = some o) : w.heap[N + b]? = some (o.obj N) := l.1 b (o.obj N) (by simp [ho])

def setRO (os : List RO) (b j : Nat) (v : RV) : List RO := os.modify b (fun o => (o.1.set j v, o.2))
theorem setCell_at {w : World} {b j : Nat} {v : Value} {cs : Array Value} {T : TypeId} (h : w.heap[b]? = some (.cells cs T (0, 0))) (k : Nat) :
    (w.setCell ⟨b, j, none⟩ v).heap[k]? = if k = b then some (.cells (cs.setIfInBounds j v) T (0, 0)) else w.heap[k]? := by
  simp only [World.setCell, Array.getElem?_modify]
  split
  · subst_vars; simp [h]
  · rename_i hk; rw [if_neg (Ne.symm hk)]
theorem Lies.set {N : Nat} {os : List RO} {w : World} (l : Lies N os w) {b j : Nat} {o : RO} (v : RV) (ho : os[b]? = some o) (hv : v.wf) : Lies N (setRO os b j v) (w.setCell ⟨N + b, j, none⟩ (v.val N)) := by
  have hb := l.block ho
  refine ⟨fun i x hx => ?_, fun x hx y hy => ?_⟩
  · rw [setCell_at hb]
    simp only [setRO, List.getElem?_map, List.getElem?_modify] at hx
    by_cases hi : b = i
    · subst hi
      simp only [ho, if_true, Option.map_eq_map, Option.map_some, Option.some.injEq] at hx
      subst hx
      simp [RO.obj, List.map_set]
    · rw [if_neg (by omega)]
      refine l.1 i x ?_
      rw [List.getElem?_map]
      simpa [hi] using hx
  · unfold setRO at hx
    obtain ⟨n, hn⟩ := List.mem_iff_getElem?.1 hx
    rw [List.getElem?_modify] at hn
    cases hos : os[n]? with
    | none => simp [hos] at hn
    | some z =>
      simp only [hos, Option.map_eq_map, Option.map_some, Option.some.injEq] at hn
      have hz := List.mem_of_getElem? hos
      by_cases hbn : b = n
      · rw [if_pos hbn] at hn
        subst hn
        rcases List.mem_or_eq_of_mem_set hy with h | h
        · exact l.2 z hz y h
        · exact h ▸ hv
      · rw [if_neg hbn] at hn
        subst hn
        exact l.2 z hz y hy
theorem Ext.set {a w : World} (h : Ext a w) {N b j : Nat} (hN : a.heap.size ≤ N) (v : Value) : Ext a (w.setCell ⟨N + b, j, none⟩ v) := Ext.setCell h (by simp; omega) v
/-- Blocks behind those that are known. -/
theorem Lies.more {N : Nat} {os : List RO} {w : World} (l : Lies N os w) (hs : w.heap.size = N + os.length) (ns : List RO) (hw : ∀ o ∈ ns, ∀ v ∈ o.1, v.wf) : Lies N (os ++ ns) (allocs w (ns.map (RO.obj N))) := by
  refine ⟨fun i x hx => ?_, fun x hx => ?_⟩
  · rw [List.map_append] at hx
    by_cases hi : i < os.length
    · rw [List.getElem?_append_left (by simpa using hi)] at hx
      exact block_ext (allocs_ext _ _) (l.1 i x hx)
    · rw [List.getElem?_append_right (by simp; omega)] at hx
      rw [allocs_heap, Array.getElem?_append_right (by omega), hs]
      simp only [List.length_map] at hx
      rw [show N + i - (N + os.length) = i - os.length by omega]
      simpa using hx
  · rcases List.mem_append.1 hx with h | h
    · exact l.2 x h
    · exact hw x h

theorem Lies.other {N : Nat} {os : List RO} {w : World} (l : Lies N os w) {b j : Nat} (v : Value) (hb : b < N ∨ N + os.length ≤ b) : Lies N os (w.setCell ⟨b, j, none⟩ v) := by
  refine ⟨fun i x hx => ?_, l.2⟩
  have hi : i < os.length := by
    apply Decidable.byContradiction
    intro hn
    rw [List.getElem?_eq_none (by simp; omega)] at hx; cases hx
  have := l.1 i x hx
  simp only [World.setCell, Array.getElem?_modify]
  rw [if_neg (by omega)]
  exact this
theorem Lies.unfrozen {N : Nat} {os : List RO} {w : World} (l : Lies N os w) {b : Nat} (j : Nat) {o : RO} (ho : os[b]? = some o) : w.frozen? ⟨N + b, j, none⟩ = false := by
  simp [World.frozen?, l.block ho, RO.obj]
theorem Lies.one {N : Nat} {os : List RO} {w : World} (l : Lies N os w) (hs : w.heap.size = N + os.length) (o : RO) (hw : o.1.all RV.wfB = true) : Lies N (os ++ [o]) (w.alloc (o.obj N)) :=
  l.more hs [o] (fun x hx v hv => by obtain rfl := List.mem_singleton.1 hx; exact RV.wf_of (List.all_eq_true.1 hw v hv))

theorem Lies.one' {N : Nat} {os : List RO} {w : World} (l : Lies N os w) (hs : w.heap.size = N + os.length) (o : RO) (hw : ∀ v ∈ o.1, v.wf) : Lies N (os ++ [o]) (w.alloc (o.obj N)) :=
  l.more hs [o] (fun x hx v hv => by obtain rfl := List.mem_singleton.1 hx; exact hw v hv)
/-- A cell of the blocks. -/
def cellOf (os : List RO) (b j : Nat) : Option RV := match os[b]? with
  | some o => o.1[j]?
  | none => none
theorem Lies.at {N : Nat} {os : List RO} {w : World} (l : Lies N os w) {b j : Nat} {v : RV} (h : cellOf os b j = some v) : w.cell? ⟨N + b, j, none⟩ = some (v.val N) := by
  unfold cellOf at h
  split at h
  · rename_i ho; exact l.cell ho h
  · cases h
theorem Lies.free {N : Nat} {os : List RO} {w : World} (l : Lies N os w) {b j : Nat} {v : RV} (h : cellOf os b j = some v) : w.frozen? ⟨N + b, j, none⟩ = false := by
  unfold cellOf at h
  split at h
  · rename_i ho; exact l.unfrozen j ho
  · cases h
theorem Lies.put {N : Nat} {os : List RO} {w : World} (l : Lies N os w) {b j : Nat} {v : RV} (h : cellOf os b j = some v) (u : RV) (hu : u.wf) : Lies N (setRO os b j u) (w.setCell ⟨N + b, j, none⟩ (u.val N)) := by
  unfold cellOf at h
  split at h
  · rename_i ho; exact l.set u ho hu
  · cases h

/-! ### Reading -/
def RV.int? : RV → Option Int
  | .i n => some n
  | _ => none
def RV.u64? : RV → Option Int
  | .u n => some n
  | _ => none
def rowOf (os : List RO) : RV → Option (List RV)
  | .nil => some []
  | .s b l => match os[b]? with
    | some o => if o.1.length = l then some o.1 else none
    | none => none
  | _ => none
def collect {α β : Type} (f : α → Option β) : List α → Option (List β)
  | [] => some []
  | x :: l => match f x, collect f l with
    | some y, some r => some (y :: r)
    | _, _ => none
theorem collect_get {α β : Type} {f : α → Option β} : ∀ {l : List α} {r : List β}, collect f l = some r → l.length = r.length ∧ ∀ (i : Nat) (y : β), r[i]? = some y → ∃ x, l[i]? = some x ∧ f x = some y
  | [], r, h => by simp [collect] at h; subst h; simp
  | x :: l, r, h => by
    unfold collect at h
    cases hx : f x with
    | none => simp [hx] at h
    | some y =>
      cases hl : collect f l with
      | none => simp [hx, hl] at h
      | some r' =>
        simp [hx, hl] at h
        subst h
        obtain ⟨h1, h2⟩ := collect_get hl
        refine ⟨by simp [h1], fun i z hz => ?_⟩
        cases i with
        | zero => simp at hz; subst hz; exact ⟨x, rfl, hx⟩
        | succ i => simpa using h2 i z (by simpa using hz)
def intsOf (os : List RO) (v : RV) : Option (List Int) := (rowOf os v).bind (collect RV.int?)
def rowsOf (os : List RO) (v : RV) : Option (List (List Int)) := (rowOf os v).bind (collect (intsOf os))

theorem rowOf_slc {N : Nat} {os : List RO} {w : World} (l : Lies N os w) {v : RV} {r : List RV} (hv : v.wf) (h : rowOf os v = some r) {α : Type} {E : World → Nat → Nat → α → Prop} {f : RV → Option α} {ys : List α}
    (hc : collect f r = some ys) (hE : ∀ b j x y, x.wf → w.cell? ⟨b, j, none⟩ = some (x.val N) → f x = some y → E w b j y) : Slc 1 E w (v.val N) ys := by
  obtain ⟨hl, hg⟩ := collect_get hc
  cases v with
  | i n => simp [rowOf] at h
  | u n => simp [rowOf] at h
  | nil =>
    simp [rowOf] at h; subst h
    obtain rfl : ys = [] := by cases ys <;> simp_all
    exact ⟨none, 0, rfl, by simp, by unfold maxLen; omega, fun h => by simp at h⟩
  | s b len =>
    simp only [rowOf] at h
    cases ho : os[b]? with
    | none => simp [ho] at h
    | some o =>
      simp only [ho] at h
      split at h
      · rename_i hlen
        simp at h; subst h
        refine ⟨some ⟨N + b, 0, none⟩, len, by simp only [RV.val]; rw [← hl, hlen], by omega, hv, fun _ => ⟨N + b, 0, rfl, fun i y hy => ?_⟩⟩
        obtain ⟨x, hx, hf⟩ := hg i y hy
        have := l.cell ho hx
        exact hE _ _ x y (l.2 o (List.mem_of_getElem? ho) x (List.mem_of_getElem? hx)) (by simpa using this) hf
      · cases h
theorem ints_lie {N : Nat} {os : List RO} {w : World} (l : Lies N os w) {v : RV} (hv : v.wf) {r : List Int} (h : intsOf os v = some r) : Nums .i64 w (v.val N) r := by
  unfold intsOf at h
  cases hr : rowOf os v with
  | none => simp [hr] at h
  | some c =>
    simp [hr] at h
    refine rowOf_slc l hv hr h fun b j x y hx hc hf => ?_
    cases x <;> simp [RV.int?] at hf
    subst hf
    exact ⟨hc, hx⟩
theorem rows_lie {N : Nat} {os : List RO} {w : World} (l : Lies N os w) {v : RV} (hv : v.wf) {r : List (List Int)} (h : rowsOf os v = some r) : RowsV w (v.val N) r := by
  unfold rowsOf at h
  cases hr : rowOf os v with
  | none => simp [hr] at h
  | some c =>
    simp [hr] at h
    exact rowOf_slc l hv hr h fun b j x y hx hc hf => ⟨_, hc, ints_lie l hx hf⟩

def domOf (os : List RO) : List RV → Option Dom
  | [.i lv, .u ct, vr, ve, .i to, .i th, .i gr, .i ri, .i se, .i bo] => match rowsOf os vr, intsOf os ve with
    | some r, some e => some ⟨lv, ct, r, e, to, th, gr, ri, se, bo⟩
    | _, _ => none
  | _ => none
def domsFrom (os : List RO) : List RV → Option (List Dom)
  | a :: b :: c :: d :: e :: f :: g :: h :: i :: j :: r => match domOf os [a, b, c, d, e, f, g, h, i, j], domsFrom os r with
    | some x, some l => some (x :: l)
    | _, _ => none
  | [] => some []
  | _ => none
def domsOf (os : List RO) : RV → Option (List Dom)
  | .s b l => match os[b]? with
    | some o => match domsFrom os o.1 with
      | some ds => if ds.length = l then some ds else none
      | none => none
    | none => none
  | .nil => some []
  | _ => none
theorem domOf_cells {os : List RO} {cs : List RV} {d : Dom} (h : domOf os cs = some d) : ∃ vr ve, cs = [.i d.level, .u d.cats, vr, ve, .i d.to, .i d.threads, .i d.groups, .i d.ring, .i d.sends, .i d.box] ∧ rowsOf os vr = some d.routes ∧ intsOf os ve = some d.release := by
  unfold domOf at h
  split at h
  · rename_i lv ct vr ve to th gr ri se bo
    split at h
    · rename_i h1 h2
      simp at h; subst h
      exact ⟨vr, ve, rfl, h1, h2⟩
    · cases h
  · cases h
theorem domsFrom_get {os : List RO} : ∀ {cs : List RV} {ds : List Dom}, domsFrom os cs = some ds → ∀ i d, ds[i]? = some d → domOf os ((cs.drop (i * 10)).take 10) = some d
  | a :: b :: c :: d :: e :: f :: g :: h :: i :: j :: r, ds, hd, k, y, hy => by
    unfold domsFrom at hd
    cases h1 : domOf os [a, b, c, d, e, f, g, h, i, j] with
    | none => simp [h1] at hd
    | some x =>
      cases h2 : domsFrom os r with
      | none => simp [h1, h2] at hd
      | some l =>
        simp [h1, h2] at hd
        subst hd
        cases k with
        | zero => simp at hy; subst hy; simpa using h1
        | succ k =>
          have := domsFrom_get h2 k y (by simpa using hy)
          rw [show (k + 1) * 10 = k * 10 + 10 by omega]
          simpa using this
  | [], ds, hd, k, y, hy => by simp [domsFrom] at hd; subst hd; simp at hy
  | [_], _, hd, _, _, _ | [_, _], _, hd, _, _, _ | [_, _, _], _, hd, _, _, _ | [_, _, _, _], _, hd, _, _, _ | [_, _, _, _, _], _, hd, _, _, _ | [_, _, _, _, _, _], _, hd, _, _, _ | [_, _, _, _, _, _, _], _, hd, _, _, _ | [_, _, _, _, _, _, _, _], _, hd, _, _, _ | [_, _, _, _, _, _, _, _, _], _, hd, _, _, _ => by simp [domsFrom] at hd
theorem doms_lie {N : Nat} {os : List RO} {w : World} (l : Lies N os w) {v : RV} (hv : v.wf) {ds : List Dom} (h : domsOf os v = some ds) : DomsV w (v.val N) ds := by
  cases v with
  | i n => simp [domsOf] at h
  | u n => simp [domsOf] at h
  | nil =>
    simp [domsOf] at h; subst h
    exact ⟨none, 0, rfl, by simp, by unfold maxLen; omega, fun h => by simp at h⟩
  | s b len =>
    simp only [domsOf] at h
    cases ho : os[b]? with
    | none => simp [ho] at h
    | some o =>
      simp only [ho] at h
      cases hd : domsFrom os o.1 with
      | none => simp [hd] at h
      | some ds' =>
        simp only [hd] at h
        split at h
        · rename_i hlen
          simp at h; subst h
          refine ⟨some ⟨N + b, 0, none⟩, len, by simp [RV.val, hlen], by omega, hv, fun _ => ⟨N + b, 0, rfl, fun i y hy => ?_⟩⟩
          obtain ⟨vr, ve, hcs, hr, he⟩ := domOf_cells (domsFrom_get hd i y hy)
          have hat : ∀ (j : Nat) (x : RV), ((o.1.drop (i * 10)).take 10)[j]? = some x → x.wf ∧ w.cell? ⟨N + b, 0 + i * 10 + j, none⟩ = some (x.val N) := fun j x hx => by
            rw [List.getElem?_take] at hx
            split at hx
            · rw [List.getElem?_drop] at hx
              exact ⟨l.2 o (List.mem_of_getElem? ho) x (List.mem_of_getElem? hx), by simpa [Nat.add_comm, Nat.add_assoc] using l.cell ho hx⟩
            · cases hx
          rw [hcs] at hat
          have hu := (hat 1 _ rfl).1
          exact ⟨vr.val N, ve.val N, ⟨(hat 0 _ rfl).2, (hat 1 _ rfl).2, (hat 2 _ rfl).2, (hat 3 _ rfl).2, (hat 4 _ rfl).2, (hat 5 _ rfl).2, (hat 6 _ rfl).2, (hat 7 _ rfl).2, (hat 8 _ rfl).2, (hat 9 _ rfl).2⟩,
            rows_lie l (hat 2 _ rfl).1 hr, ints_lie l (hat 3 _ rfl).1 he, hu.1, hu.2⟩
        · cases h
/-- A configuration out of the blocks. -/
def confOf (os : List RO) (fr ep : Int) (pv dv : RV) : Option Cnf := match rowsOf os pv, domsOf os dv with
  | some p, some d => some ⟨fr, ep, p, d⟩
  | _, _ => none
theorem conf_lies {N : Nat} {os : List RO} {w : World} (l : Lies N os w) {fr ep : Int} {pv dv : RV} (hp : pv.wf) (hd : dv.wf) {c : Cnf} (h : confOf os fr ep pv dv = some c) : c.frame = fr ∧ c.epoch = ep ∧ ConfV w c (pv.val N) (dv.val N) := by
  unfold confOf at h
  split at h
  · rename_i h1 h2
    simp at h; subst h
    exact ⟨rfl, rfl, rows_lie l hp h1, doms_lie l hd h2⟩
  · cases h
end Go.Proofs.Ytbnjfahjbemleaa
