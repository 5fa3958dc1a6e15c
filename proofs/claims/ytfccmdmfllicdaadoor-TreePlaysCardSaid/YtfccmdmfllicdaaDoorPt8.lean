/- slices.Insert of one pointer. -/
import Derived.Test.YtfccmdmfllicdaaDoorPt7
import Derived.Test.YtfccmdmfllicdaaDoorPq4
import Derived.Lib.Overlaps
import Derived.Lib.AppendZerosOnto
import Derived.Laws.IdiomCopy
import Derived.Laws.Externs
import Derived.Laws.NewBlocks
import Derived.ArgAppend
import Derived.Deep.RegionLaw
namespace Go.Proofs.YtfccmdmfllicdaaDoor
open Go.RowKit
set_option linter.unusedSimpArgs false

theorem infoPp : (Tryd.prog.info? 53).map (fun i => (i.zero, i.size, i.bytes)) = some (some (.pointer none), 1, 8) := by kernel_rfl
theorem ptr_one (p : Option Addr) : (Value.pointer p).oneCell' = true := rfl

/-- A builtin of two arguments whose run is known, in whatever region. -/
theorem opwp_append {P : Program} {o : Oper} {a : Act} {w : World} {K : Act → World → Prop} {Q : Exit → Act → World → Prop} (s x : Operand) (t t' : TypeId) (ho : o.op = .call { callee := .builtin .append, args := #[s, x], argTypes := #[t, t'] })
    {v u v' : Value} {w' : World} (hs : a.eval s = v) (hx : a.eval x = u) (hr : ∀ ty, (Builtin.append_ #[t, t'] ty #[v, u]).run P w = .ok v' w') (h : K (a.put o.dst v') w') : o.wp P a w K Q := by
  unfold Oper.wp
  simp [execOp, ho, resolve, invoke, builtin, hs, hx, hr, Result.andThen]
  exact h
theorem opwp_copy {P : Program} {o : Oper} {a : Act} {w : World} {K : Act → World → Prop} {Q : Exit → Act → World → Prop} (s x : Operand) (t t' : TypeId) (ho : o.op = .call { callee := .builtin .copy, args := #[s, x], argTypes := #[t, t'] })
    {v u v' : Value} {w' : World} (hs : a.eval s = v) (hx : a.eval x = u) (hr : ∀ ty, (Builtin.copy_ #[t, t'] ty #[v, u]).run P w = .ok v' w') (h : K (a.put o.dst v') w') : o.wp P a w K Q := by
  unfold Oper.wp
  simp [execOp, ho, resolve, invoke, builtin, hs, hx, hr, Result.andThen]
  exact h
theorem wpList_appendR {P : Program} {ops : Array Oper} {rest : List Oper} {o : Oper} {a : Act} {w : World} {Q : Exit → Act → World → Prop} (hgd : o.guard = none) (s x : Operand) (t t' : TypeId) (ho : o.op = .call { callee := .builtin .append, args := #[s, x], argTypes := #[t, t'] })
    {v u v' : Value} {w' : World} (hs : a.eval s = v) (hx : a.eval x = u) (hr : ∀ ty, (Builtin.append_ #[t, t'] ty #[v, u]).run P w = .ok v' w') (h : wpList P ops Q rest (a.put o.dst v') w') : wpList P ops Q (o :: rest) a w :=
  wpList_plain hgd fun _ hK => opwp_append s x t t' ho hs hx hr (hK _ _ h)
theorem wpList_copyR {P : Program} {ops : Array Oper} {rest : List Oper} {o : Oper} {a : Act} {w : World} {Q : Exit → Act → World → Prop} (hgd : o.guard = none) (s x : Operand) (t t' : TypeId) (ho : o.op = .call { callee := .builtin .copy, args := #[s, x], argTypes := #[t, t'] })
    {v u v' : Value} {w' : World} (hs : a.eval s = v) (hx : a.eval x = u) (hr : ∀ ty, (Builtin.copy_ #[t, t'] ty #[v, u]).run P w = .ok v' w') (h : wpList P ops Q rest (a.put o.dst v') w') : wpList P ops Q (o :: rest) a w :=
  wpList_plain hgd fun _ hK => opwp_copy s x t t' ho hs hx hr (hK _ _ h)
theorem step_bi {P : Program} {ops : Array Oper} {o : Oper} {a : Act} {w : World} {K : Act → World → Prop} {Q : Exit → Act → World → Prop} {E : Prop} (hg : o.guard = none) (h : o.wp P a w K Q) :
    if Region.wanted o (yielded ops a.tmps) = true then Oper.wp P o a w K Q else E := by
  have hw : Region.wanted o (yielded ops a.tmps) = true := by simp [Region.wanted, hg]
  rw [if_pos hw]; exact h

/-- A row with one put in. -/
theorem ins_row {xs : List Value} {u : Value} {n i : Nat} {cur : Array Value} (hx : xs.length = n) (hi : i ≤ n) (h : ∀ j, j < n + 1 → cur[j]? = if j < i then xs[j]? else if j = i then some u else xs[j - 1]?) :
    cur.toList.take ((n + 1) * 1) = xs.take i ++ u :: xs.drop i := by
  apply List.ext_getElem?
  intro j
  rw [Nat.mul_one, List.getElem?_take]
  by_cases hj : j < n + 1
  · rw [if_pos hj, Array.getElem?_toList, h j hj]
    by_cases h1 : j < i
    · rw [if_pos h1, List.getElem?_append_left (by simp; omega), List.getElem?_take, if_pos h1]
    · rw [if_neg h1, List.getElem?_append_right (by simp; omega)]
      have hl : (xs.take i).length = i := by simp; omega
      rw [hl]
      by_cases h2 : j = i
      · subst h2; rw [if_pos rfl, Nat.sub_self]; rfl
      · rw [if_neg h2, show j - i = (j - i - 1) + 1 by omega, List.getElem?_cons_succ, List.getElem?_drop]
        congr 1; omega
  · rw [if_neg hj, List.getElem?_eq_none]
    simp; omega
theorem size_zc (k : Nat) : (Builtin.zeroCells (Value.pointer none).cells k).size = k := by simp [Builtin.zeroCells, Value.cells]

theorem owns_base' {w : World} {base base' T n m : Nat} {v : Value} {xs : List Value} (h : w.ownsRow base T n v m xs) (hb : base' ≤ base) : w.ownsRow base' T n v m xs := by
  refine ⟨h.1, ?_⟩
  rcases h.2 with h | ⟨g, cap, cur, e1, e2, r⟩
  · exact .inl h
  · exact .inr ⟨g, cap, cur, e1, by omega, r⟩
def InsOk (base g n i : Nat) (xs : List Value) (u : Value) (w : World) (e : Ending) (w' : World) : Prop :=
  ∃ g' c', e = .returned (.slice (some ⟨g', 0, none⟩) (n + 1) c') ∧ w'.ownsRow base 53 1 (.slice (some ⟨g', 0, none⟩) (n + 1) c') (n + 1) (xs.take i ++ u :: xs.drop i) ∧ w.grownBy w' (some g) ∧ (g' = g ∨ w.heap.size ≤ g')

section
variable {base g cap n nb : Nat} {xs : List Value} {u : Value} {w : World}
theorem own_block (h : w.ownsRow base 53 1 (.slice (some ⟨g, 0, none⟩) n cap) n xs) : base ≤ g ∧ xs.length = n ∧ n ≤ cap ∧ cap ≤ maxLen ∧ ∃ cur, w.heap[g]? = some (.cells cur 53 (0, 0)) ∧ cur.size = cap ∧ ∀ j, j < n → cur[j]? = xs[j]? := by
  have h0 := h.1
  rcases h.2 with ⟨e, _⟩ | ⟨g', cap', cur, e1, e2, e3, e4, e5, e6, e7⟩
  · cases e
  · injection e1 with e1 _ e8
    injection e1 with e1
    injection e1 with e1
    subst e1 e8
    refine ⟨e2, by omega, e4, e5, cur, e3, by omega, fun j hj => ?_⟩
    rw [← e7, List.getElem?_take, if_pos (by omega)]; simp
theorem own_of {cur : Array Value} (hb : base ≤ g) (hc : w.heap[g]? = some (.cells cur 53 (0, 0))) (hn : n ≤ cap) (hm : cap ≤ maxLen) (hs : cur.size = cap) (hx : xs.length = n) (ht : cur.toList.take (n * 1) = xs) : w.ownsRow base 53 1 (.slice (some ⟨g, 0, none⟩) n cap) n xs :=
  ⟨by omega, .inr ⟨g, cap, cur, rfl, hb, hc, hn, hm, by omega, ht⟩⟩

set_option maxRecDepth 100000 in
set_option maxHeartbeats 4000000 in
/-- At the end. -/
theorem insert_end (h : w.ownsRow base 53 1 (.slice (some ⟨g, 0, none⟩) n cap) n xs) (hn : n ≤ 100) (hnb : w.heap[nb]? = some (.cells #[u] 53 (0, 0))) (hu : u.oneCell' = true) (hbs : base ≤ w.heap.size) :
    Calls Tryd.prog 30 #[.slice (some ⟨g, 0, none⟩) n cap, .int .i64 n, .slice (some ⟨nb, 0, none⟩) 1 1] w (InsOk base g n n xs u w) := by
  obtain ⟨hb, hxl, hnc, hcm, cur, hc, hcs, hcur⟩ := own_block h
  obtain ⟨i0, hi0, hz0, hzs, hzb⟩ := info_parts infoPp
  have hgl := lt_blk hc
  have hcm' := hcm
  unfold maxLen at hcm'
  have hsrc : ∀ j v, ([u] : List Value)[j]? = some v → w.cell? ((⟨nb, 0, none⟩ : Addr).add j) = some v := fun j v hj => by
    have hj0 := (List.getElem?_eq_some_iff.1 hj).1
    obtain rfl : j = 0 := by simpa using hj0
    rw [add_add]
    simp [World.cell?, hnb]
    simpa using hj
  obtain ⟨v', w', hrun, hok⟩ : ∃ v' w', (∀ ty, (Builtin.append_ #[59, 59] ty #[.slice (some ⟨g, 0, none⟩) n cap, .slice (some ⟨nb, 0, none⟩) 1 1]).run Tryd.prog w = .ok v' w') ∧ InsOk base g n n xs u w (.returned v') w' := by
    by_cases hroom : n + 1 ≤ cap
    · refine ⟨_, _, fun ty => run_append_room_cells w 59 ty 53 i0 Tryd.underlying59 hi0 g 0 n cap ⟨nb, 0, none⟩ 1 1 [u] (by rw [hzs]; rfl) hsrc (by simpa using hu) hroom (fun j hj => ?_) (fun j hj => by simp [World.frozen?, hc]), ?_⟩
      · have hj0 : j = 0 := by simpa using hj
        subst hj0
        rw [hzs, Nat.mul_one, Nat.zero_add, Nat.add_zero, cell_of_row _ _ _ _ _ (0, 0) hc, Array.getElem?_eq_getElem (by omega)]
        rfl
      · rw [hzs, Nat.mul_one, Nat.zero_add]
        obtain ⟨hg1, cur1, b1, b2, b3⟩ := setCells_block g 53 [u] n w cur hc
        refine ⟨g, cap, rfl, own_of hb b1 hroom hcm (by omega) (by simp; omega) (ins_row hxl (Nat.le_refl _) fun j hj => ?_), hg1, .inl rfl⟩
        rw [b3 j (by omega)]
        by_cases h1 : j < n
        · rw [if_neg (by simp; omega), if_pos h1, hcur j h1]
        · obtain rfl : j = n := by omega
          rw [if_pos (by simp), if_neg (by omega), if_pos rfl, Nat.sub_self]; rfl
    · obtain rfl : cap = n := by omega
      have hall := fun ty => run_append_arg_grows (P := Tryd.prog) w 59 ty 53 i0 _ 1 8 Tryd.underlying59 hi0 hz0 hzs hzb rfl (by decide) ⟨g, 0, none⟩ cap cap xs (by omega) (fun j v hj => by
        have hj0 := (List.getElem?_eq_some_iff.1 hj).1
        rw [add_add, Nat.zero_add, cell_of_row _ _ _ _ _ (0, 0) hc, hcur j (by omega)]; exact hj) ⟨nb, 0, none⟩ 1 1 [u] rfl hsrc (by omega) (by unfold maxLen; omega) (by omega)
      obtain ⟨v', w', h1, h2, h3⟩ := hall 0
      refine ⟨v', w', fun ty => h1, ?_⟩
      rcases h2.2 with ⟨_, h0⟩ | ⟨g', c', cur', e, e2, e3, e4, e5, e6, e7⟩
      · omega
      · subst e
        have e8 : xs.take cap ++ u :: xs.drop cap = xs ++ [u] := by rw [List.take_of_length_le (by omega), List.drop_eq_nil_of_le (by omega)]
        exact ⟨g', c', rfl, by rw [e8]; exact owns_base' h2 hbs, ⟨h3.os, h3.tape, h3.output, h3.size, fun k hk _ => h3.block k hk (by simp)⟩, .inr e2⟩
  have HOK := hid hok
  have HRUN := hid hrun
  clear h hb hxl hcm hc hcs hcur hi0 hz0 hzs hzb hsrc hok hrun hnb
  by_cases hcn : cap = n
  all_goals
    have hz2 : (n : Int) ≤ (cap : Int) := by omega
    go_enter Tryd.func30, Tryd.ntmps30
    go_wp2_with (at_builtin; refine wpList_appendR rfl (.tmp 23) (.tmp 24) 59 59 rfl rfl rfl HRUN.out ?_)
    go_returns
    exact HOK.out

set_option maxRecDepth 100000 in
set_option maxHeartbeats 4000000 in
/-- Between others, where there is no room. -/
theorem insert_grow {i : Nat} (h : w.ownsRow base 53 1 (.slice (some ⟨g, 0, none⟩) n n) n xs) (hi : i < n) (hn : n ≤ 100) (hnb : w.heap[nb]? = some (.cells #[u] 53 (0, 0))) (hu : u.oneCell' = true) (hxs : ∀ v ∈ xs, v.oneCell' = true) (hbs : base ≤ w.heap.size) :
    Calls Tryd.prog 30 #[.slice (some ⟨g, 0, none⟩) n n, .int .i64 i, .slice (some ⟨nb, 0, none⟩) 1 1] w (InsOk base g n i xs u w) := by
  obtain ⟨hb, hxl, -, hcm, cur, hc, hcs, hcur⟩ := own_block h
  obtain ⟨i0, hi0, hz0, hzs, hzb⟩ := info_parts infoPp
  have hsz : (Tryd.prog.info? 53).map (·.size) = some 1 := by rw [hi0]; simp [hzs]
  have hgl := lt_blk hc
  have hnl := lt_blk hnb
  have hdl : (xs.drop i).length = n - i := by rw [List.length_drop, hxl]
  obtain ⟨G, ROW, W1, hr1, hG, hGm, hRs, hRj, hW1, hN1, hx1⟩ : ∃ (G : Nat) (ROW : Array Value) (W1 : World), (∀ ty, (Builtin.append_ #[59, 3] ty #[.slice (some ⟨g, 0, none⟩) i n, .int .i64 ((n : Int) + 1 - (i : Int))]).run Tryd.prog w = .ok (.slice (some ⟨w.heap.size, 0, none⟩) (n + 1) G) W1) ∧
      n + 1 ≤ G ∧ G ≤ maxLen ∧ ROW.size = G ∧ (∀ j, j < i → ROW[j]? = xs[j]?) ∧ W1.heap[w.heap.size]? = some (.cells ROW 53 (0, 0)) ∧ W1.heap.size = w.heap.size + 1 ∧ Ext w W1 := by
    have hik : i + (n + 1 - i) = n + 1 := by omega
    have hold : (Builtin.firstCells i0.size i (.slice (some ⟨g, 0, none⟩) i n)).run Tryd.prog w.drew = .ok (xs.take i).toArray w.drew := by
      rw [hzs]
      refine run_firstCells_some w.drew 1 i ⟨g, 0, none⟩ i n (xs.take i) (by rw [List.length_take]; omega) (fun j v hj => ?_)
      have hj0 := (List.getElem?_eq_some_iff.1 hj).1
      rw [List.length_take] at hj0
      rw [List.getElem?_take, if_pos (by omega)] at hj
      rw [add_add, Nat.zero_add]
      show w.cell? _ = _
      rw [cell_of_row _ _ _ _ _ (0, 0) hc, hcur j (by omega)]; exact hj
    have hx := fun ty => Lib.run_append_grow_zeros w 59 3 ty 53 i0 _ .i64 .i64 Tryd.underlying59 Tryd.underlying3 hi0 hz0 (some ⟨g, 0, none⟩) i n (xs.take i) hold (n + 1 - i) (by omega) (by omega) (by omega) (by omega) (by rw [hzb]; omega) (by rw [hzb, hik]; exact growslice_fits (by omega) (by omega))
    rw [hik] at hx
    have hge := grownCap_ge w (n + 1) n 53
    refine ⟨grownCap w (n + 1) n 53, (xs.take i).toArray ++ Builtin.zeroCells (Value.pointer none).cells (n + 1 - i) ++ Builtin.zeroCells (Value.pointer none).cells (grownCap w (n + 1) n 53 - (n + 1)), _, fun ty => ?_, hge, grownCap_le_maxLen w (n + 1) n 53 (by unfold maxLen; omega), ?_, ?_, heap_alloc_new w.drew _, by simp, Ext.alloc (Ext.drew (Ext.refl w)) _⟩
    · have := hx ty
      rwa [show ((n + 1 - i : Nat) : Int) = (n : Int) + 1 - (i : Int) by omega] at this
    · simp only [Array.size_append, size_zc, List.size_toArray, List.length_take]
      omega
    · intro j hj
      rw [Array.append_assoc, Array.getElem?_append_left (by simp; omega)]
      simp [hj]
  have hci : ¬ (G = i) := by omega
  have hci1 : ¬ (G = i + 1) := by omega
  have hu0 : ∀ j v, ([u] : List Value)[j]? = some v → j = 0 ∧ v = u := fun j v hj => by
    have hj0 := (List.getElem?_eq_some_iff.1 hj).1
    obtain rfl : j = 0 := by simpa using hj0
    exact ⟨rfl, by simpa using hj.symm⟩
  obtain ⟨hg2, cur2, c1, c2, c3⟩ := setCells_block w.heap.size 53 [u] i W1 ROW hW1
  have hr2 : ∀ ty, (Builtin.copy_ #[59, 59] ty #[.slice (some ⟨w.heap.size, i, none⟩) (n + 1 - i) (G - i), .slice (some ⟨nb, 0, none⟩) 1 1]).run Tryd.prog W1 = .ok (goInt 1) (W1.setCells w.heap.size i [u]) := fun ty =>
    run_copy_cells W1 _ _ ty 53 w.heap.size i (n + 1 - i) (G - i) ⟨nb, 0, none⟩ 1 1 [u] Tryd.underlying59 hsz (by simp only [Nat.min_def, List.length_cons, List.length_nil]; split <;> omega)
      (fun j v hj => by obtain ⟨rfl, rfl⟩ := hu0 j v hj; rw [add_add]; simp [World.cell?, block_ext' hx1 hnb])
      (fun j hj => by rw [cell_of_row _ _ _ _ _ (0, 0) hW1, Array.getElem?_eq_getElem (by simp at hj; omega)]; rfl) (fun j _ => by simp [World.frozen?, hW1]) (by simpa using hu)
  obtain ⟨W2, hW2⟩ : ∃ W2, W2 = W1.setCells w.heap.size i [u] := ⟨_, rfl⟩
  rw [← hW2] at hg2 c1
  simp only [← hW2] at hr2
  obtain ⟨hg3, cur3, d1, d2, d3⟩ := setCells_block w.heap.size 53 (xs.drop i) (i + 1) W2.drew cur2 c1
  have hg1 : W2.heap[g]? = some (.cells cur 53 (0, 0)) := by
    rw [hg2.block g (by omega) (by simp; omega)]; exact block_ext' hx1 hc
  have hr3 : ∀ ty, (Builtin.copy_ #[59, 59] ty #[.slice (some ⟨w.heap.size, i + 1, none⟩) (n - i) (G - (i + 1)), .slice (some ⟨g, i, none⟩) (n - i) (n - i)]).run Tryd.prog W2.drew = .ok (goInt ((n - i : Nat) : Int)) (W2.drew.setCells w.heap.size (i + 1) (xs.drop i)) := fun ty => by
    have := run_copy_cells (P := Tryd.prog) W2.drew 59 59 ty 53 w.heap.size (i + 1) (n - i) (G - (i + 1)) ⟨g, i, none⟩ (n - i) (n - i) (xs.drop i) Tryd.underlying59 hsz (by rw [hdl]; simp only [Nat.min_def]; split <;> omega)
      (fun j v hj => by
        have hj0 := (List.getElem?_eq_some_iff.1 hj).1
        rw [add_add]
        show W2.cell? _ = _
        rw [List.getElem?_drop] at hj
        rw [cell_of_row _ _ _ _ _ (0, 0) hg1, hcur _ (by omega)]; exact hj)
      (fun j hj => by show (W2.cell? _).isSome = true; rw [cell_of_row _ _ _ _ _ (0, 0) c1, Array.getElem?_eq_getElem (by omega)]; rfl) (fun j _ => by show W2.frozen? _ = false; simp [World.frozen?, c1]) (fun v hv => hxs v (List.mem_of_mem_drop hv))
    rwa [hdl] at this
  obtain ⟨W3, hW3⟩ : ∃ W3, W3 = W2.drew.setCells w.heap.size (i + 1) (xs.drop i) := ⟨_, rfl⟩
  rw [← hW3] at hg3 d1
  simp only [← hW3] at hr3
  have HOK : Hid (InsOk base g n i xs u w (.returned (.slice (some ⟨w.heap.size, 0, none⟩) (n + 1) G)) W3) := by
    refine ⟨w.heap.size, G, rfl, own_of hbs d1 (by omega) hGm (by omega) (by simp; omega) (ins_row hxl (by omega) fun j hj => ?_), ⟨?_, ?_, ?_, ?_, fun k hk hne => ?_⟩, .inr (Nat.le_refl _)⟩
    · rw [d3 j (by omega), hdl]
      by_cases h1 : j < i
      · rw [if_neg (by omega), c3 j (by omega), if_neg (by simp; omega), if_pos h1, hRj j h1]
      · by_cases h2 : j = i
        · subst h2
          rw [if_neg (by omega), c3 j (by omega), if_pos (by simp), if_neg (by omega), if_pos rfl, Nat.sub_self]; rfl
        · rw [if_pos (by omega), if_neg h1, if_neg h2, List.getElem?_drop]; congr 1; omega
    · exact hg3.os.trans (hg2.os.trans hx1.below.os)
    · exact hg3.tape.trans (hg2.tape.trans hx1.below.tape)
    · exact hg3.output.trans (hg2.output.trans hx1.below.output)
    · have h1 := hg3.size
      have h2 := hg2.size
      have h3 : W2.drew.heap.size = W2.heap.size := rfl
      omega
    · have h2 := hg2.size
      have h3 : W2.drew.heap.size = W2.heap.size := rfl
      rw [hg3.block k (by omega) (by simp; omega)]
      show W2.heap[k]? = _
      rw [hg2.block k (by omega) (by simp; omega)]
      exact hx1.below.block k hk
  have HR1 := hid hr1
  have HR2 := hid hr2
  have HR3 := hid hr3
  have hz1 : ((i : Int) == (n : Int)) = false := by rw [beq_eq_false_iff_ne]; omega
  have hz2 : (i : Int) ≤ (n : Int) := by omega
  have hz3 : ¬ (n = i) := by omega
  have hz4 : (i : Int) + 1 ≤ (n : Int) + 1 := by omega
  have hz5 : (i : Int) ≤ (n : Int) + 1 := by omega
  have hz6 : (n : Int) + 1 ≤ (G : Int) := by omega
  have hz7 : ((i : Int) + 1).toNat = i + 1 := by omega
  have hz8 : n + 1 - (i + 1) = n - i := by omega
  have hG63 : (G : Int) ≤ 9223372036854775807 := by unfold maxLen at hGm; omega
  have hw1 : IntKind.i64.wrap ((i : Int) + 1) = (i : Int) + 1 := IntWalk.i64_in _ (by omega)
  have hz9 : (0 : Int) ≤ (i : Int) + 1 := by omega
  clear h hb hxl hcm hc hcs hcur hi0 hz0 hzs hzb hnb hsz hdl hG hGm hRs hRj hW1 hN1 hx1 hu0 hg2 c1 c2 c3 hW2 hg3 d1 d2 d3 hg1 hW3 hr1 hr3 hxs hu
  generalize w.heap.size = N at *
  go_enter Tryd.func30, Tryd.ntmps30
  go_wp2_with (at_builtin; refine wpList_appendR rfl (.tmp 34) (.tmp 39) 59 3 rfl rfl rfl HR1.out ?_)
  go_region_law (refine step_bi rfl (opwp_copy (.tmp 50) (.tmp 53) 59 59 rfl (by simp [Act.eval, Act.put]; try rfl) (by simp [Act.eval, Act.put]; try rfl) HR3.out ?_))
  go_wp2
  go_returns
  exact HOK.out

set_option maxRecDepth 100000 in
set_option maxHeartbeats 4000000 in
/-- Between others, where there is room. -/
theorem insert_room {i : Nat} (h : w.ownsRow base 53 1 (.slice (some ⟨g, 0, none⟩) n cap) n xs) (hroom : n + 1 ≤ cap) (hi : i < n) (hn : n ≤ 100) (hnb : w.heap[nb]? = some (.cells #[u] 53 (0, 0))) (hne : nb ≠ g) (hu : u.oneCell' = true) (hxs : ∀ v ∈ xs, v.oneCell' = true) :
    Calls Tryd.prog 30 #[.slice (some ⟨g, 0, none⟩) n cap, .int .i64 i, .slice (some ⟨nb, 0, none⟩) 1 1] w (InsOk base g n i xs u w) := by
  obtain ⟨hb, hxl, -, hcm, cur, hc, hcs, hcur⟩ := own_block h
  obtain ⟨i0, hi0, hz0, hzs, hzb⟩ := info_parts infoPp
  have hsz : (Tryd.prog.info? 53).map (·.size) = some 1 := by rw [hi0]; simp [hzs]
  have hdl : (xs.drop i).length = n - i := by rw [List.length_drop, hxl]
  have hu0 : ∀ j v, ([u] : List Value)[j]? = some v → j = 0 ∧ v = u := fun j v hj => by
    have hj0 := (List.getElem?_eq_some_iff.1 hj).1
    obtain rfl : j = 0 := by simpa using hj0
    exact ⟨rfl, by simpa using hj.symm⟩
  have hov : ∀ lb cb, (callFunc 60 #[.slice (some ⟨nb, 0, none⟩) 1 1, .slice (some ⟨g, i + 1, none⟩) lb cb]).run Tryd.prog w = .ok (.value (.bool false)) w := fun lb cb => by
    rw [@run_callFunc_extern Tryd.prog 60 _ (Extern.SlicesOverlaps.overlaps #[59, 59] #[4]) Tryd.func60 (by kernel_rfl) (by kernel_rfl) (by kernel_rfl) (by kernel_rfl),
      Lib.run_overlaps_apart w 59 4 53 Tryd.underlying59 1 Tryd.sizeOf53 ⟨nb, 0, none⟩ ⟨g, i + 1, none⟩ 1 1 lb cb hne 53 53 1 cap (by simp [World.shape?, hnb]) (by simp [World.shape?, hc, hcs]) (by omega) (by simp [World.frozen?, hnb]) (by simp [World.frozen?, hnb])]
    rfl
  obtain ⟨hg1, cur1, c1, c2, c3⟩ := setCells_block g 53 (xs.drop i) (i + 1) w.drew cur hc
  have hr1 : ∀ ty, (Builtin.copy_ #[59, 59] ty #[.slice (some ⟨g, i + 1, none⟩) (n - i) (cap - (i + 1)), .slice (some ⟨g, i, none⟩) (n + 1 - i) (cap - i)]).run Tryd.prog w.drew = .ok (goInt ((n - i : Nat) : Int)) (w.drew.setCells g (i + 1) (xs.drop i)) := fun ty => by
    have := run_copy_cells (P := Tryd.prog) w.drew 59 59 ty 53 g (i + 1) (n - i) (cap - (i + 1)) ⟨g, i, none⟩ (n + 1 - i) (cap - i) (xs.drop i) Tryd.underlying59 hsz (by rw [hdl]; simp only [Nat.min_def]; split <;> omega)
      (fun j v hj => by
        have hj0 := (List.getElem?_eq_some_iff.1 hj).1
        rw [add_add]
        show w.cell? _ = _
        rw [List.getElem?_drop] at hj
        rw [cell_of_row _ _ _ _ _ (0, 0) hc, hcur _ (by omega)]; exact hj)
      (fun j hj => by show (w.cell? _).isSome = true; rw [cell_of_row _ _ _ _ _ (0, 0) hc, Array.getElem?_eq_getElem (by omega)]; rfl) (fun j _ => by show w.frozen? _ = false; simp [World.frozen?, hc]) (fun v hv => hxs v (List.mem_of_mem_drop hv))
    rwa [hdl] at this
  obtain ⟨W1, hW1⟩ : ∃ W1, W1 = w.drew.setCells g (i + 1) (xs.drop i) := ⟨_, rfl⟩
  rw [← hW1] at hg1 c1
  simp only [← hW1] at hr1
  have hnb1 : W1.heap[nb]? = some (.cells #[u] 53 (0, 0)) := by
    rw [hg1.block nb (lt_blk hnb) (by simpa using hne)]; exact hnb
  obtain ⟨hg2, cur2, d1, d2, d3⟩ := setCells_block g 53 [u] i W1 cur1 c1
  have hr2 : ∀ ty, (Builtin.copy_ #[59, 59] ty #[.slice (some ⟨g, i, none⟩) (n + 1 - i) (cap - i), .slice (some ⟨nb, 0, none⟩) 1 1]).run Tryd.prog W1 = .ok (goInt 1) (W1.setCells g i [u]) := fun ty =>
    run_copy_cells W1 _ _ ty 53 g i (n + 1 - i) (cap - i) ⟨nb, 0, none⟩ 1 1 [u] Tryd.underlying59 hsz (by simp only [Nat.min_def, List.length_cons, List.length_nil]; split <;> omega)
      (fun j v hj => by obtain ⟨rfl, rfl⟩ := hu0 j v hj; rw [add_add]; simp [World.cell?, hnb1])
      (fun j hj => by rw [cell_of_row _ _ _ _ _ (0, 0) c1, Array.getElem?_eq_getElem (by simp at hj; omega)]; rfl) (fun j _ => by simp [World.frozen?, c1]) (by simpa using hu)
  obtain ⟨W2, hW2⟩ : ∃ W2, W2 = W1.setCells g i [u] := ⟨_, rfl⟩
  rw [← hW2] at hg2 d1
  simp only [← hW2] at hr2
  have HOK : Hid (InsOk base g n i xs u w (.returned (.slice (some ⟨g, 0, none⟩) (n + 1) cap)) W2) := by
    refine ⟨g, cap, rfl, own_of hb d1 hroom hcm (by omega) (by simp; omega) (ins_row hxl (by omega) fun j hj => ?_), ⟨hg2.os.trans hg1.os, hg2.tape.trans hg1.tape, hg2.output.trans hg1.output, Nat.le_trans hg1.size hg2.size, fun k hk hk2 => (hg2.block k (Nat.lt_of_lt_of_le hk hg1.size) hk2).trans (hg1.block k hk hk2)⟩, .inl rfl⟩
    rw [d3 j (by omega)]
    by_cases h2 : j = i
    · subst h2
      rw [if_pos (by simp), if_neg (by omega), if_pos rfl, Nat.sub_self]; rfl
    · rw [if_neg (by simp; omega), c3 j (by omega), hdl]
      by_cases h1 : j < i
      · rw [if_neg (by omega), if_pos h1, hcur j (by omega)]
      · rw [if_pos (by omega), if_neg h1, if_neg h2, List.getElem?_drop]; congr 1; omega
  have HR1 := hid hr1
  have hz1 : ((i : Int) == (n : Int)) = false := by rw [beq_eq_false_iff_ne]; omega
  have hz2 : (i : Int) ≤ (n : Int) := by omega
  have hz3 : ¬ (cap = i) := by omega
  have hz3' : ¬ (cap = i + 1) := by omega
  have hz4 : (i : Int) + 1 ≤ (n : Int) + 1 := by omega
  have hz5 : (i : Int) ≤ (n : Int) + 1 := by omega
  have hz6 : (n : Int) + 1 ≤ (cap : Int) := by omega
  have hz7 : ((i : Int) + 1).toNat = i + 1 := by omega
  have hz7' : ((n : Int) + 1).toNat = n + 1 := by omega
  have hz8 : n + 1 - (i + 1) = n - i := by omega
  have hG63 : (cap : Int) ≤ 9223372036854775807 := by unfold maxLen at hcm; omega
  have hw1 : IntKind.i64.wrap ((i : Int) + 1) = (i : Int) + 1 := IntWalk.i64_in _ (by omega)
  have hz9 : (0 : Int) ≤ (i : Int) + 1 := by omega
  have hz10 : ¬ ((cap : Int) < (n : Int) + 1) := by omega
  clear h hb hxl hcm hc hcs hcur hi0 hz0 hzs hzb hnb hsz hdl hu0 hg1 c1 c2 c3 hW1 hg2 d1 d2 d3 hnb1 hW2 hr1 hxs hu hroom
  go_enter Tryd.func30, Tryd.ntmps30
  go_wp2_with (simp only [hov])
  go_region_law (refine step_bi rfl (opwp_copy (.tmp 73) (.tmp 76) 59 59 rfl (by simp [Act.eval, Act.put]; try rfl) (by simp [Act.eval, Act.put]; try rfl) HR1.out ?_))
  go_wp2
  go_returns
  exact HOK.out
theorem insert_any {i : Nat} (h : w.ownsRow base 53 1 (.slice (some ⟨g, 0, none⟩) n cap) n xs) (hi : i ≤ n) (hn : n ≤ 100) (hnb : w.heap[nb]? = some (.cells #[u] 53 (0, 0))) (hne : nb ≠ g) (hu : u.oneCell' = true) (hxs : ∀ v ∈ xs, v.oneCell' = true) (hbs : base ≤ w.heap.size) :
    Calls Tryd.prog 30 #[.slice (some ⟨g, 0, none⟩) n cap, .int .i64 i, .slice (some ⟨nb, 0, none⟩) 1 1] w (InsOk base g n i xs u w) := by
  obtain ⟨hb, hxl, hnc, -⟩ := own_block h
  rcases Nat.lt_or_ge i n with hlt | hge
  · by_cases hroom : n + 1 ≤ cap
    · exact insert_room h hroom hlt hn hnb hne hu hxs
    · obtain rfl : cap = n := by omega
      exact insert_grow h hlt hn hnb hu hxs hbs
  · obtain rfl : i = n := by omega
    exact insert_end h hn hnb hu hbs
end
end Go.Proofs.YtfccmdmfllicdaaDoor
