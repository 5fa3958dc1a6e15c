/- The program's own tree: a node let go: slices.Delete of one pointer, and what is left. -/
import Derived.Test.YtocicffmajbecaaGreatDoorPt7
import Derived.Test.YtocicffmajbecaaGreatDoorPq4
import Derived.Lib.Overlaps
import Derived.Lib.AppendZerosOnto
import Derived.Laws.IdiomCopy
import Derived.Laws.Externs
import Derived.Laws.NewBlocks
import Derived.ArgAppend
import Derived.Deep.RegionLaw
import Derived.LaidEqlPtr
namespace Go.Proofs.YtocicffmajbecaaGreatDoor
open Go.RowKit
set_option linter.unusedSimpArgs false
theorem infoPp : (Tryz.prog.info? 119).map (fun i => (i.zero,i.size,i.bytes)) = some (some (.pointer none),1,8) := by kernel_rfl
theorem ptr_one (p : Option Addr) : (Value.pointer p).oneCell' = true := rfl
theorem opwp_append {P : Program} {o : Oper} {a : Act} {w : World} {K : Act → World → Prop} {Q : Exit → Act → World → Prop} (s x : Operand) (t t' : TypeId) (ho : o.op = .call { callee := .builtin .append,args := #[s,x],argTypes := #[t,t'] })
    {v u v' : Value} {w' : World} (hs : a.eval s = v) (hx : a.eval x = u) (hr : ∀ ty,(Builtin.append_ #[t,t'] ty #[v,u]).run P w = .ok v' w') (h : K (a.put o.dst v') w') : o.wp P a w K Q := by
  unfold Oper.wp
  simp [execOp,ho,resolve,invoke,builtin,hs,hx,hr,Result.andThen]
  exact h
theorem opwp_copy {P : Program} {o : Oper} {a : Act} {w : World} {K : Act → World → Prop} {Q : Exit → Act → World → Prop} (s x : Operand) (t t' : TypeId) (ho : o.op = .call { callee := .builtin .copy,args := #[s,x],argTypes := #[t,t'] })
    {v u v' : Value} {w' : World} (hs : a.eval s = v) (hx : a.eval x = u) (hr : ∀ ty,(Builtin.copy_ #[t,t'] ty #[v,u]).run P w = .ok v' w') (h : K (a.put o.dst v') w') : o.wp P a w K Q := by
  unfold Oper.wp
  simp [execOp,ho,resolve,invoke,builtin,hs,hx,hr,Result.andThen]
  exact h
theorem wpList_appendR {P : Program} {ops : Array Oper} {rest : List Oper} {o : Oper} {a : Act} {w : World} {Q : Exit → Act → World → Prop} (hgd : o.guard = none) (s x : Operand) (t t' : TypeId) (ho : o.op = .call { callee := .builtin .append,args := #[s,x],argTypes := #[t,t'] })
    {v u v' : Value} {w' : World} (hs : a.eval s = v) (hx : a.eval x = u) (hr : ∀ ty,(Builtin.append_ #[t,t'] ty #[v,u]).run P w = .ok v' w') (h : wpList P ops Q rest (a.put o.dst v') w') : wpList P ops Q (o :: rest) a w :=
  wpList_plain hgd fun _ hK => opwp_append s x t t' ho hs hx hr (hK _ _ h)
theorem step_bi {P : Program} {ops : Array Oper} {o : Oper} {a : Act} {w : World} {K : Act → World → Prop} {Q : Exit → Act → World → Prop} {E : Prop} (hg : o.guard = none) (h : o.wp P a w K Q) :
    if Region.wanted o (yielded ops a.tmps) = true then Oper.wp P o a w K Q else E := by
  have hw : Region.wanted o (yielded ops a.tmps) = true := by simp [Region.wanted,hg]
  rw [if_pos hw]; exact h
theorem ins_row {xs : List Value} {u : Value} {n i : Nat} {cur : Array Value} (hx : xs.length = n) (hi : i ≤ n) (h : ∀ j,j < n + 1 → cur[j]? = if j < i then xs[j]? else if j = i then some u else xs[j - 1]?) :
    cur.toList.take ((n + 1) * 1) = xs.take i ++ u :: xs.drop i := by
  apply List.ext_getElem?
  intro j
  rw [Nat.mul_one,List.getElem?_take]
  by_cases hj : j < n + 1
  · rw [if_pos hj,Array.getElem?_toList,h j hj]
    by_cases h1 : j < i
    · rw [if_pos h1,List.getElem?_append_left (by simp; omega),List.getElem?_take,if_pos h1]
    · rw [if_neg h1,List.getElem?_append_right (by simp; omega)]
      have hl : (xs.take i).length = i := by simp; omega
      rw [hl]
      by_cases h2 : j = i
      · subst h2; rw [if_pos rfl,Nat.sub_self]; rfl
      · rw [if_neg h2,show j - i = (j - i - 1) + 1 by omega,List.getElem?_cons_succ,List.getElem?_drop]
        congr 1; omega
  · rw [if_neg hj,List.getElem?_eq_none]
    simp; omega
theorem size_zc (k : Nat) : (Builtin.zeroCells (Value.pointer none).cells k).size = k := by simp [Builtin.zeroCells,Value.cells]
theorem owns_base' {w : World} {base base' T n m : Nat} {v : Value} {xs : List Value} (h : w.ownsRow base T n v m xs) (hb : base' ≤ base) : w.ownsRow base' T n v m xs := by
  refine ⟨h.1,?_⟩
  rcases h.2 with h | ⟨g,cap,cur,e1,e2,r⟩
  · exact .inl h
  · exact .inr ⟨g,cap,cur,e1,by omega,r⟩
def InsOk (base g n i : Nat) (xs : List Value) (u : Value) (w : World) (e : Ending) (w' : World) : Prop :=
  ∃ g' c',e = .returned (.slice (some ⟨g',0,none⟩) (n + 1) c') ∧ w'.ownsRow base 119 1 (.slice (some ⟨g',0,none⟩) (n + 1) c') (n + 1) (xs.take i ++ u :: xs.drop i) ∧ w.grownBy w' (some g) ∧ (g' = g ∨ w.heap.size ≤ g')
section
variable {base g cap n nb : Nat} {xs : List Value} {u : Value} {w : World}
theorem own_block (h : w.ownsRow base 119 1 (.slice (some ⟨g,0,none⟩) n cap) n xs) : base ≤ g ∧ xs.length = n ∧ n ≤ cap ∧ cap ≤ maxLen ∧ ∃ cur,w.heap[g]? = some (.cells cur 119 (0,0)) ∧ cur.size = cap ∧ ∀ j,j < n → cur[j]? = xs[j]? := by
  have h0 := h.1
  rcases h.2 with ⟨e,_⟩ | ⟨g',cap',cur,e1,e2,e3,e4,e5,e6,e7⟩
  · cases e
  · injection e1 with e1 _ e8
    injection e1 with e1
    injection e1 with e1
    subst e1 e8
    refine ⟨e2,by omega,e4,e5,cur,e3,by omega,fun j hj => ?_⟩
    rw [← e7,List.getElem?_take,if_pos (by omega)]; simp
theorem own_of {cur : Array Value} (hb : base ≤ g) (hc : w.heap[g]? = some (.cells cur 119 (0,0))) (hn : n ≤ cap) (hm : cap ≤ maxLen) (hs : cur.size = cap) (hx : xs.length = n) (ht : cur.toList.take (n * 1) = xs) : w.ownsRow base 119 1 (.slice (some ⟨g,0,none⟩) n cap) n xs :=
  ⟨by omega,.inr ⟨g,cap,cur,rfl,hb,hc,hn,hm,by omega,ht⟩⟩
set_option maxRecDepth 100000 in
set_option maxHeartbeats 4000000 in
theorem insert_end (h : w.ownsRow base 119 1 (.slice (some ⟨g,0,none⟩) n cap) n xs) (hn : n ≤ 100) (hnb : w.heap[nb]? = some (.cells #[u] 119 (0,0))) (hu : u.oneCell' = true) (hbs : base ≤ w.heap.size) :
    Calls Tryz.prog 110 #[.slice (some ⟨g,0,none⟩) n cap,.int .i64 n,.slice (some ⟨nb,0,none⟩) 1 1] w (InsOk base g n n xs u w) := by
  obtain ⟨hb,hxl,hnc,hcm,cur,hc,hcs,hcur⟩ := own_block h
  obtain ⟨i0,hi0,hz0,hzs,hzb⟩ := info_parts infoPp
  have hgl := lt_blk hc
  have hcm' := hcm
  unfold maxLen at hcm'
  have hsrc : ∀ j v,([u] : List Value)[j]? = some v → w.cell? ((⟨nb,0,none⟩ : Addr).add j) = some v := fun j v hj => by
    have hj0 := (List.getElem?_eq_some_iff.1 hj).1
    obtain rfl : j = 0 := by simpa using hj0
    rw [add_add]
    simp [World.cell?,hnb]
    simpa using hj
  obtain ⟨v',w',hrun,hok⟩ : ∃ v' w',(∀ ty,(Builtin.append_ #[67,67] ty #[.slice (some ⟨g,0,none⟩) n cap,.slice (some ⟨nb,0,none⟩) 1 1]).run Tryz.prog w = .ok v' w') ∧ InsOk base g n n xs u w (.returned v') w' := by
    by_cases hroom : n + 1 ≤ cap
    · refine ⟨_,_,fun ty => run_append_room_cells w 67 ty 119 i0 Tryz.underlying67 hi0 g 0 n cap ⟨nb,0,none⟩ 1 1 [u] (by rw [hzs]; rfl) hsrc (by simpa using hu) hroom (fun j hj => ?_) (fun j hj => by simp [World.frozen?,hc]),?_⟩
      · have hj0 : j = 0 := by simpa using hj
        subst hj0
        rw [hzs,Nat.mul_one,Nat.zero_add,Nat.add_zero,cell_of_row _ _ _ _ _ (0,0) hc,Array.getElem?_eq_getElem (by omega)]
        rfl
      · rw [hzs,Nat.mul_one,Nat.zero_add]
        obtain ⟨hg1,cur1,b1,b2,b3⟩ := setCells_block g 119 [u] n w cur hc
        refine ⟨g,cap,rfl,own_of hb b1 hroom hcm (by omega) (by simp; omega) (ins_row hxl (Nat.le_refl _) fun j hj => ?_),hg1,.inl rfl⟩
        rw [b3 j (by omega)]
        by_cases h1 : j < n
        · rw [if_neg (by simp; omega),if_pos h1,hcur j h1]
        · obtain rfl : j = n := by omega
          rw [if_pos (by simp),if_neg (by omega),if_pos rfl,Nat.sub_self]; rfl
    · obtain rfl : cap = n := by omega
      have hall := fun ty => run_append_arg_grows (P := Tryz.prog) w 67 ty 119 i0 _ 1 8 Tryz.underlying67 hi0 hz0 hzs hzb rfl (by decide) ⟨g,0,none⟩ cap cap xs (by omega) (fun j v hj => by
        have hj0 := (List.getElem?_eq_some_iff.1 hj).1
        rw [add_add,Nat.zero_add,cell_of_row _ _ _ _ _ (0,0) hc,hcur j (by omega)]; exact hj) ⟨nb,0,none⟩ 1 1 [u] rfl hsrc (by omega) (by unfold maxLen; omega) (by omega)
      obtain ⟨v',w',h1,h2,h3⟩ := hall 0
      refine ⟨v',w',fun ty => h1,?_⟩
      rcases h2.2 with ⟨_,h0⟩ | ⟨g',c',cur',e,e2,e3,e4,e5,e6,e7⟩
      · omega
      · subst e
        have e8 : xs.take cap ++ u :: xs.drop cap = xs ++ [u] := by rw [List.take_of_length_le (by omega),List.drop_eq_nil_of_le (by omega)]
        exact ⟨g',c',rfl,by rw [e8]; exact owns_base' h2 hbs,⟨h3.os,h3.tape,h3.output,h3.size,fun k hk _ => h3.block k hk (by simp)⟩,.inr e2⟩
  have HOK := hid hok
  have HRUN := hid hrun
  clear h hb hxl hcm hc hcs hcur hi0 hz0 hzs hzb hsrc hok hrun hnb
  by_cases hcn : cap = n
  all_goals
    have hz2 : (n : Int) ≤ (cap : Int) := by omega
    go_enter Tryz.func110,Tryz.ntmps110
    go_wp2_with (at_builtin; refine wpList_appendR rfl (.tmp 23) (.tmp 24) 67 67 rfl rfl rfl HRUN.out ?_)
    go_returns
    exact HOK.out
set_option maxRecDepth 100000 in
set_option maxHeartbeats 4000000 in
theorem insert_grow {i : Nat} (h : w.ownsRow base 119 1 (.slice (some ⟨g,0,none⟩) n n) n xs) (hi : i < n) (hn : n ≤ 100) (hnb : w.heap[nb]? = some (.cells #[u] 119 (0,0))) (hu : u.oneCell' = true) (hxs : ∀ v ∈ xs,v.oneCell' = true) (hbs : base ≤ w.heap.size) :
    Calls Tryz.prog 110 #[.slice (some ⟨g,0,none⟩) n n,.int .i64 i,.slice (some ⟨nb,0,none⟩) 1 1] w (InsOk base g n i xs u w) := by
  obtain ⟨hb,hxl,-,hcm,cur,hc,hcs,hcur⟩ := own_block h
  obtain ⟨i0,hi0,hz0,hzs,hzb⟩ := info_parts infoPp
  have hsz : (Tryz.prog.info? 119).map (·.size) = some 1 := by rw [hi0]; simp [hzs]
  have hgl := lt_blk hc
  have hnl := lt_blk hnb
  have hdl : (xs.drop i).length = n - i := by rw [List.length_drop,hxl]
  obtain ⟨G,ROW,W1,hr1,hG,hGm,hRs,hRj,hW1,hN1,hx1⟩ : ∃ (G : Nat) (ROW : Array Value) (W1 : World),(∀ ty,(Builtin.append_ #[67,3] ty #[.slice (some ⟨g,0,none⟩) i n,.int .i64 ((n : Int) + 1 - (i : Int))]).run Tryz.prog w = .ok (.slice (some ⟨w.heap.size,0,none⟩) (n + 1) G) W1) ∧
      n + 1 ≤ G ∧ G ≤ maxLen ∧ ROW.size = G ∧ (∀ j,j < i → ROW[j]? = xs[j]?) ∧ W1.heap[w.heap.size]? = some (.cells ROW 119 (0,0)) ∧ W1.heap.size = w.heap.size + 1 ∧ Ext w W1 := by
    have hik : i + (n + 1 - i) = n + 1 := by omega
    have hold : (Builtin.firstCells i0.size i (.slice (some ⟨g,0,none⟩) i n)).run Tryz.prog w.drew = .ok (xs.take i).toArray w.drew := by
      rw [hzs]
      refine run_firstCells_some w.drew 1 i ⟨g,0,none⟩ i n (xs.take i) (by rw [List.length_take]; omega) (fun j v hj => ?_)
      have hj0 := (List.getElem?_eq_some_iff.1 hj).1
      rw [List.length_take] at hj0
      rw [List.getElem?_take,if_pos (by omega)] at hj
      rw [add_add,Nat.zero_add]
      show w.cell? _ = _
      rw [cell_of_row _ _ _ _ _ (0,0) hc,hcur j (by omega)]; exact hj
    have hx := fun ty => Lib.run_append_grow_zeros w 67 3 ty 119 i0 _ .i64 .i64 Tryz.underlying67 Tryz.underlying3 hi0 hz0 (some ⟨g,0,none⟩) i n (xs.take i) hold (n + 1 - i) (by omega) (by omega) (by omega) (by omega) (by rw [hzb]; omega) (by rw [hzb,hik]; exact growslice_fits (by omega) (by omega))
    rw [hik] at hx
    have hge := grownCap_ge w (n + 1) n 119
    refine ⟨grownCap w (n + 1) n 119,(xs.take i).toArray ++ Builtin.zeroCells (Value.pointer none).cells (n + 1 - i) ++ Builtin.zeroCells (Value.pointer none).cells (grownCap w (n + 1) n 119 - (n + 1)),_,fun ty => ?_,hge,grownCap_le_maxLen w (n + 1) n 119 (by unfold maxLen; omega),?_,?_,heap_alloc_new w.drew _,by simp,Ext.alloc (Ext.drew (Ext.refl w)) _⟩
    · have := hx ty
      rwa [show ((n + 1 - i : Nat) : Int) = (n : Int) + 1 - (i : Int) by omega] at this
    · simp only [Array.size_append,size_zc,List.size_toArray,List.length_take]
      omega
    · intro j hj
      rw [Array.append_assoc,Array.getElem?_append_left (by simp; omega)]
      simp [hj]
  have hci : ¬ (G = i) := by omega
  have hci1 : ¬ (G = i + 1) := by omega
  have hu0 : ∀ j v,([u] : List Value)[j]? = some v → j = 0 ∧ v = u := fun j v hj => by
    have hj0 := (List.getElem?_eq_some_iff.1 hj).1
    obtain rfl : j = 0 := by simpa using hj0
    exact ⟨rfl,by simpa using hj.symm⟩
  obtain ⟨hg2,cur2,c1,c2,c3⟩ := setCells_block w.heap.size 119 [u] i W1 ROW hW1
  have hr2 : ∀ ty,(Builtin.copy_ #[67,67] ty #[.slice (some ⟨w.heap.size,i,none⟩) (n + 1 - i) (G - i),.slice (some ⟨nb,0,none⟩) 1 1]).run Tryz.prog W1 = .ok (goInt 1) (W1.setCells w.heap.size i [u]) := fun ty =>
    run_copy_cells W1 _ _ ty 119 w.heap.size i (n + 1 - i) (G - i) ⟨nb,0,none⟩ 1 1 [u] Tryz.underlying67 hsz (by simp only [Nat.min_def,List.length_cons,List.length_nil]; split <;> omega)
      (fun j v hj => by obtain ⟨rfl,rfl⟩ := hu0 j v hj; rw [add_add]; simp [World.cell?,block_ext' hx1 hnb])
      (fun j hj => by rw [cell_of_row _ _ _ _ _ (0,0) hW1,Array.getElem?_eq_getElem (by simp at hj; omega)]; rfl) (fun j _ => by simp [World.frozen?,hW1]) (by simpa using hu)
  obtain ⟨W2,hW2⟩ : ∃ W2,W2 = W1.setCells w.heap.size i [u] := ⟨_,rfl⟩
  rw [← hW2] at hg2 c1
  simp only [← hW2] at hr2
  obtain ⟨hg3,cur3,d1,d2,d3⟩ := setCells_block w.heap.size 119 (xs.drop i) (i + 1) W2.drew cur2 c1
  have hg1 : W2.heap[g]? = some (.cells cur 119 (0,0)) := by
    rw [hg2.block g (by omega) (by simp; omega)]; exact block_ext' hx1 hc
  have hr3 : ∀ ty,(Builtin.copy_ #[67,67] ty #[.slice (some ⟨w.heap.size,i + 1,none⟩) (n - i) (G - (i + 1)),.slice (some ⟨g,i,none⟩) (n - i) (n - i)]).run Tryz.prog W2.drew = .ok (goInt ((n - i : Nat) : Int)) (W2.drew.setCells w.heap.size (i + 1) (xs.drop i)) := fun ty => by
    have := run_copy_cells (P := Tryz.prog) W2.drew 67 67 ty 119 w.heap.size (i + 1) (n - i) (G - (i + 1)) ⟨g,i,none⟩ (n - i) (n - i) (xs.drop i) Tryz.underlying67 hsz (by rw [hdl]; simp only [Nat.min_def]; split <;> omega)
      (fun j v hj => by
        have hj0 := (List.getElem?_eq_some_iff.1 hj).1
        rw [add_add]
        show W2.cell? _ = _
        rw [List.getElem?_drop] at hj
        rw [cell_of_row _ _ _ _ _ (0,0) hg1,hcur _ (by omega)]; exact hj)
      (fun j hj => by show (W2.cell? _).isSome = true; rw [cell_of_row _ _ _ _ _ (0,0) c1,Array.getElem?_eq_getElem (by omega)]; rfl) (fun j _ => by show W2.frozen? _ = false; simp [World.frozen?,c1]) (fun v hv => hxs v (List.mem_of_mem_drop hv))
    rwa [hdl] at this
  obtain ⟨W3,hW3⟩ : ∃ W3,W3 = W2.drew.setCells w.heap.size (i + 1) (xs.drop i) := ⟨_,rfl⟩
  rw [← hW3] at hg3 d1
  simp only [← hW3] at hr3
  have HOK : Hid (InsOk base g n i xs u w (.returned (.slice (some ⟨w.heap.size,0,none⟩) (n + 1) G)) W3) := by
    refine ⟨w.heap.size,G,rfl,own_of hbs d1 (by omega) hGm (by omega) (by simp; omega) (ins_row hxl (by omega) fun j hj => ?_),⟨?_,?_,?_,?_,fun k hk hne => ?_⟩,.inr (Nat.le_refl _)⟩
    · rw [d3 j (by omega),hdl]
      by_cases h1 : j < i
      · rw [if_neg (by omega),c3 j (by omega),if_neg (by simp; omega),if_pos h1,hRj j h1]
      · by_cases h2 : j = i
        · subst h2
          rw [if_neg (by omega),c3 j (by omega),if_pos (by simp),if_neg (by omega),if_pos rfl,Nat.sub_self]; rfl
        · rw [if_pos (by omega),if_neg h1,if_neg h2,List.getElem?_drop]; congr 1; omega
    · exact hg3.os.trans (hg2.os.trans hx1.below.os)
    · exact hg3.tape.trans (hg2.tape.trans hx1.below.tape)
    · exact hg3.output.trans (hg2.output.trans hx1.below.output)
    · have h1 := hg3.size
      have h2 := hg2.size
      have h3 : W2.drew.heap.size = W2.heap.size := rfl
      omega
    · have h2 := hg2.size
      have h3 : W2.drew.heap.size = W2.heap.size := rfl
      rw [hg3.block k (by omega) (by simp; omega)]
      show W2.heap[k]? = _
      rw [hg2.block k (by omega) (by simp; omega)]
      exact hx1.below.block k hk
  have HR1 := hid hr1
  have HR2 := hid hr2
  have HR3 := hid hr3
  have hz1 : ((i : Int) == (n : Int)) = false := by rw [beq_eq_false_iff_ne]; omega
  have hz2 : (i : Int) ≤ (n : Int) := by omega
  have hz3 : ¬ (n = i) := by omega
  have hz4 : (i : Int) + 1 ≤ (n : Int) + 1 := by omega
  have hz5 : (i : Int) ≤ (n : Int) + 1 := by omega
  have hz6 : (n : Int) + 1 ≤ (G : Int) := by omega
  have hz7 : ((i : Int) + 1).toNat = i + 1 := by omega
  have hz8 : n + 1 - (i + 1) = n - i := by omega
  have hG63 : (G : Int) ≤ 9223372036854775807 := by unfold maxLen at hGm; omega
  have hw1 : IntKind.i64.wrap ((i : Int) + 1) = (i : Int) + 1 := IntWalk.i64_in _ (by omega)
  have hz9 : (0 : Int) ≤ (i : Int) + 1 := by omega
  clear h hb hxl hcm hc hcs hcur hi0 hz0 hzs hzb hnb hsz hdl hG hGm hRs hRj hW1 hN1 hx1 hu0 hg2 c1 c2 c3 hW2 hg3 d1 d2 d3 hg1 hW3 hr1 hr3 hxs hu
  generalize w.heap.size = N at *
  go_enter Tryz.func110,Tryz.ntmps110
  go_wp2_with (at_builtin; refine wpList_appendR rfl (.tmp 34) (.tmp 39) 67 3 rfl rfl rfl HR1.out ?_)
  go_region_law (refine step_bi rfl (opwp_copy (.tmp 50) (.tmp 53) 67 67 rfl (by simp [Act.eval,Act.put]; try rfl) (by simp [Act.eval,Act.put]; try rfl) HR3.out ?_))
  go_wp2
  go_returns
  exact HOK.out
set_option maxRecDepth 100000 in
set_option maxHeartbeats 4000000 in
theorem insert_room {i : Nat} (h : w.ownsRow base 119 1 (.slice (some ⟨g,0,none⟩) n cap) n xs) (hroom : n + 1 ≤ cap) (hi : i < n) (hn : n ≤ 100) (hnb : w.heap[nb]? = some (.cells #[u] 119 (0,0))) (hne : nb ≠ g) (hu : u.oneCell' = true) (hxs : ∀ v ∈ xs,v.oneCell' = true) :
    Calls Tryz.prog 110 #[.slice (some ⟨g,0,none⟩) n cap,.int .i64 i,.slice (some ⟨nb,0,none⟩) 1 1] w (InsOk base g n i xs u w) := by
  obtain ⟨hb,hxl,-,hcm,cur,hc,hcs,hcur⟩ := own_block h
  obtain ⟨i0,hi0,hz0,hzs,hzb⟩ := info_parts infoPp
  have hsz : (Tryz.prog.info? 119).map (·.size) = some 1 := by rw [hi0]; simp [hzs]
  have hdl : (xs.drop i).length = n - i := by rw [List.length_drop,hxl]
  have hu0 : ∀ j v,([u] : List Value)[j]? = some v → j = 0 ∧ v = u := fun j v hj => by
    have hj0 := (List.getElem?_eq_some_iff.1 hj).1
    obtain rfl : j = 0 := by simpa using hj0
    exact ⟨rfl,by simpa using hj.symm⟩
  have hov : ∀ lb cb,(callFunc 127 #[.slice (some ⟨nb,0,none⟩) 1 1,.slice (some ⟨g,i + 1,none⟩) lb cb]).run Tryz.prog w = .ok (.value (.bool false)) w := fun lb cb => by
    rw [@run_callFunc_extern Tryz.prog 127 _ (Extern.SlicesOverlaps.overlaps #[67,67] #[4]) Tryz.func127 (by kernel_rfl) (by kernel_rfl) (by kernel_rfl) (by kernel_rfl),
      Lib.run_overlaps_apart w 67 4 119 Tryz.underlying67 1 Tryz.sizeOf119 ⟨nb,0,none⟩ ⟨g,i + 1,none⟩ 1 1 lb cb hne 119 119 1 cap (by simp [World.shape?,hnb]) (by simp [World.shape?,hc,hcs]) (by omega) (by simp [World.frozen?,hnb]) (by simp [World.frozen?,hnb])]
    rfl
  obtain ⟨hg1,cur1,c1,c2,c3⟩ := setCells_block g 119 (xs.drop i) (i + 1) w.drew cur hc
  have hr1 : ∀ ty,(Builtin.copy_ #[67,67] ty #[.slice (some ⟨g,i + 1,none⟩) (n - i) (cap - (i + 1)),.slice (some ⟨g,i,none⟩) (n + 1 - i) (cap - i)]).run Tryz.prog w.drew = .ok (goInt ((n - i : Nat) : Int)) (w.drew.setCells g (i + 1) (xs.drop i)) := fun ty => by
    have := run_copy_cells (P := Tryz.prog) w.drew 67 67 ty 119 g (i + 1) (n - i) (cap - (i + 1)) ⟨g,i,none⟩ (n + 1 - i) (cap - i) (xs.drop i) Tryz.underlying67 hsz (by rw [hdl]; simp only [Nat.min_def]; split <;> omega)
      (fun j v hj => by
        have hj0 := (List.getElem?_eq_some_iff.1 hj).1
        rw [add_add]
        show w.cell? _ = _
        rw [List.getElem?_drop] at hj
        rw [cell_of_row _ _ _ _ _ (0,0) hc,hcur _ (by omega)]; exact hj)
      (fun j hj => by show (w.cell? _).isSome = true; rw [cell_of_row _ _ _ _ _ (0,0) hc,Array.getElem?_eq_getElem (by omega)]; rfl) (fun j _ => by show w.frozen? _ = false; simp [World.frozen?,hc]) (fun v hv => hxs v (List.mem_of_mem_drop hv))
    rwa [hdl] at this
  obtain ⟨W1,hW1⟩ : ∃ W1,W1 = w.drew.setCells g (i + 1) (xs.drop i) := ⟨_,rfl⟩
  rw [← hW1] at hg1 c1
  simp only [← hW1] at hr1
  have hnb1 : W1.heap[nb]? = some (.cells #[u] 119 (0,0)) := by
    rw [hg1.block nb (lt_blk hnb) (by simpa using hne)]; exact hnb
  obtain ⟨hg2,cur2,d1,d2,d3⟩ := setCells_block g 119 [u] i W1 cur1 c1
  have hr2 : ∀ ty,(Builtin.copy_ #[67,67] ty #[.slice (some ⟨g,i,none⟩) (n + 1 - i) (cap - i),.slice (some ⟨nb,0,none⟩) 1 1]).run Tryz.prog W1 = .ok (goInt 1) (W1.setCells g i [u]) := fun ty =>
    run_copy_cells W1 _ _ ty 119 g i (n + 1 - i) (cap - i) ⟨nb,0,none⟩ 1 1 [u] Tryz.underlying67 hsz (by simp only [Nat.min_def,List.length_cons,List.length_nil]; split <;> omega)
      (fun j v hj => by obtain ⟨rfl,rfl⟩ := hu0 j v hj; rw [add_add]; simp [World.cell?,hnb1])
      (fun j hj => by rw [cell_of_row _ _ _ _ _ (0,0) c1,Array.getElem?_eq_getElem (by simp at hj; omega)]; rfl) (fun j _ => by simp [World.frozen?,c1]) (by simpa using hu)
  obtain ⟨W2,hW2⟩ : ∃ W2,W2 = W1.setCells g i [u] := ⟨_,rfl⟩
  rw [← hW2] at hg2 d1
  simp only [← hW2] at hr2
  have HOK : Hid (InsOk base g n i xs u w (.returned (.slice (some ⟨g,0,none⟩) (n + 1) cap)) W2) := by
    refine ⟨g,cap,rfl,own_of hb d1 hroom hcm (by omega) (by simp; omega) (ins_row hxl (by omega) fun j hj => ?_),⟨hg2.os.trans hg1.os,hg2.tape.trans hg1.tape,hg2.output.trans hg1.output,Nat.le_trans hg1.size hg2.size,fun k hk hk2 => (hg2.block k (Nat.lt_of_lt_of_le hk hg1.size) hk2).trans (hg1.block k hk hk2)⟩,.inl rfl⟩
    rw [d3 j (by omega)]
    by_cases h2 : j = i
    · subst h2
      rw [if_pos (by simp),if_neg (by omega),if_pos rfl,Nat.sub_self]; rfl
    · rw [if_neg (by simp; omega),c3 j (by omega),hdl]
      by_cases h1 : j < i
      · rw [if_neg (by omega),if_pos h1,hcur j (by omega)]
      · rw [if_pos (by omega),if_neg h1,if_neg h2,List.getElem?_drop]; congr 1; omega
  have HR1 := hid hr1
  have hz1 : ((i : Int) == (n : Int)) = false := by rw [beq_eq_false_iff_ne]; omega
  have hz2 : (i : Int) ≤ (n : Int) := by omega
  have hz3 : ¬ (cap = i) := by omega
  have hz3' : ¬ (cap = i + 1) := by omega
  have hz4 : (i : Int) + 1 ≤ (n : Int) + 1 := by omega
  have hz5 : (i : Int) ≤ (n : Int) + 1 := by omega
  have hz6 : (n : Int) + 1 ≤ (cap : Int) := by omega
  have hz7 : ((i : Int) + 1).toNat = i + 1 := by omega
  have hz7' : ((n : Int) + 1).toNat = n + 1 := by omega
  have hz8 : n + 1 - (i + 1) = n - i := by omega
  have hG63 : (cap : Int) ≤ 9223372036854775807 := by unfold maxLen at hcm; omega
  have hw1 : IntKind.i64.wrap ((i : Int) + 1) = (i : Int) + 1 := IntWalk.i64_in _ (by omega)
  have hz9 : (0 : Int) ≤ (i : Int) + 1 := by omega
  have hz10 : ¬ ((cap : Int) < (n : Int) + 1) := by omega
  clear h hb hxl hcm hc hcs hcur hi0 hz0 hzs hzb hnb hsz hdl hu0 hg1 c1 c2 c3 hW1 hg2 d1 d2 d3 hnb1 hW2 hr1 hxs hu hroom
  go_enter Tryz.func110,Tryz.ntmps110
  go_wp2_with (simp only [hov])
  go_region_law (refine step_bi rfl (opwp_copy (.tmp 73) (.tmp 76) 67 67 rfl (by simp [Act.eval,Act.put]; try rfl) (by simp [Act.eval,Act.put]; try rfl) HR1.out ?_))
  go_wp2
  go_returns
  exact HOK.out
theorem insert_any {i : Nat} (h : w.ownsRow base 119 1 (.slice (some ⟨g,0,none⟩) n cap) n xs) (hi : i ≤ n) (hn : n ≤ 100) (hnb : w.heap[nb]? = some (.cells #[u] 119 (0,0))) (hne : nb ≠ g) (hu : u.oneCell' = true) (hxs : ∀ v ∈ xs,v.oneCell' = true) (hbs : base ≤ w.heap.size) :
    Calls Tryz.prog 110 #[.slice (some ⟨g,0,none⟩) n cap,.int .i64 i,.slice (some ⟨nb,0,none⟩) 1 1] w (InsOk base g n i xs u w) := by
  obtain ⟨hb,hxl,hnc,-⟩ := own_block h
  rcases Nat.lt_or_ge i n with hlt | hge
  · by_cases hroom : n + 1 ≤ cap
    · exact insert_room h hroom hlt hn hnb hne hu hxs
    · obtain rfl : cap = n := by omega
      exact insert_grow h hlt hn hnb hu hxs hbs
  · obtain rfl : i = n := by omega
    exact insert_end h hn hnb hu hbs
end
end Go.Proofs.YtocicffmajbecaaGreatDoor
namespace Go.Proofs.YtocicffmajbecaaGreatDoor
open Go.RowKit
set_option linter.unusedSimpArgs false
theorem mem_insT {d n : Nd} {l : List Nd} : n ∈ insT d l ↔ n = d ∨ n ∈ l := by
  unfold insT
  rw [List.mem_append,List.mem_cons]
  have h : n ∈ l ↔ n ∈ l.take (placeT l d.id) ∨ n ∈ l.drop (placeT l d.id) := by rw [← List.mem_append,List.take_append_drop]
  rw [h]
  constructor
  · rintro (h | h | h)
    · exact .inr (.inl h)
    · exact .inl h
    · exact .inr (.inr h)
  · rintro (h | h | h)
    · exact .inr (.inl h)
    · exact .inl h
    · exact .inr (.inr h)
theorem insT_length (d : Nd) (l : List Nd) : (insT d l).length = l.length + 1 := by
  have := placeT_le l d.id
  simp [insT]; omega
theorem ids_insT {d : Nd} {l : List Nd} (hs : Ids l) (hn : getU l d.id = none) : Ids (insT d l) := by
  unfold insT
  have hsp := hs
  rw [← List.take_append_drop (placeT l d.id) l] at hsp
  obtain ⟨s1,s2,s3⟩ := List.pairwise_append.1 hsp
  have hlow : ∀ a ∈ l.take (placeT l d.id),a.id < d.id := by
    intro a ha
    obtain ⟨i,hi,rfl⟩ := List.mem_iff_getElem.1 ha
    rw [List.length_take] at hi
    rw [List.getElem_take]
    have := List.not_of_lt_findIdx (p := fun n : Nd => !decide (n.id < d.id)) (xs := l) (i := i) (by show i < placeT l d.id; omega)
    simpa using this
  have hhigh : ∀ a ∈ l.drop (placeT l d.id),d.id < a.id := by
    intro a ha
    obtain ⟨i,hi,rfl⟩ := List.mem_iff_getElem.1 ha
    rw [List.length_drop] at hi
    rw [List.getElem_drop]
    have hlt : placeT l d.id < l.length := by omega
    have h0 : ¬ l[placeT l d.id].id < d.id := by
      have := List.findIdx_getElem (p := fun n : Nd => !decide (n.id < d.id)) (xs := l) (w := hlt)
      have h := this
      simp only [Bool.not_eq_true',decide_eq_false_iff_not] at h
      exact h
    have h1 := getU_none.1 hn _ (List.getElem_mem hlt)
    by_cases e : i = 0
    · subst e
      simp only [Nat.add_zero]
      omega
    · have := ids_get hs hlt (by omega : placeT l d.id + i < l.length) (by omega)
      omega
  refine List.pairwise_append.2 ⟨s1,List.pairwise_cons.2 ⟨hhigh,s2⟩,fun a ha b hb => ?_⟩
  rcases List.mem_cons.1 hb with rfl | hb
  · exact hlow a ha
  · exact s3 a ha b hb
def Wit.add (W : Wit) (d : Nd) (v : Value) (B Qb : Nat) : Wit :=
  { v := v,nb := fun i => if i = d.id then B else W.nb i,qb := fun i => if i = d.id then Qb else W.qb i,qv := fun i => if i = d.id then .slice none 0 0 else W.qv i,rw := fun i => if i = d.id then [] else W.rw i }
section
variable {base : Nat} {x : Site} {W : Wit} {l : List Nd} {w0 w1 w2 : World}
theorem Pt.insert (h : Pt base x W l w0) (hc : Clo l) (d : Nd) (hnew : getU l d.id = none) (hpar : ∃ p ∈ l,p.id = d.par) {B Qb : Nat} {v' : Value} (hx1 : Ext w0 w1) (hB : w0.heap.size ≤ B) (hQ : d.thr = false → w0.heap.size ≤ Qb)
    (hBb : w1.heap[B]? = some (.cells #[.int .i64 d.id,.int .i64 d.wt,.bool d.thr,.pointer (some ⟨W.nb d.par,0,none⟩),.complex .f64 (Fz d.pass) (Fz d.now),if d.thr = true then .pointer none else .pointer (some ⟨Qb,0,none⟩)] 124 (0,0)))
    (hQb : d.thr = false → Ix base Qb (.slice none 0 0) 60 0 [] w1) (hb0 : base ≤ w0.heap.size)
    (hrow : w2.ownsRow base 119 1 v' (l.length + 1) ((W.ptrs l).take (placeT l d.id) ++ .pointer (some ⟨B,0,none⟩) :: (W.ptrs l).drop (placeT l d.id))) (hg : w1.grownBy w2 W.v.ownBlock)
    (hv : ∀ g,v'.ownBlock = some g → W.v.ownBlock = some g ∨ w1.heap.size ≤ g) :
    Pt base x (W.add d v' B Qb) (insT d l) (w2.setCell ⟨x.b,x.d,none⟩ v') ∧ Fr (Own x W l) (Own x (W.add d v' B Qb) (insT d l)) w0 (w2.setCell ⟨x.b,x.d,none⟩ v') := by
  have hne : ∀ n ∈ l,n.id ≠ d.id := getU_none.1 hnew
  have hdp : ¬ d.par = d.id := fun e => by
    obtain ⟨p,hp,e2⟩ := hpar
    exact hne p hp (e2.trans e)
  have hdp0 : ¬ d.par < 0 := fun e => by
    obtain ⟨p,hp,e2⟩ := hpar
    have := (hc p hp).1
    omega
  have h1 := h.ext hx1
  have hBl := lt_blk hBb
  have keep : ∀ b,b < w1.heap.size → b ≠ x.b → W.v.ownBlock ≠ some b → (w2.setCell ⟨x.b,x.d,none⟩ v').heap[b]? = w1.heap[b]? := fun b hb h1 h2 => by
    rw [Below.heap_setCell _ _ _ _ (by simpa using h1)]
    exact hg.block b hb (Ne.symm h2)
  have hxb : x.At [W.v] w2 := h1.blk.same (hg.block x.b h1.lt (Ne.symm (owns_bne h1.row h1.blk h1.ty.2.2.2)))
  have hsub : ∀ n ∈ l,pnc (W.add d v' B Qb) n = pnc W n := fun n hn => by
    have e1 := hne n hn
    have e2 : ¬ n.par < 0 → ¬ n.par = d.id := fun h0 e => by
      obtain ⟨p,hp,ep,-⟩ := (hc n hn).2.2 (by omega)
      exact hne p hp (ep.trans e)
    simp only [pnc,Wit.grp,Wit.que,Wit.add,e1,if_false]
    by_cases h0 : n.par < 0
    · simp [h0]
    · simp [h0,e2 h0]
  have hown : ∀ k,Own x (W.add d v' B Qb) (insT d l) k → Own x W l k ∨ w0.heap.size ≤ k := by
    rintro k (rfl | hk | ⟨n,hn,hk⟩)
    · exact .inl (.inl rfl)
    · rcases hv k hk with h2 | h2
      · exact .inl (.inr (.inl h2))
      · exact .inr (Nat.le_trans hx1.size h2)
    · rcases mem_insT.1 hn with rfl | hn
      · rcases hk with rfl | ⟨ht,rfl | hk⟩
        · exact .inr (by simp [Wit.add]; exact hB)
        · exact .inr (by simp [Wit.add]; exact hQ ht)
        · simp [Wit.add] at hk; cases hk
      · have e1 := hne n hn
        rcases hk with rfl | ⟨ht,rfl | hk⟩
        · exact .inl (.inr (.inr ⟨n,hn,.inl (by simp [Wit.add,e1])⟩))
        · exact .inl (.inr (.inr ⟨n,hn,.inr ⟨ht,.inl (by simp [Wit.add,e1])⟩⟩))
        · simp only [Wit.add,e1,if_false] at hk
          exact .inl (.inr (.inr ⟨n,hn,.inr ⟨ht,.inr hk⟩⟩))
  have hBx : B ≠ x.b := by have := h.lt; omega
  have hBv : W.v.ownBlock ≠ some B := fun e => by have := (h.row.lt B e).2; omega
  refine ⟨⟨?_,h.ty,h.hx,?_,?_,?_,?_,?_,?_⟩,⟨?_,?_,?_,?_,?_,hown⟩⟩
  · exact hxb.set1 v'
  · have e : (W.add d v' B Qb).ptrs (insT d l) = (W.ptrs l).take (placeT l d.id) ++ .pointer (some ⟨B,0,none⟩) :: (W.ptrs l).drop (placeT l d.id) := by
      have hm : ∀ m : List Nd,(∀ n ∈ m,n ∈ l) → (W.add d v' B Qb).ptrs m = W.ptrs m := fun m hm => by
        unfold Wit.ptrs
        refine List.map_congr_left fun n hn => ?_
        simp [Wit.add,hne n (hm n hn)]
      have e1 := hm (l.take (placeT l d.id)) fun n hn => List.mem_of_mem_take hn
      have e2 := hm (l.drop (placeT l d.id)) fun n hn => List.mem_of_mem_drop hn
      unfold insT
      unfold Wit.ptrs at e1 e2 ⊢
      rw [List.map_append,List.map_cons,e1,e2,List.map_take,List.map_drop]
      simp [Wit.add]
    rw [insT_length,e]
    refine owns_keep hrow fun g hgv => Below.heap_setCell _ _ _ _ fun e => ?_
    have e : g = x.b := e
    subst e
    exact owns_bne hrow hxb h.ty.2.2.2 hgv
  · intro n hn
    rcases mem_insT.1 hn with rfl | hn
    · have eB : (W.add n v' B Qb).nb n.id = B := by simp [Wit.add]
      rw [eB]
      refine ⟨?_,Nat.le_trans hb0 hB⟩
      rw [keep B hBl hBx hBv,hBb]
      simp [pnc,Wit.grp,Wit.que,Wit.add,hdp,hdp0]
    · have eN : (W.add d v' B Qb).nb n.id = W.nb n.id := by simp [Wit.add,hne n hn]
      rw [hsub n hn,eN]
      refine ⟨?_,(h.node n hn).2⟩
      rw [keep _ (h1.nlt hn) (fun e => h1.n_x hn e.symm) (h1.n_v hn)]
      exact (h1.node n hn).1
  · intro n hn ht
    rcases mem_insT.1 hn with rfl | hn
    · have hq := hQb ht
      simp only [Wit.add,if_true,List.length_nil]
      refine ⟨hq.keep (keep _ hq.lt (by have := hQ ht; have := h.lt; omega) fun e => by have := (h.row.lt _ e).2; have := hQ ht; omega) (fun g hg => absurd hg (by simp [Value.ownBlock])),Nat.le_trans hb0 (hQ ht)⟩
    · simp only [Wit.add,hne n hn,if_false]
      obtain ⟨hq,hqb⟩ := h1.idx n hn ht
      exact ⟨hq.keep (keep _ hq.lt (h1.q_x hn ht).symm (h1.q_v hn ht)) fun g hgv => keep g (hq.row.lt g hgv).2 (fun e => h1.r_x hn ht (by rw [hgv,e])) (h1.r_v hn ht hgv),hqb⟩
  · intro a ha b hb e
    rcases mem_insT.1 ha with ea | ka <;> rcases mem_insT.1 hb with eb | kb
    · rw [ea,eb]
    · subst ea
      simp only [Wit.add,hne b kb,if_true,if_false] at e
      have := h.nlt kb; omega
    · subst eb
      simp only [Wit.add,hne a ka,if_true,if_false] at e
      have := h.nlt ka; omega
    · simp only [Wit.add,hne a ka,hne b kb,if_false] at e
      exact h.injN a ka b kb e
  · intro a ha b hb t1 t2 e
    rcases mem_insT.1 ha with ea | ka <;> rcases mem_insT.1 hb with eb | kb
    · rw [ea,eb]
    · subst ea
      simp only [Wit.add,hne b kb,if_true,if_false] at e
      have := (h.idx b kb t2).1.lt; have := hQ t1; omega
    · subst eb
      simp only [Wit.add,hne a ka,if_true,if_false] at e
      have := (h.idx a ka t1).1.lt; have := hQ t2; omega
    · simp only [Wit.add,hne a ka,hne b kb,if_false] at e
      exact h.injQ a ka b kb t1 t2 e
  · intro a ha b hb t1 t2 g e1 e2
    rcases mem_insT.1 ha with ea | ka <;> rcases mem_insT.1 hb with eb | kb
    · rw [ea,eb]
    · subst ea
      simp only [Wit.add,if_true] at e1; cases e1
    · subst eb
      simp only [Wit.add,if_true] at e2; cases e2
    · simp only [Wit.add,hne a ka,hne b kb,if_false] at e1 e2
      exact h.injV a ka b kb t1 t2 g e1 e2
  · exact hg.os.trans hx1.below.os
  · exact hg.tape.trans hx1.below.tape
  · exact hg.output.trans hx1.below.output
  · have := hg.size; have := hx1.size; simp [World.setCell]; omega
  · intro k hk hS
    rw [keep k (Nat.lt_of_lt_of_le hk hx1.size) (fun e => hS (.inl e)) (fun e => hS (.inr (.inl e)))]
    exact hx1.below.block k hk
theorem QOk.insert {W : Wit} {l : List Nd} (hq : QOk W l) (hc : Clo l) (d : Nd) (hd : 0 ≤ d.id) (hnew : getU l d.id = none) (hr : d.rdy = false) (v' : Value) (B Qb : Nat) : QOk (W.add d v' B Qb) (insT d l) := by
  have hne : ∀ n ∈ l,n.id ≠ d.id := getU_none.1 hnew
  intro g hg ht
  rcases mem_insT.1 hg with rfl | hg
  · simp only [Wit.add,if_true]
    refine ⟨List.Pairwise.nil,fun e => ⟨fun h => absurd h List.not_mem_nil,?_⟩⟩
    rintro ⟨m,hm,hp,hr',-⟩
    rcases mem_insT.1 hm with rfl | hm
    · rw [hr] at hr'; cases hr'
    · exfalso
      by_cases h0 : m.par < 0
      · omega
      · obtain ⟨p,hp',ep,-⟩ := (hc m hm).2.2 (by omega)
        exact hne p hp' (ep.trans hp)
  · simp only [Wit.add,hne g hg,if_false]
    refine ⟨(hq g hg ht).1,fun e => ?_⟩
    rw [(hq g hg ht).2]
    constructor
    · rintro ⟨m,hm,h⟩; exact ⟨m,mem_insT.2 (.inr hm),h⟩
    · rintro ⟨m,hm,hp,hr',e⟩
      rcases mem_insT.1 hm with rfl | hm
      · rw [hr] at hr'; cases hr'
      · exact ⟨m,hm,hp,hr',e⟩
end
end Go.Proofs.YtocicffmajbecaaGreatDoor
namespace Go.Proofs.YtocicffmajbecaaGreatDoor
open Go.RowKit
set_option linter.unusedSimpArgs false
def grpU (l : List Nd) (id : Int) : Bool := match getU l id with
  | some p => !p.thr
  | none => false
def addC (l : List Nd) (dn : Nat) (parent id wt : Int) (thr : Bool) : Nat :=
  if isW wt = false ∨ id ≤ 0 then 10 else if grpU l parent = false then 13 else if hasU l id = true then 20 else if thr = false ∧ 4 ≤ dn then 12 else if 60 ≤ l.length then 14 else 0
def newN (l : List Nd) (parent id wt : Int) (thr : Bool) : Nd := ⟨id,parent,wt,nowU l parent,thr,false,0⟩
section
variable {base : Nat} {x : Site} {W : Wit} {l : List Nd} {w : World}
set_option maxRecDepth 100000 in
set_option maxHeartbeats 4000000 in
theorem addP_err (h : TOk base x W l w) (dn : Nat) (parent id wt : Int) (thr : Bool) (hd : dn ≤ 900) (hu : Up l dn parent) {k : Nat} (hk : addC l dn parent id wt thr = k) (hk0 : k ≠ 0) :
    Calls Tryz.prog 78 #[.pointer (some ⟨x.b,x.d,none⟩),.int .i64 parent,.int .i64 id,.int .i64 wt,.bool thr] w (Yields w (errV k)) := by
  have hl1 : l.length ≤ 1000 := by have := h.len; omega
  have HFP : Hid (∀ w',Ext w w' → Calls Tryz.prog 79 #[.pointer (some ⟨x.b,x.d,none⟩),.int .i64 parent] w' (Yields w' (nodP W l parent))) := fun w' hx => find_at (h.pt.ext hx) h.ids hl1 _
  have HFI : Hid (∀ w',Ext w w' → Calls Tryz.prog 79 #[.pointer (some ⟨x.b,x.d,none⟩),.int .i64 id] w' (Yields w' (nodP W l id))) := fun w' hx => find_at (h.pt.ext hx) h.ids hl1 _
  have HDP : Hid (∀ w',Ext w w' → Calls Tryz.prog 109 #[.pointer (some ⟨x.b,x.d,none⟩),.int .i64 parent] w' (Yields w' (.int .i64 dn))) := fun w' hx => deep_any (h.pt.ext hx) h.ids h.clo h.len _ dn (by omega) hu
  rw [errV_pos hk0]
  unfold addC at hk
  by_cases c1 : isW wt = false ∨ id ≤ 0
  · rw [if_pos c1] at hk
    subst hk
    generalize nodP W l parent = P1 at *
    clear HFI HDP h hl1
    cases hw : isW wt
    · have HW := hid hw
      clear hw c1
      go_enter Tryz.func78,Tryz.ntmps78
      go_wp2_with (first | (go_at_call 79; (with_reducible refine (HFP.out _ ext_by).yields ?_); intro q1) | (go_at_call 77; (with_reducible refine (isW_to HW.out _).yields ?_); intro q2))
      all_goals first | (exfalso; omega) | (go_returns; exact ⟨rfl,ext_by⟩)
    · have HW := hid hw
      have hi : id ≤ 0 := by rcases c1 with e | e; · rw [hw] at e; cases e
                             · exact e
      clear hw c1
      go_enter Tryz.func78,Tryz.ntmps78
      go_wp2_with (first | (go_at_call 79; (with_reducible refine (HFP.out _ ext_by).yields ?_); intro q1) | (go_at_call 77; (with_reducible refine (isW_to HW.out _).yields ?_); intro q2))
      all_goals first | (exfalso; omega) | (go_returns; exact ⟨rfl,ext_by⟩)
  · rw [if_neg c1] at hk
    have hw : isW wt = true := by cases e : isW wt; · exact absurd (.inl e) c1
                                  · rfl
    have hi : ¬ id ≤ 0 := fun e => c1 (.inr e)
    have HW := hid hw
    clear hw c1
    by_cases c2 : grpU l parent = false
    · rw [if_pos c2] at hk
      subst hk
      cases hg : getU l parent with
      | none =>
        have HP : Hid (nodP W l parent = .pointer none) := if_neg (by simp [hasU,hg])
        rw [HP.out] at HFP
        clear HFI HDP h hl1 hg c2 HP
        go_enter Tryz.func78,Tryz.ntmps78
        go_wp2_with (first | (go_at_call 79; (with_reducible refine (HFP.out _ ext_by).yields ?_); intro q1) | (go_at_call 77; (with_reducible refine (isW_to HW.out _).yields ?_); intro q2))
        all_goals first | (exfalso; omega) | (go_returns; exact ⟨rfl,ext_by⟩)
      | some p =>
        obtain ⟨hp,rfl⟩ := getU_mem hg
        have HP : Hid (nodP W l p.id = .pointer (some ⟨W.nb p.id,0,none⟩)) := if_pos (hasU_iff.2 ⟨p,hp,rfl⟩)
        rw [HP.out] at HFP
        have c2' : p.thr = true := by simpa [grpU,hg] using c2
        have m2 := (h.pt.cells hp).2.2.1
        rw [c2'] at m2
        have hpl := h.pt.nlt hp
        clear HFI HDP h hl1 hg c2 HP hp c2'
        go_enter Tryz.func78,Tryz.ntmps78
        go_wp2_with (first | (go_at_call 79; (with_reducible refine (HFP.out _ ext_by).yields ?_); intro q1) | (go_at_call 77; (with_reducible refine (isW_to HW.out _).yields ?_); intro q2))
        all_goals first | (exfalso; omega) | (go_returns; exact ⟨rfl,ext_by⟩)
    · rw [if_neg c2] at hk
      obtain ⟨p,hg⟩ : ∃ p,getU l parent = some p := by
        cases hg : getU l parent with
        | none => exact absurd (by simp [grpU,hg]) c2
        | some p => exact ⟨p,rfl⟩
      obtain ⟨hp,rfl⟩ := getU_mem hg
      have HP : Hid (nodP W l p.id = .pointer (some ⟨W.nb p.id,0,none⟩)) := if_pos (hasU_iff.2 ⟨p,hp,rfl⟩)
      rw [HP.out] at HFP
      have c2' : p.thr = false := by simpa [grpU,hg] using c2
      have m2 := (h.pt.cells hp).2.2.1
      rw [c2'] at m2
      have hpl := h.pt.nlt hp
      by_cases c3 : hasU l id = true
      · rw [if_pos c3] at hk
        subst hk
        have HI : Hid (nodP W l id = .pointer (some ⟨W.nb id,0,none⟩)) := if_pos c3
        rw [HI.out] at HFI
        clear HDP h hl1 hg c2 HP hp c2' HI c3
        go_enter Tryz.func78,Tryz.ntmps78
        go_wp2_with (first | (go_at_call 79; (with_reducible refine (HFP.out _ ext_by).yields ?_); intro q1) | (go_at_call 79; (with_reducible refine (HFI.out _ ext_by).yields ?_); intro q3) | (go_at_call 77; (with_reducible refine (isW_to HW.out _).yields ?_); intro q2))
        all_goals first | (exfalso; omega) | (go_returns; exact ⟨rfl,ext_by⟩)
      · rw [if_neg c3] at hk
        have HI : Hid (nodP W l id = .pointer none) := if_neg c3
        rw [HI.out] at HFI
        have cx := h.pt.cell
        have hxl := h.pt.lt
        obtain ⟨pp,cap,hv,-,-,-,-⟩ := h.pt.shape
        rw [hv] at cx
        by_cases c4 : thr = false ∧ 4 ≤ dn
        · rw [if_pos c4] at hk
          subst hk
          obtain ⟨rfl,h4⟩ := c4
          have h4' : (4 : Int) ≤ (dn : Int) := by omega
          clear h hl1 hg c2 HP hp c2' HI c3 cx hv
          go_enter Tryz.func78,Tryz.ntmps78
          go_wp2_with (first | (go_at_call 79; (with_reducible refine (HFP.out _ ext_by).yields ?_); intro q1) | (go_at_call 79; (with_reducible refine (HFI.out _ ext_by).yields ?_); intro q3) | (go_at_call 77; (with_reducible refine (isW_to HW.out _).yields ?_); intro q2) | (go_at_call 109; (with_reducible refine (HDP.out _ ext_by).yields ?_); intro q4))
          all_goals first | (exfalso; omega) | (go_returns; exact ⟨rfl,ext_by⟩)
        · rw [if_neg c4] at hk
          by_cases c5 : 60 ≤ l.length
          · rw [if_pos c5] at hk
            subst hk
            have c5' : (60 : Int) ≤ (l.length : Int) := by omega
            have hl60 : (l.length : Int) ≤ 60 := by have := h.len; omega
            cases thr with
            | true =>
              clear h hl1 hg c2 HP hp c2' HI c3 hv HDP c4
              go_enter Tryz.func78,Tryz.ntmps78
              go_wp2_with (first | (go_at_call 79; (with_reducible refine (HFP.out _ ext_by).yields ?_); intro q1) | (go_at_call 79; (with_reducible refine (HFI.out _ ext_by).yields ?_); intro q3) | (go_at_call 77; (with_reducible refine (isW_to HW.out _).yields ?_); intro q2))
              all_goals first | (exfalso; omega) | (go_returns; exact ⟨rfl,ext_by⟩)
            | false =>
              have h4' : ¬ (4 : Int) ≤ (dn : Int) := fun e => c4 ⟨rfl,by omega⟩
              clear h hl1 hg c2 HP hp c2' HI c3 hv c4
              go_enter Tryz.func78,Tryz.ntmps78
              go_wp2_with (first | (go_at_call 79; (with_reducible refine (HFP.out _ ext_by).yields ?_); intro q1) | (go_at_call 79; (with_reducible refine (HFI.out _ ext_by).yields ?_); intro q3) | (go_at_call 77; (with_reducible refine (isW_to HW.out _).yields ?_); intro q2) | (go_at_call 109; (with_reducible refine (HDP.out _ ext_by).yields ?_); intro q4))
              all_goals first | (exfalso; omega) | (go_returns; exact ⟨rfl,ext_by⟩)
          · rw [if_neg c5] at hk
            exact absurd hk.symm hk0
end
end Go.Proofs.YtocicffmajbecaaGreatDoor
namespace Go.Proofs.YtocicffmajbecaaGreatDoor
open Go.RowKit
set_option linter.unusedSimpArgs false
section
variable {base : Nat} {x : Site} {W : Wit} {l : List Nd} {w : World}
set_option maxRecDepth 100000 in
set_option maxHeartbeats 4000000 in
theorem addP_thr (h : TOk base x W l w) (hb0 : base ≤ w.heap.size) (dn : Nat) (parent id wt : Int) (hk : addC l dn parent id wt true = 0) :
    Calls Tryz.prog 78 #[.pointer (some ⟨x.b,x.d,none⟩),.int .i64 parent,.int .i64 id,.int .i64 wt,.bool true] w fun e w' => e = .returned .nilIface ∧ ∃ W',Pt base x W' (insT (newN l parent id wt true) l) w' ∧ QOk W' (insT (newN l parent id wt true) l) ∧ Fr (Own x W l) (Own x W' (insT (newN l parent id wt true) l)) w w' := by
  have hl1 : l.length ≤ 1000 := by have := h.len; omega
  unfold addC at hk
  by_cases c1 : isW wt = false ∨ id ≤ 0
  · rw [if_pos c1] at hk; cases hk
  rw [if_neg c1] at hk
  by_cases c2 : grpU l parent = false
  · rw [if_pos c2] at hk; cases hk
  rw [if_neg c2] at hk
  by_cases c3 : hasU l id = true
  · rw [if_pos c3] at hk; cases hk
  rw [if_neg c3,if_neg (by simp)] at hk
  by_cases c5 : 60 ≤ l.length
  · rw [if_pos c5] at hk; cases hk
  have hw : isW wt = true := by cases e : isW wt; · exact absurd (.inl e) c1
                                · rfl
  have hi : ¬ id ≤ 0 := fun e => c1 (.inr e)
  have HW := hid hw
  obtain ⟨p,hg⟩ : ∃ p,getU l parent = some p := by
    cases hg : getU l parent with
    | none => exact absurd (by simp [grpU,hg]) c2
    | some p => exact ⟨p,rfl⟩
  obtain ⟨hp,rfl⟩ := getU_mem hg
  have hnow : Hid (nowU l p.id = p.now) := nowU_of h.ids hp
  have hnew : getU l id = none := by
    cases e : getU l id with
    | none => rfl
    | some n => exact absurd (by simp [hasU,e]) c3
  have c2' : p.thr = false := by simpa [grpU,hg] using c2
  have HFP : Hid (∀ w',Ext w w' → Calls Tryz.prog 79 #[.pointer (some ⟨x.b,x.d,none⟩),.int .i64 p.id] w' (Yields w' (.pointer (some ⟨W.nb p.id,0,none⟩)))) := fun w' hx => find_yes (h.pt.ext hx) h.ids hl1 hp
  have HFI : Hid (∀ w',Ext w w' → Calls Tryz.prog 79 #[.pointer (some ⟨x.b,x.d,none⟩),.int .i64 id] w' (Yields w' (.pointer none))) := fun w' hx => find_nil (h.pt.ext hx) h.ids hl1 hnew
  have HPL : Hid (∀ w',Ext w w' → Calls Tryz.prog 88 #[.pointer (some ⟨x.b,x.d,none⟩),.int .i64 id] w' (Yields w' (.tuple #[.int .i64 (placeT l id),.bool (hasU l id)]))) := fun w' hx => place_at (h.pt.ext hx) h.ids hl1 _
  obtain ⟨-,-,m2,-,m4,-⟩ := h.pt.cells hp
  rw [c2'] at m2
  have hpl := h.pt.nlt hp
  have cx := h.pt.cell
  have hxl := h.pt.lt
  obtain ⟨pp,cap,hv,hcap,hcm,hp0,hp1⟩ := h.pt.shape
  obtain ⟨ad,rfl⟩ : ∃ a,pp = some a := by
    cases pp with
    | none => have e := (hp0 rfl).1; rw [e] at hp; cases hp
    | some a => exact ⟨a,rfl⟩
  obtain ⟨g,rfl,hgb,hgl⟩ := hp1 ad rfl
  have HV := hid hv
  rw [hv] at cx
  have c5' : ¬ (60 : Int) ≤ (l.length : Int) := by omega
  have hl60 : (l.length : Int) ≤ 60 := by have := h.len; omega
  have H := hid h
  have HP := hid hp
  have HNEW := hid hnew
  have HI := hid hi
  unfold maxLen at hcm
  clear h hl1 hg c2 hp c2' c3 hv c1 hw hp0 hp1 hk hnew c5
  go_enter Tryz.func78,Tryz.ntmps78
  go_wp2_with (first | (go_at_call 79; (with_reducible refine (HFP.out _ ext_by).yields ?_); intro q1) | (go_at_call 79; (with_reducible refine (HFI.out _ ext_by).yields ?_); intro q3) | (go_at_call 77; (with_reducible refine (isW_to HW.out _).yields ?_); intro q2))
  generalize hqq : (q1.then q2).then q3 = qq at *
  have hZx : Ext w ((more w qq).alloc (.cells #[.int .i64 id,.int .i64 wt,.bool true,.pointer (some ⟨W.nb p.id,0,none⟩),.complex .f64 (Fz p.now) 0,.pointer none] 124 (0,0))) := Ext.alloc (ext_more w qq) _
  have hZb := heap_alloc_new (more w qq) (.cells #[.int .i64 id,.int .i64 wt,.bool true,.pointer (some ⟨W.nb p.id,0,none⟩),.complex .f64 (Fz p.now) 0,.pointer none] 124 (0,0))
  rw [more_size] at hZb
  have hB : w.heap.size ≤ w.heap.size + qq.os.size := by omega
  generalize (more w qq).alloc (.cells #[.int .i64 id,.int .i64 wt,.bool true,.pointer (some ⟨W.nb p.id,0,none⟩),.complex .f64 (Fz p.now) 0,.pointer none] 124 (0,0)) = Z at *
  generalize w.heap.size + qq.os.size = B at *
  (with_reducible refine (HPL.out _ hZx).mono ?_)
  rintro e w2 ⟨rfl,hx2⟩
  have hb2 := block_ext' hx2 hZb
  have hxw2 := hZx.trans hx2
  have cx2 := hxw2.cell cx
  have fx2 := (H.out.pt.ext hxw2).xfree
  have hxl2 : x.b < w2.heap.size := Nat.lt_of_lt_of_le hxl hxw2.size
  clear hZx hZb hx2 m2 m4 hpl cx hxl hqq
  generalize hasU l id = hsu at *
  go_wp2_with fail
  have hnb := heap_alloc_new w2 (.cells #[.pointer (some ⟨B,0,none⟩)] 119 (0,0))
  have hx3 : Ext w (w2.alloc (.cells #[.pointer (some ⟨B,0,none⟩)] 119 (0,0))) := Ext.alloc hxw2 _
  have hb3 := block_ext' (Ext.alloc (Ext.refl w2) (.cells #[.pointer (some ⟨B,0,none⟩)] 119 (0,0))) hb2
  have hgne : w2.heap.size ≠ g := by have := hxw2.size; omega
  generalize w2.alloc (.cells #[.pointer (some ⟨B,0,none⟩)] 119 (0,0)) = w3 at *
  have hrow := (H.out.pt.ext hx3).row
  rw [HV.out] at hrow
  have HPT3 := hid (H.out.pt.ext hx3)
  (with_reducible refine (insert_any hrow (placeT_le l id) (by omega) hnb hgne (ptr_one _) (fun v hv => ?_) (Nat.le_trans hb0 hx3.size)).mono ?_)
  · unfold Wit.ptrs at hv
    obtain ⟨n,-,rfl⟩ := List.mem_map.1 hv
    rfl
  rintro e w4 ⟨g',c',rfl,hrow4,hg4,hloc⟩
  have cx4 : w4.cell? ⟨x.b,x.d,none⟩ = some (.slice (some ⟨g,0,none⟩) l.length cap) := by
    have : w4.heap[x.b]? = w3.heap[x.b]? := hg4.block x.b HPT3.out.lt (by
      have := owns_bne hrow HPT3.out.blk HPT3.out.ty.2.2.2
      exact Ne.symm this)
    exact (HPT3.out.blk.same this).cell1.trans (by rw [HV.out])
  have fx4 : w4.frozen? ⟨x.b,x.d,none⟩ = false := by
    have : w4.heap[x.b]? = w3.heap[x.b]? := hg4.block x.b HPT3.out.lt (by
      have := owns_bne hrow HPT3.out.blk HPT3.out.ty.2.2.2
      exact Ne.symm this)
    exact (HPT3.out.blk.same this).free _
  have HFIN : Hid (∃ W',Pt base x W' (insT (newN l p.id id wt true) l) (w4.setCell ⟨x.b,x.d,none⟩ (.slice (some ⟨g',0,none⟩) (l.length + 1) c')) ∧ QOk W' (insT (newN l p.id id wt true) l) ∧ Fr (Own x W l) (Own x W' (insT (newN l p.id id wt true) l)) w (w4.setCell ⟨x.b,x.d,none⟩ (.slice (some ⟨g',0,none⟩) (l.length + 1) c'))) := by
    obtain ⟨r1,r2⟩ := H.out.pt.insert H.out.clo (newN l p.id id wt true) HNEW.out ⟨p,HP.out,rfl⟩ (B := B) (Qb := 0) hx3 hB (fun h => by cases h) (by simpa [newN,hnow.out,zero_Fz] using hb3) (fun h => by cases h) hb0 hrow4 (by rw [HV.out]; exact hg4) (fun k hk => by
      have e : g' = k := by simpa [Value.ownBlock] using hk
      subst e
      rcases hloc with e | e
      · left; rw [HV.out,e]; rfl
      · exact .inr e)
    exact ⟨_,r1,H.out.qok.insert H.out.clo (newN l p.id id wt true) (by show (0 : Int) ≤ id; have := HI.out; omega) HNEW.out rfl _ _ _,r2⟩
  clear hrow4 hg4 hloc hrow hnb hb3 hb2 cx2 fx2
  go_wp2
  go_returns
  exact ⟨rfl,HFIN.out⟩
set_option maxRecDepth 100000 in
set_option maxHeartbeats 4000000 in
theorem addP_grp (h : TOk base x W l w) (hb0 : base ≤ w.heap.size) (dn : Nat) (parent id wt : Int) (hd : dn ≤ 900) (hu : Up l dn parent) (hk : addC l dn parent id wt false = 0) :
    Calls Tryz.prog 78 #[.pointer (some ⟨x.b,x.d,none⟩),.int .i64 parent,.int .i64 id,.int .i64 wt,.bool false] w fun e w' => e = .returned .nilIface ∧ ∃ W',Pt base x W' (insT (newN l parent id wt false) l) w' ∧ QOk W' (insT (newN l parent id wt false) l) ∧ Fr (Own x W l) (Own x W' (insT (newN l parent id wt false) l)) w w' := by
  have hl1 : l.length ≤ 1000 := by have := h.len; omega
  unfold addC at hk
  by_cases c1 : isW wt = false ∨ id ≤ 0
  · rw [if_pos c1] at hk; cases hk
  rw [if_neg c1] at hk
  by_cases c2 : grpU l parent = false
  · rw [if_pos c2] at hk; cases hk
  rw [if_neg c2] at hk
  by_cases c3 : hasU l id = true
  · rw [if_pos c3] at hk; cases hk
  rw [if_neg c3] at hk
  by_cases c4 : false = false ∧ 4 ≤ dn
  · rw [if_pos c4] at hk; cases hk
  rw [if_neg c4] at hk
  have c4' : ¬ (4 : Int) ≤ (dn : Int) := fun e => c4 ⟨rfl,by omega⟩
  by_cases c5 : 60 ≤ l.length
  · rw [if_pos c5] at hk; cases hk
  have hw : isW wt = true := by cases e : isW wt; · exact absurd (.inl e) c1
                                · rfl
  have hi : ¬ id ≤ 0 := fun e => c1 (.inr e)
  have HW := hid hw
  obtain ⟨p,hg⟩ : ∃ p,getU l parent = some p := by
    cases hg : getU l parent with
    | none => exact absurd (by simp [grpU,hg]) c2
    | some p => exact ⟨p,rfl⟩
  obtain ⟨hp,rfl⟩ := getU_mem hg
  have hnow : Hid (nowU l p.id = p.now) := nowU_of h.ids hp
  have hnew : getU l id = none := by
    cases e : getU l id with
    | none => rfl
    | some n => exact absurd (by simp [hasU,e]) c3
  have c2' : p.thr = false := by simpa [grpU,hg] using c2
  have HFP : Hid (∀ w',Ext w w' → Calls Tryz.prog 79 #[.pointer (some ⟨x.b,x.d,none⟩),.int .i64 p.id] w' (Yields w' (.pointer (some ⟨W.nb p.id,0,none⟩)))) := fun w' hx => find_yes (h.pt.ext hx) h.ids hl1 hp
  have HFI : Hid (∀ w',Ext w w' → Calls Tryz.prog 79 #[.pointer (some ⟨x.b,x.d,none⟩),.int .i64 id] w' (Yields w' (.pointer none))) := fun w' hx => find_nil (h.pt.ext hx) h.ids hl1 hnew
  have HDP : Hid (∀ w',Ext w w' → Calls Tryz.prog 109 #[.pointer (some ⟨x.b,x.d,none⟩),.int .i64 p.id] w' (Yields w' (.int .i64 dn))) := fun w' hx => deep_any (h.pt.ext hx) h.ids h.clo h.len _ dn (by omega) hu
  have HPL : Hid (∀ w',Ext w w' → Calls Tryz.prog 88 #[.pointer (some ⟨x.b,x.d,none⟩),.int .i64 id] w' (Yields w' (.tuple #[.int .i64 (placeT l id),.bool (hasU l id)]))) := fun w' hx => place_at (h.pt.ext hx) h.ids hl1 _
  obtain ⟨-,-,m2,-,m4,-⟩ := h.pt.cells hp
  rw [c2'] at m2
  have hpl := h.pt.nlt hp
  have cx := h.pt.cell
  have hxl := h.pt.lt
  obtain ⟨pp,cap,hv,hcap,hcm,hp0,hp1⟩ := h.pt.shape
  obtain ⟨ad,rfl⟩ : ∃ a,pp = some a := by
    cases pp with
    | none => have e := (hp0 rfl).1; rw [e] at hp; cases hp
    | some a => exact ⟨a,rfl⟩
  obtain ⟨g,rfl,hgb,hgl⟩ := hp1 ad rfl
  have HV := hid hv
  rw [hv] at cx
  have c5' : ¬ (60 : Int) ≤ (l.length : Int) := by omega
  have hl60 : (l.length : Int) ≤ 60 := by have := h.len; omega
  have H := hid h
  have HP := hid hp
  have HNEW := hid hnew
  have HI := hid hi
  unfold maxLen at hcm
  clear h hl1 hg c2 hp c2' c3 hv c1 hw hp0 hp1 hk hnew c5 c4 hu
  go_enter Tryz.func78,Tryz.ntmps78
  go_wp2_with (first | (go_at_call 79; (with_reducible refine (HFP.out _ ext_by).yields ?_); intro q1) | (go_at_call 79; (with_reducible refine (HFI.out _ ext_by).yields ?_); intro q3) | (go_at_call 77; (with_reducible refine (isW_to HW.out _).yields ?_); intro q2) | (go_at_call 109; (with_reducible refine (HDP.out _ ext_by).yields ?_); intro q4))
  generalize hqq : ((q1.then q2).then q3).then q4 = qq at *
  have hZx : Ext w ((more w qq).alloc (.cells #[.int .i64 id,.int .i64 wt,.bool false,.pointer (some ⟨W.nb p.id,0,none⟩),.complex .f64 (Fz p.now) 0,.pointer none] 124 (0,0))) := Ext.alloc (ext_more w qq) _
  have hZb := heap_alloc_new (more w qq) (.cells #[.int .i64 id,.int .i64 wt,.bool false,.pointer (some ⟨W.nb p.id,0,none⟩),.complex .f64 (Fz p.now) 0,.pointer none] 124 (0,0))
  rw [more_size] at hZb
  have hB : w.heap.size ≤ w.heap.size + qq.os.size := by omega
  generalize (more w qq).alloc (.cells #[.int .i64 id,.int .i64 wt,.bool false,.pointer (some ⟨W.nb p.id,0,none⟩),.complex .f64 (Fz p.now) 0,.pointer none] 124 (0,0)) = Z at *
  generalize w.heap.size + qq.os.size = B at *
  (with_reducible refine (new_any 60 Z).mono ?_)
  rintro e w1 ⟨rfl,hI1,hx1⟩
  have hB1 := block_ext' hx1 hZb
  have hBl := lt_blk hZb
  have hQb : w.heap.size ≤ Z.heap.size := hZx.size
  have hxw1 := hZx.trans hx1
  have kB : w1.cell? ⟨B,5,none⟩ = some (.pointer none) := by simp [World.cell?,hB1]
  have fB : w1.frozen? ⟨B,5,none⟩ = false := by simp [World.frozen?,hB1]
  have hIQ : Hid (Ix base Z.heap.size (.slice none 0 0) 60 0 [] (w1.setCell ⟨B,5,none⟩ (.pointer (some ⟨Z.heap.size,0,none⟩)))) := by
    have hq : Ix base Z.heap.size (.slice none 0 0) 60 0 [] w1 := ⟨hI1.blk,Row.nil _ _⟩
    exact hq.keep (Below.heap_setCell _ _ _ _ (by show Z.heap.size ≠ B; omega)) fun g hg => by cases hg
  have hB2 : (w1.setCell ⟨B,5,none⟩ (.pointer (some ⟨Z.heap.size,0,none⟩))).heap[B]? = some (.cells #[.int .i64 id,.int .i64 wt,.bool false,.pointer (some ⟨W.nb p.id,0,none⟩),.complex .f64 (Fz p.now) 0,.pointer (some ⟨Z.heap.size,0,none⟩)] 124 (0,0)) := by
    simpa using set_same hB1 5 (.pointer (some ⟨Z.heap.size,0,none⟩))
  have hxs2 : Ext w (w1.setCell ⟨B,5,none⟩ (.pointer (some ⟨Z.heap.size,0,none⟩))) := hxw1.setCell (by exact hB) _
  have HB2 := hid hB2
  clear hI1 hx1 hZb hB1 hB2
  go_wp2_with fail
  generalize w1.setCell ⟨B,5,none⟩ (.pointer (some ⟨Z.heap.size,0,none⟩)) = Z2 at *
  (with_reducible refine (HPL.out _ hxs2).mono ?_)
  rintro e w2 ⟨rfl,hx2⟩
  have hb2 := block_ext' hx2 HB2.out
  have HIQ := hid (hIQ.out.ext hx2)
  have hxw2 := hxs2.trans hx2
  have cx2 := hxw2.cell cx
  have fx2 := (H.out.pt.ext hxw2).xfree
  have hxl2 : x.b < w2.heap.size := Nat.lt_of_lt_of_le hxl hxw2.size
  clear hZx hx2 m2 m4 hpl cx hxl hqq kB fB hIQ hxs2 HB2
  generalize hasU l id = hsu at *
  go_wp2_with fail
  have hnb := heap_alloc_new w2 (.cells #[.pointer (some ⟨B,0,none⟩)] 119 (0,0))
  have hx3 : Ext w (w2.alloc (.cells #[.pointer (some ⟨B,0,none⟩)] 119 (0,0))) := Ext.alloc hxw2 _
  have HIQ3 := hid (HIQ.out.ext (Ext.alloc (Ext.refl w2) (.cells #[.pointer (some ⟨B,0,none⟩)] 119 (0,0))))
  have hb3 := block_ext' (Ext.alloc (Ext.refl w2) (.cells #[.pointer (some ⟨B,0,none⟩)] 119 (0,0))) hb2
  have hgne : w2.heap.size ≠ g := by have := hxw2.size; omega
  generalize w2.alloc (.cells #[.pointer (some ⟨B,0,none⟩)] 119 (0,0)) = w3 at *
  have hrow := (H.out.pt.ext hx3).row
  rw [HV.out] at hrow
  have HPT3 := hid (H.out.pt.ext hx3)
  (with_reducible refine (insert_any hrow (placeT_le l id) (by omega) hnb hgne (ptr_one _) (fun v hv => ?_) (Nat.le_trans hb0 hx3.size)).mono ?_)
  · unfold Wit.ptrs at hv
    obtain ⟨n,-,rfl⟩ := List.mem_map.1 hv
    rfl
  rintro e w4 ⟨g',c',rfl,hrow4,hg4,hloc⟩
  have cx4 : w4.cell? ⟨x.b,x.d,none⟩ = some (.slice (some ⟨g,0,none⟩) l.length cap) := by
    have : w4.heap[x.b]? = w3.heap[x.b]? := hg4.block x.b HPT3.out.lt (by
      have := owns_bne hrow HPT3.out.blk HPT3.out.ty.2.2.2
      exact Ne.symm this)
    exact (HPT3.out.blk.same this).cell1.trans (by rw [HV.out])
  have fx4 : w4.frozen? ⟨x.b,x.d,none⟩ = false := by
    have : w4.heap[x.b]? = w3.heap[x.b]? := hg4.block x.b HPT3.out.lt (by
      have := owns_bne hrow HPT3.out.blk HPT3.out.ty.2.2.2
      exact Ne.symm this)
    exact (HPT3.out.blk.same this).free _
  have HFIN : Hid (∃ W',Pt base x W' (insT (newN l p.id id wt false) l) (w4.setCell ⟨x.b,x.d,none⟩ (.slice (some ⟨g',0,none⟩) (l.length + 1) c')) ∧ QOk W' (insT (newN l p.id id wt false) l) ∧ Fr (Own x W l) (Own x W' (insT (newN l p.id id wt false) l)) w (w4.setCell ⟨x.b,x.d,none⟩ (.slice (some ⟨g',0,none⟩) (l.length + 1) c'))) := by
    obtain ⟨r1,r2⟩ := H.out.pt.insert H.out.clo (newN l p.id id wt false) HNEW.out ⟨p,HP.out,rfl⟩ (B := B) (Qb := Z.heap.size) hx3 hB (fun _ => hQb) (by simpa [newN,hnow.out,zero_Fz] using hb3) (fun _ => HIQ3.out) hb0 hrow4 (by rw [HV.out]; exact hg4) (fun k hk => by
      have e : g' = k := by simpa [Value.ownBlock] using hk
      subst e
      rcases hloc with e | e
      · left; rw [HV.out,e]; rfl
      · exact .inr e)
    exact ⟨_,r1,H.out.qok.insert H.out.clo (newN l p.id id wt false) (by show (0 : Int) ≤ id; have := HI.out; omega) HNEW.out rfl _ _ _,r2⟩
  clear hrow4 hg4 hloc hrow hnb hb3 hb2 cx2 fx2
  go_wp2
  go_returns
  exact ⟨rfl,HFIN.out⟩
end
end Go.Proofs.YtocicffmajbecaaGreatDoor
namespace Go.Proofs.YtocicffmajbecaaGreatDoor
open Go.RowKit
set_option linter.unusedSimpArgs false
def movF (p : Int) (n : Nd) : Nd := { n with pass := p }
theorem movF_same (p : Int) : ∀ n,(movF p n).id = n.id ∧ (movF p n).par = n.par ∧ (movF p n).thr = n.thr := fun _ => ⟨rfl,rfl,rfl⟩
section
variable {base : Nat} {x : Site} {W : Wit} {l : List Nd} {w : World}
set_option maxRecDepth 100000 in
set_option maxHeartbeats 2000000 in
theorem readyP_err (h : TOk base x W l w) (id : Int) (r : Bool) (hk : ∀ n,getU l id = some n → n.thr = false) :
    Calls Tryz.prog 43 #[.pointer (some ⟨x.b,x.d,none⟩),.int .i64 id,.bool r] w (Yields w (errV 13)) := by
  have hl1 : l.length ≤ 1000 := by have := h.len; omega
  have HFP : Hid (∀ w',Ext w w' → Calls Tryz.prog 79 #[.pointer (some ⟨x.b,x.d,none⟩),.int .i64 id] w' (Yields w' (nodP W l id))) := fun w' hx => find_at (h.pt.ext hx) h.ids hl1 _
  rw [errV_pos (by decide)]
  cases hg : getU l id with
  | none =>
    have HP : Hid (nodP W l id = .pointer none) := if_neg (by simp [hasU,hg])
    rw [HP.out] at HFP
    clear h hl1 hk hg HP
    go_enter Tryz.func43,Tryz.ntmps43
    go_wp2_with (go_at_call 79; (with_reducible refine (HFP.out _ ext_by).yields ?_); intro q1)
    go_returns
    exact ⟨rfl,ext_by⟩
  | some n =>
    have ht := hk n hg
    obtain ⟨hn,rfl⟩ := getU_mem hg
    have HP : Hid (nodP W l n.id = .pointer (some ⟨W.nb n.id,0,none⟩)) := if_pos (hasU_iff.2 ⟨n,hn,rfl⟩)
    rw [HP.out] at HFP
    have m2 := (h.pt.cells hn).2.2.1
    rw [ht] at m2
    have hpl := h.pt.nlt hn
    clear h hl1 hk hg HP hn ht
    go_enter Tryz.func43,Tryz.ntmps43
    go_wp2_with (go_at_call 79; (with_reducible refine (HFP.out _ ext_by).yields ?_); intro q1)
    go_returns
    exact ⟨rfl,ext_by⟩
set_option maxRecDepth 100000 in
set_option maxHeartbeats 2000000 in
theorem readyP_any (h : TOk base x W l w) {n : Nd} (hn : n ∈ l) (ht : n.thr = true) (r : Bool) (f : Nat) (hch : Chain l f n.id) :
    Calls Tryz.prog 43 #[.pointer (some ⟨x.b,x.d,none⟩),.int .i64 n.id,.bool r] w fun e w' => e = .returned .nilIface ∧ PGo base x W l (if r = true then wakeU f l n.id else restU f l n.id) w w' := by
  have hl1 : l.length ≤ 1000 := by have := h.len; omega
  have HFP : Hid (∀ w',Ext w w' → Calls Tryz.prog 79 #[.pointer (some ⟨x.b,x.d,none⟩),.int .i64 n.id] w' (Yields w' (.pointer (some ⟨W.nb n.id,0,none⟩)))) := fun w' hx => find_yes (h.pt.ext hx) h.ids hl1 hn
  have m2 := (h.pt.cells hn).2.2.1
  rw [ht] at m2
  have hpl := h.pt.nlt hn
  have HG : Hid (∀ w' w'',Ext w w' → PGo base x W l (if r = true then wakeU f l n.id else restU f l n.id) w' w'' → PGo base x W l (if r = true then wakeU f l n.id else restU f l n.id) w w'') := fun w' w'' hx hp => PGo.trans (.of_ext hx) rfl rfl rfl hp
  cases r with
  | true =>
    have HWK : Hid (∀ w',Ext w w' → Calls Tryz.prog 80 #[.pointer (some ⟨W.nb n.id,0,none⟩)] w' fun e w'' => e = .returned (.tuple #[]) ∧ PGo base x W l (wakeU f l n.id) w' w'') := fun w' hx => wake_any (h.pt.ext hx) h.qok h.ids h.clo h.bdd h.len hn f hch
    simp only [if_true] at HG ⊢
    generalize wakeU f l n.id = L at *
    clear h hl1 hn ht hch
    go_enter Tryz.func43,Tryz.ntmps43
    go_wp2_with (go_at_call 79; (with_reducible refine (HFP.out _ ext_by).yields ?_); intro q1)
    (with_reducible refine (HWK.out _ (ext_more _ _)).mono ?_)
    rintro e w2 ⟨rfl,hp⟩
    have HE := hid (HG.out _ _ (ext_more _ _) hp)
    clear hp
    go_wp2
    go_returns
    exact ⟨rfl,HE.out⟩
  | false =>
    have HWK : Hid (∀ w',Ext w w' → Calls Tryz.prog 81 #[.pointer (some ⟨W.nb n.id,0,none⟩)] w' fun e w'' => e = .returned (.tuple #[]) ∧ PGo base x W l (restU f l n.id) w' w'') := fun w' hx => rest_any (h.pt.ext hx) h.qok h.ids h.clo h.len hn f hch
    simp only [Bool.false_eq_true,if_false] at HG ⊢
    generalize restU f l n.id = L at *
    clear h hl1 hn ht hch
    go_enter Tryz.func43,Tryz.ntmps43
    go_wp2_with (go_at_call 79; (with_reducible refine (HFP.out _ ext_by).yields ?_); intro q1)
    (with_reducible refine (HWK.out _ (ext_more _ _)).mono ?_)
    rintro e w2 ⟨rfl,hp⟩
    have HE := hid (HG.out _ _ (ext_more _ _) hp)
    clear hp
    go_wp2
    go_returns
    exact ⟨rfl,HE.out⟩
set_option maxRecDepth 100000 in
set_option maxHeartbeats 4000000 in
theorem move_any (h : Pt base x W l w) (hq : QOk W l) (hs : Ids l) (hc : Clo l) (hl : l.length ≤ 60) {n : Nd} (hn : n ∈ l) (h0 : 0 ≤ n.par) (p' : Int) (hp0 : 0 ≤ p') (hp1 : p' ≤ 1099511627776) :
    Calls Tryz.prog 96 #[.pointer (some ⟨W.nb n.id,0,none⟩),.int .i64 p'] w fun e w' => e = .returned (.tuple #[]) ∧ PGo base x W l (upd n.id (movF p') l) w w' := by
  obtain ⟨p,hp,he,ht⟩ := (hc n hn).2.2 h0
  obtain ⟨c0,-,-,c3,c4,-⟩ := h.cells hn
  rw [grp_up (by omega)] at c3
  have fz := h.free hn 4
  have hbl := h.nlt hn
  have hcv := floatOfInt_eq (z := p') (by omega)
  have H := hid h
  have HQ := hid hq
  have HS := hid hs
  have HC := hid hc
  have HL := hid hl
  have HN := hid hn
  have HP := hid hp
  have HE := hid he
  have HT := hid ht
  have HB := hid (And.intro hp0 hp1)
  have H0 := hid h0
  clear h hq hs hc hl hn hp he ht h0
  go_enter Tryz.func96,Tryz.ntmps96
  go_wp2_with fail
  have H1 := hid (H.out.setAt HN.out HS.out (movF p') fun _ => ⟨rfl,rfl,rfl,rfl⟩)
  have HF1 : Hid (Fr (Own x W l) (Own x W (upd n.id (movF p') l)) w (w.setCell ⟨W.nb n.id,4,none⟩ (.complex .f64 (Fz p') (Fz n.now)))) := fr_upd (movF_same p') (Fr.set (.inr (.inr ⟨n,HN.out,.inl rfl⟩)) 4 _)
  rw [show (movF p' n).pass = p' from rfl,show (movF p' n).now = n.now from rfl] at H1
  clear H c0 c3 c4 fz hbl
  generalize w.setCell ⟨W.nb n.id,4,none⟩ (.complex .f64 (Fz p') (Fz n.now)) = w1 at *
  have hn2 : movF p' n ∈ upd n.id (movF p') l := mem_upd.2 ⟨n,HN.out,by rw [if_pos rfl]⟩
  obtain ⟨p2,hp2,e2,t2⟩ : ∃ p2 ∈ upd n.id (movF p') l,p2.id = p.id ∧ p2.thr = false := ⟨_,mem_upd.2 ⟨p,HP.out,rfl⟩,by split <;> rfl,by split <;> exact HT.out⟩
  have d0 : w1.cell? ⟨W.nb n.id,0,none⟩ = some (.int .i64 n.id) := (H1.out.cells hn2).1
  have d3 : w1.cell? ⟨W.nb n.id,3,none⟩ = some (.pointer (some ⟨W.nb n.par,0,none⟩)) := by
    have := (H1.out.cells hn2).2.2.2.1
    rwa [grp_up (n := movF p' n) (by have := H0.out; show ¬ n.par < 0; omega)] at this
  have d5 : w1.cell? ⟨W.nb n.par,5,none⟩ = some (.pointer (some ⟨W.qb n.par,0,none⟩)) := by
    have := (H1.out.cells hp2).2.2.2.2.2
    rwa [que_of t2,e2,HE.out] at this
  have hix := (H1.out.idx p2 hp2 t2)
  rw [e2,HE.out] at hix
  have HIX := hid hix
  have hlen : (W.rw n.par).length ≤ 60 := by
    have := HQ.out.len HS.out HP.out HT.out
    rw [HE.out] at this
    exact Nat.le_trans this HL.out
  have hform : formedB p' n.id = true := formedB_iff.2 ⟨HB.out.1,HB.out.2,(HC.out n HN.out).1⟩
  have hbl := Nat.lt_of_lt_of_le (World.block_lt_of_cell? _ _ d0) (Nat.le_refl _)
  have hgl := World.block_lt_of_cell? _ _ d5
  simp only at hbl hgl
  cases hr : n.rdy with
  | false =>
    have hno : ¬ idAt (W.rw n.par) n.id < (W.rw n.par).length := fun h => by
      have := (HQ.out.has HS.out HN.out HP.out HT.out HE.out).1 (by rw [HE.out]; exact h)
      rw [hr] at this; cases this
    have HRK : Hid (∀ w',Ext w1 w' → Calls Tryz.prog 121 #[.pointer (some ⟨W.qb n.par,0,none⟩),.int .i64 n.id,.int .i64 p'] w' (Yields w' (errV 13))) := fun w' hx => rekey_no _ _ _ _ _ _ _ _ (HIX.out.1.ext hx) (by omega) hform hno
    rw [errV_pos (by decide)] at HRK
    have HG : Hid (PGo base x W l (upd n.id (movF p') l) w w1) := ⟨W,H1.out,HQ.out.quiet HS.out HN.out (movF p') (movF_same p') (fun _ => ⟨rfl,fun h => by rw [hr] at h; cases h⟩),HF1.out,rfl,rfl,rfl⟩
    clear hn2 hp2 e2 t2 hix hlen hform hr hno HIX H1 HF1
    generalize W.nb n.id = b at *
    generalize W.nb n.par = g at *
    generalize W.qb n.par = q at *
    go_wp2
    ((first | refine wp_region_more (by kernel_rfl) (by kernel_rfl) ?_ | refine wp_region_ext (by kernel_rfl) (by kernel_rfl) ?_); (try dsimp only [append_cons',append_nil']); (repeat (go_big_quiet_step ((go_at_call 121; with_reducible refine Calls.more_of (HRK.out _ (ext_more _ _)))))); refine wpQuiet_nil ?_; rintro _ ⟨pq,rfl⟩)
    go_wp2
    go_returns
    exact ⟨rfl,HG.out.ext ext_by⟩
  | true =>
    have HYES : Hid (idAt (W.rw n.par) n.id < (W.rw n.par).length) := by
      have := (HQ.out.has HS.out HN.out HP.out HT.out HE.out).2 hr
      rwa [HE.out] at this
    have HQ7 : Hid (∀ v,QOk (W.setQ p.id v (ins (p',n.id) ((W.rw p.id).eraseIdx (idAt (W.rw p.id) n.id)))) (upd n.id (movF p') l)) := fun v => HQ.out.rekey HS.out HN.out HP.out HT.out HE.out hr (movF p') (movF_same p') hr v
    have HP2 := hid hp2
    have HE2 := hid e2
    have HT2 := hid t2
    have HLN := hid hlen
    have HFM := hid hform
    clear hn2 hp2 e2 t2 hix hlen hform hr
    go_wp2_with fail
    refine wp_region_T 12 1 (fun u => u.cell? ⟨W.nb n.id,0,none⟩ = some (.int .i64 n.id) ∧ u.cell? ⟨W.nb n.id,3,none⟩ = some (.pointer (some ⟨W.nb n.par,0,none⟩)) ∧ u.cell? ⟨W.nb n.par,5,none⟩ = some (.pointer (some ⟨W.qb n.par,0,none⟩))) (by kernel_rfl) (by kernel_rfl) ?_
    have HSS : w1.drew.cell? ⟨W.nb n.id,0,none⟩ = some (.int .i64 n.id) ∧ w1.drew.cell? ⟨W.nb n.id,3,none⟩ = some (.pointer (some ⟨W.nb n.par,0,none⟩)) ∧ w1.drew.cell? ⟨W.nb n.par,5,none⟩ = some (.pointer (some ⟨W.qb n.par,0,none⟩)) := ⟨d0,d3,d5⟩
    have hx5 : Ext w1 w1.drew := Ext.drew (Ext.refl _)
    have H6 := hid (H1.out.ext hx5)
    have HF6 := hid (HF1.out.ext hx5)
    have HIX6 := hid (HIX.out.1.ext hx5)
    clear d0 d3 d5 H1 HF1 hx5
    generalize w1.drew = w5 at *
    refine wpT_tk 0 HSS ?_; (try simp only [nrm])
    refine wpT_tk 1 HSS ?_; (try simp only [nrm])
    refine wpT_tk 2 HSS ?_; (try simp only [nrm])
    refine wpT_tk 3 HSS ?_; (try simp only [nrm])
    refine wpT_tk 4 HSS ?_; (try simp only [nrm])
    refine wpT_tk 5 HSS ?_; (try simp only [nrm])
    refine wpT_tk 6 HSS ?_; (try simp only [nrm])
    refine wpT_tk 7 HSS ?_; (try simp only [nrm])
    refine wpT_tk 8 HSS ?_; (try simp only [nrm])
    refine wpT_tk 9 HSS ?_; (try simp only [nrm])
    refine wpT_tk 10 HSS ?_; (try simp only [nrm])
    refine wpT_tk 11 HSS ?_; (try simp only [nrm])
    refine wpT_done (by kernel_rfl) ?_
    refine wpAny_on 12 (fun K' hK => ?_); go_simp
    (with_reducible refine (rekey_yes _ _ _ _ _ _ _ _ HIX6.out HIX.out.2 (by have := HLN.out; omega) HFM.out HYES.out).mono ?_)
    rintro e w7 ⟨rfl,hwt⟩
    refine hK.out _ _ ?_
    clear hK K' HIX6 HIX HSS
    rw [← HE.out,← HE2.out] at hwt
    obtain ⟨v',h7,hf7⟩ := H6.out.setIdx HP2.out HT2.out hwt
    rw [HE2.out] at h7 hf7
    have HG : Hid (PGo base x W l (upd n.id (movF p') l) w w7) := ⟨_,h7,HQ7.out v',HF6.out.trans hf7,rfl,rfl,rfl⟩
    clear h7 hf7 hwt H6 HF6 HQ7
    (try simp only [nrm])
    refine wpAny_done (by kernel_rfl) ?_ _
    go_wp2
    go_returns
    exact ⟨rfl,HG.out⟩
end
end Go.Proofs.YtocicffmajbecaaGreatDoor
namespace Go.Proofs.YtocicffmajbecaaGreatDoor
open Go.RowKit
set_option linter.unusedSimpArgs false
def kidsU (l : List Nd) (g : Int) : List Nd := l.filter fun n => n.par == g
theorem kids_snoc {l : List Nd} {k : Nat} (g : Int) (h : k < l.length) : kidsU (l.take (k + 1)) g = if l[k].par = g then kidsU (l.take k) g ++ [l[k]] else kidsU (l.take k) g := by
  unfold kidsU
  rw [List.take_succ_eq_append_getElem h,List.filter_append,List.filter_cons]
  by_cases e : l[k].par = g
  · simp [e]
  · simp [e]
theorem kids_le (l : List Nd) (g : Int) : (kidsU l g).length ≤ l.length := List.length_filter_le _ _
theorem infoNo : ∃ j,Tryz.prog.info? 124 = some j ∧ j.size ≠ 0 := by
  have h : (Tryz.prog.info? 124).map (·.size) = some 6 := by kernel_rfl
  obtain ⟨j,h1,h2⟩ := Option.map_eq_some_iff.1 h
  exact ⟨j,h1,by rw [h2]; decide⟩
theorem eqlP_same (a : Addr) (w : World) : (binOp .eql 119 (.pointer (some a)) (.pointer (some a))).run Tryz.prog w = .ok (.bool true) w := by
  obtain ⟨j,h1,-⟩ := infoNo
  exact run_eql_ptr_same w a Tryz.underlying119 h1
theorem eqlP_other {a b : Addr} {ca cb : Array Value} {ta tb : TypeId} {w : World} (hne : a ≠ b) (ha : w.heap[a.block]? = some (.cells ca ta (0,0))) (hb : w.heap[b.block]? = some (.cells cb tb (0,0))) :
    (binOp .eql 119 (.pointer (some a)) (.pointer (some b))).run Tryz.prog w = .ok (.bool false) w := by
  obtain ⟨j,h1,h2⟩ := infoNo
  exact run_eql_ptr_other w Tryz.underlying119 h1 h2 hne ha hb
theorem eqlP_nil (a : Addr) (w : World) : (binOp .eql 119 (.pointer none) (.pointer (some a))).run Tryz.prog w = .ok (.bool false) w := by
  have h : ∀ d : Nat,(Op.equalIn (d + 1) 119 (.pointer none) (.pointer (some a))).run Tryz.prog w = .ok false w := fun d => by
    simp [Op.equalIn,run_underlying Tryz.underlying119]
  simp only [binOp]
  simp [Op.equal,Op.maxDepth,h 9999]
section
variable {base : Nat} {x : Site} {W : Wit} {l : List Nd} {w : World}
set_option maxRecDepth 100000 in
set_option maxHeartbeats 4000000 in
theorem within_any (h : Pt base x W l w) (hc : Clo l) (hl : l.length ≤ 60) {g : Nd} (hg : g ∈ l) :
    Calls Tryz.prog 87 #[.pointer (some ⟨x.b,x.d,none⟩),.pointer (some ⟨W.nb g.id,0,none⟩)] w fun e w' => ∃ v',e = .returned v' ∧ w'.ownsRow w.heap.size 119 1 v' (kidsU l g.id).length (W.ptrs (kidsU l g.id)) ∧ Ext w w' := by
  obtain ⟨p,cap,hv,hc1,hc2,hp0,hp1⟩ := h.shape
  unfold maxLen at hc2
  have H := hid h
  have HV := hid hv
  have HC := hid hc
  have HP := hid hp1
  have HN := hid hp0
  have HG := hid hg
  have hx := h.lt
  have c0 := h.cell
  rw [hv] at c0
  have hgl := h.nlt hg
  clear h hp0 hp1 hv hc hg
  go_enter Tryz.func87,Tryz.ntmps87
  go_wp2
  go_loopw [5,13] (fun v5 v13 wr => Ext w wr ∧ ∃ k : Nat,v13 = .int .i64 k ∧ k ≤ l.length ∧ Hid (wr.ownsRow w.heap.size 119 1 v5 (kidsU (l.take k) g.id).length (W.ptrs (kidsU (l.take k) g.id)))) (fun _ v13 _ => (l.length - (intOf v13).toNat))
  case atStart => exact ⟨Ext.refl _,0,rfl,Nat.zero_le _,World.ownsRow_nil _ _ _ _⟩
  case round =>
    obtain ⟨X,k,rfl,hk,hno⟩ := hrel
    by_cases hlt : k < l.length
    · obtain ⟨a,rfl⟩ : ∃ a,p = some a := by
        cases p with
        | none => exact absurd (HN.out rfl).1 (by intro e; rw [e] at hlt; simp at hlt)
        | some a => exact ⟨a,rfl⟩
      obtain ⟨gb,rfl,hgb,hgbl⟩ := HP.out a rfl
      have hn : l[k]? = some l[k] := List.getElem?_eq_getElem hlt
      have f0 := X.cell (H.out.ptr HV.out hn)
      have f3 := X.cell (H.out.cells (List.getElem_mem hlt)).2.2.2.1
      have HS := hid (kids_snoc g.id hlt)
      have hnm := List.getElem_mem hlt
      have i1 : (k : Int) < l.length := by omega
      have HX := hid X
      have hkl : (kidsU (l.take k) g.id).length ≤ 60 := Nat.le_trans (kids_le _ _) (by simp; omega)
      clear hn
      by_cases e : l[k].par = g.id
      · have h0 : ¬ l[k].par < 0 := by have := (HC.out g HG.out).1; omega
        rw [grp_up h0,e] at f3
        have HS2 : Hid (kidsU (l.take (k + 1)) g.id = kidsU (l.take k) g.id ++ [l[k]]) := by unfold Hid; rw [HS.out,if_pos e]
        clear hnm e h0 HS
        generalize l[k] = n at *
        have hsm := eqlP_same ⟨W.nb g.id,0,none⟩
        have hk2 : ((kidsU (l.take k) g.id).length + 1) * 8 ≤ 140737488355328 := by omega
        have hk3 : (kidsU (l.take k) g.id).length + 1 ≤ maxLen := by unfold maxLen; omega
        go_wp2_with (at_builtin; refine wpList_push_own rfl (.tmp 23) (.tmp 25) 67 119 (.pointer none) 1 8 rfl Tryz.underlying67 infoPp rfl (by decide) hno.out (news := [.pointer (some ⟨W.nb n.id,0,none⟩)]) rfl (by intro u hu; simp only [List.mem_cons,List.not_mem_nil,or_false] at hu; subst hu; rfl) hk3 hk2 HX.out.size rfl rfl rfl ?_; intro p1 c1 w3 ho1 hb1)
        go_roundw
        case rel => exact ⟨⟨Below.trans HX.out.below hb1⟩,k + 1,by go_num,by omega,by
          rw [HS2.out]
          unfold Wit.ptrs at ho1 ⊢
          rw [List.map_append,List.length_append]; exact ho1⟩
        case measure => simp [intOf]; omega
      · have HS2 : Hid (kidsU (l.take (k + 1)) g.id = kidsU (l.take k) g.id) := by unfold Hid; rw [HS.out,if_neg e]
        by_cases h0 : l[k].par < 0
        · rw [grp_top h0] at f3
          clear hnm e h0 HS
          generalize l[k] = n at *
          have hsm := eqlP_nil ⟨W.nb g.id,0,none⟩
          go_wp2
          go_roundw
          case rel => exact ⟨X,k + 1,by go_num,by omega,by rw [HS2.out]; exact hno.out⟩
          case measure => simp [intOf]; omega
        · obtain ⟨q,hq,hqe,-⟩ := (HC.out _ hnm).2.2 (by omega)
          have hne : ¬ (W.nb l[k].par = W.nb g.id) := fun e2 => by
            rw [← hqe] at e2 e
            exact e (H.out.injN q hq g HG.out e2)
          have hsm : (binOp .eql 119 (.pointer (some ⟨W.nb l[k].par,0,none⟩)) (.pointer (some ⟨W.nb g.id,0,none⟩))).run Tryz.prog wr = .ok (.bool false) wr :=
            eqlP_other (fun e2 => hne (by injection e2)) (by rw [← hqe]; exact block_ext' X (H.out.node q hq).1) (block_ext' X (H.out.node g HG.out).1)
          rw [grp_up h0] at f3
          clear hnm e h0 HS hq hqe
          generalize l[k] = n at *
          go_wp2
          go_roundw
          case rel => exact ⟨X,k + 1,by go_num,by omega,by rw [HS2.out]; exact hno.out⟩
          case measure => simp [intOf]; omega
    · obtain rfl : k = l.length := by omega
      have hr := hno.out
      rw [List.take_length] at hr
      have HR := hid hr
      clear hr
      go_wp2
      go_returns
      exact ⟨_,rfl,HR.out,X⟩
set_option maxRecDepth 100000 in
set_option maxHeartbeats 2000000 in
theorem least_any (h : Pt base x W l w) (hq : QOk W l) (hs : Ids l) (hl : l.length ≤ 60) {g b : Nd} (hg : g ∈ l) (ht : g.thr = false) (hb : bestU l g.id = some b) :
    Calls Tryz.prog 104 #[.pointer (some ⟨x.b,x.d,none⟩),.pointer (some ⟨W.nb g.id,0,none⟩)] w (Yields w (.pointer (some ⟨W.nb b.id,0,none⟩))) := by
  have hbm := (bestU_spec hs hb).1
  obtain ⟨e,r,he⟩ : ∃ e r,W.rw g.id = e :: r := by
    cases hw : W.rw g.id with
    | nil =>
      have := bestU_none.2 ((hq.nil hg ht).1 hw)
      rw [this] at hb; cases hb
    | cons e r => exact ⟨e,r,rfl⟩
  obtain ⟨b',hb',e2⟩ := hq.head hs hg ht he
  rw [hb] at hb'
  obtain rfl := Option.some.inj hb'
  have hix := (h.idx g hg ht).1
  rw [he,e2] at hix
  have HMIN : Hid (∀ w',Ext w w' → Calls Tryz.prog 126 #[.pointer (some ⟨W.qb g.id,0,none⟩)] w' (Yields w' (.tuple #[.agg #[.int .i64 b.pass,.int .i64 b.id],.bool true]))) := fun w' hx => min_any _ _ _ _ _ _ (hix.ext hx)
  have HF : Hid (∀ w',Ext w w' → Calls Tryz.prog 79 #[.pointer (some ⟨x.b,x.d,none⟩),.int .i64 b.id] w' (Yields w' (.pointer (some ⟨W.nb b.id,0,none⟩)))) := fun w' hx => find_yes (h.ext hx) hs (by omega) hbm
  have c5 := (h.cells hg).2.2.2.2.2
  rw [que_of ht] at c5
  have hbl := h.nlt hg
  clear h hq hs hl hg ht hb hbm he hb' hix e2
  go_enter Tryz.func104,Tryz.ntmps104
  go_wp2_with (first | (go_at_call 126; (with_reducible refine (HMIN.out _ ext_by).yields ?_); intro q1) | (go_at_call 79; (with_reducible refine (HF.out _ ext_by).yields ?_); intro q1))
  go_returns
  exact ⟨rfl,ext_by⟩
end
end Go.Proofs.YtocicffmajbecaaGreatDoor
namespace Go.Proofs.YtocicffmajbecaaGreatDoor
open Go.RowKit
set_option linter.unusedSimpArgs false
set_option maxRecDepth 100000 in
theorem run_max_pos {P : Program} {d : Int} (h : d.natAbs < 2 ^ 53) (ts : Array TypeId) (t : TypeId) (w : World) : (Builtin.max_ ts t #[.float .f64 0,.float .f64 (Fz d)]).run P w = .ok (.float .f64 (Fz (max 0 d))) w := by
  have ho : FloatKind.f64.format.order (Fz 0) (Fz d) = some (compare 0 d) := order_Fz (by decide) h
  rw [zero_Fz] at ho
  have hn : (FloatKind.f64.decode 0).neg = false := by decide
  rcases Int.lt_trichotomy d 0 with hd | hd | hd
  · have hc : compare 0 d = .gt := by simp only [compare,compareOfLessAndEq]; rw [if_neg (by omega),if_neg (by omega)]
    rw [hc] at ho
    have hm : max 0 d = 0 := by omega
    rw [hm,zero_Fz]
    simp [Builtin.max_,Builtin.max2,ho]
  · subst hd
    have hc : compare (0 : Int) 0 = .eq := by decide
    rw [hc] at ho
    have hm : max (0 : Int) 0 = 0 := by decide
    rw [hm,zero_Fz] at *
    simp [Builtin.max_,Builtin.max2,ho,hn]
  · have hc : compare 0 d = .lt := by simp only [compare,compareOfLessAndEq]; rw [if_pos (by omega)]
    rw [hc] at ho
    have hm : max 0 d = d := by omega
    rw [hm]
    simp [Builtin.max_,Builtin.max2,ho]
def shF (now : Int) (n : Nd) : Nd := { n with pass := max 0 (n.pass - now) }
def shK (ks : List Int) (now : Int) (l : List Nd) : List Nd := l.map fun n => if n.id ∈ ks then shF now n else n
theorem shK_nil (now : Int) (l : List Nd) : shK [] now l = l := by
  unfold shK
  simp
theorem shK_snoc {ks : List Int} {now : Int} {l : List Nd} (hs : Ids l) {n : Nd} (hn : n ∈ l) (hk : n.id ∉ ks) : upd n.id (movF (max 0 (n.pass - now))) (shK ks now l) = shK (ks ++ [n.id]) now l := by
  unfold upd shK
  rw [List.map_map]
  refine List.map_congr_left fun m hm => ?_
  simp only [Function.comp]
  by_cases e : m.id = n.id
  · obtain rfl := uniqU hs hm hn e
    rw [if_neg hk,if_pos rfl,if_pos (by simp)]
    rfl
  · by_cases h : m.id ∈ ks
    · rw [if_pos h,if_neg (show ¬ (shF now m).id = n.id from e),if_pos (by simp [h])]
    · rw [if_neg h,if_neg e,if_neg (by simp [h,e])]
theorem mem_shK {ks : List Int} {now : Int} {l : List Nd} {m : Nd} : m ∈ shK ks now l ↔ ∃ n ∈ l,m = if n.id ∈ ks then shF now n else n := by
  unfold shK
  rw [List.mem_map]
  exact ⟨fun ⟨n,h,e⟩ => ⟨n,h,e.symm⟩,fun ⟨n,h,e⟩ => ⟨n,h,e.symm⟩⟩
theorem shK_length (ks : List Int) (now : Int) (l : List Nd) : (shK ks now l).length = l.length := by simp [shK]
theorem shK_ids {ks : List Int} {now : Int} {l : List Nd} (hs : Ids l) : Ids (shK ks now l) := by
  unfold shK
  refine List.pairwise_map.2 (hs.imp fun {a b} hab => ?_)
  have : ∀ n : Nd,(if n.id ∈ ks then shF now n else n).id = n.id := fun n => by split <;> rfl
  rw [this,this]; exact hab
theorem shK_clo {ks : List Int} {now : Int} {l : List Nd} (hc : Clo l) : Clo (shK ks now l) := by
  intro n' hn'
  obtain ⟨n,hn,rfl⟩ := mem_shK.1 hn'
  have hi : ∀ m : Nd,(if m.id ∈ ks then shF now m else m).id = m.id := fun m => by split <;> rfl
  have ht : ∀ m : Nd,(if m.id ∈ ks then shF now m else m).thr = m.thr := fun m => by split <;> rfl
  have hp : ∀ m : Nd,(if m.id ∈ ks then shF now m else m).par = m.par := fun m => by split <;> rfl
  rw [hi,ht,hp]
  obtain ⟨h1,h2,h3⟩ := hc n hn
  refine ⟨h1,h2,fun h0 => ?_⟩
  obtain ⟨p,hp',e,t⟩ := h3 h0
  exact ⟨_,mem_shK.2 ⟨p,hp',rfl⟩,by rw [hi]; exact e,by rw [ht]; exact t⟩
theorem shK_bdd {ks : List Int} {now : Int} {l : List Nd} (hb : Bdd l) (h0 : 0 ≤ now) : Bdd (shK ks now l) := by
  intro n' hn'
  obtain ⟨n,hn,rfl⟩ := mem_shK.1 hn'
  have h := hb n hn
  split
  · simp only [shF]; omega
  · exact h
def rebU (l : List Nd) (g : Int) : List Nd := upd g (nowF 0) (shK ((kidsU l g).map Nd.id) (nowU l g) l)
theorem nowF_same (p : Int) : ∀ n,(nowF p n).id = n.id ∧ (nowF p n).par = n.par ∧ (nowF p n).thr = n.thr := fun _ => ⟨rfl,rfl,rfl⟩
section
variable {base : Nat} {x : Site} {W : Wit} {l : List Nd} {w : World}
set_option maxRecDepth 100000 in
set_option maxHeartbeats 4000000 in
theorem rebase_any (h : Pt base x W l w) (hq : QOk W l) (hs : Ids l) (hc : Clo l) (hb : Bdd l) (hl : l.length ≤ 60) {g : Nd} (hg : g ∈ l) :
    Calls Tryz.prog 107 #[.pointer (some ⟨x.b,x.d,none⟩),.pointer (some ⟨W.nb g.id,0,none⟩)] w fun e w' => e = .returned (.tuple #[]) ∧ PGo base x W l (rebU l g.id) w w' := by
  obtain ⟨ks,hks⟩ : ∃ ks,ks = kidsU l g.id := ⟨_,rfl⟩
  have hkm : ∀ n ∈ ks,n ∈ l ∧ n.par = g.id := fun n hn => by
    rw [hks] at hn
    have := List.mem_filter.1 hn
    exact ⟨this.1,by simpa using this.2⟩
  have hkn : ks.Pairwise (fun a b => a.id < b.id) := by rw [hks]; exact List.Pairwise.filter _ hs
  have hkl : ks.length ≤ 60 := by rw [hks]; exact Nat.le_trans (kids_le _ _) hl
  have hreb : rebU l g.id = upd g.id (nowF 0) (shK (ks.map Nd.id) g.now l) := by unfold rebU; rw [nowU_of hs hg,hks]
  have hwi := within_any h hc hl hg
  rw [← hks] at hwi
  have HWI := hid hwi
  have HREB := hid hreb
  have H := hid h
  have HQ := hid hq
  have HS := hid hs
  have HC := hid hc
  have HB := hid hb
  have HL := hid hl
  have HG := hid hg
  have HKM := hid hkm
  have HKN := hid hkn
  have hxl := h.lt
  clear h hq hs hc hb hl hg hkm hkn hks hwi hreb
  go_enter Tryz.func107,Tryz.ntmps107
  go_wp2_with fail
  (with_reducible refine HWI.out.mono ?_)
  rintro e w1 ⟨v',rfl,hrow,hx1⟩
  have HROW := hid hrow
  obtain ⟨p1,cap1,e1,hcp1,hcm1⟩ : ∃ p c,v' = .slice p ks.length c ∧ ks.length ≤ c ∧ c ≤ 9223372036854775807 := by
    rcases hrow.2 with ⟨e,h0⟩ | ⟨g',c,cur,e,e2,e3,e4,e5,_⟩
    · exact ⟨none,0,by rw [e,h0],by omega,by omega⟩
    · exact ⟨_,c,e,e4,by unfold maxLen at e5; omega⟩
  subst e1
  clear HWI hrow
  go_wp2_with fail
  go_loopw [10] (fun v10 wr => ∃ k : Nat,v10 = .int .i64 k ∧ k ≤ ks.length ∧ Hid (∃ W1,Pt base x W1 (shK ((ks.take k).map Nd.id) g.now l) wr ∧ QOk W1 (shK ((ks.take k).map Nd.id) g.now l) ∧ Fr (Own x W l) (Own x W1 (shK ((ks.take k).map Nd.id) g.now l)) w wr ∧ (W1.v = W.v ∧ W1.nb = W.nb ∧ W1.qb = W.qb) ∧
      wr.ownsRow w.heap.size 119 1 (.slice p1 ks.length cap1) ks.length (W.ptrs ks) ∧ (∀ b,(Value.slice p1 ks.length cap1).ownBlock = some b → ¬ Own x W1 (shK ((ks.take k).map Nd.id) g.now l) b))) (fun v10 _ => (ks.length - (intOf v10).toNat))
  case atStart =>
    refine ⟨0,rfl,Nat.zero_le _,?_⟩
    simp only [List.take_zero,List.map_nil,shK_nil]
    exact ⟨W,H.out.ext hx1,HQ.out,.of_ext hx1,⟨rfl,rfl,rfl⟩,HROW.out,fun b hb ho => by
      have := (HROW.out.lt b hb).1
      have := (H.out.own_lt ho).2
      omega⟩
  case round =>
    obtain ⟨k,rfl,hk,hst⟩ := hrel
    obtain ⟨W1,hpt,hqo,hfr,hw,hro,hno⟩ := hst.out
    have HPT := hid hpt
    have HQO := hid hqo
    have HFR := hid hfr
    have HW := hid hw
    have HRO := hid hro
    have HNO := hid hno
    clear hpt hqo hfr hro hno hst
    by_cases hlt : k < ks.length
    · obtain ⟨gk,e1⟩ : ∃ gk,p1 = some ⟨gk,0,none⟩ := by
        rcases HRO.out.2 with ⟨e,h0⟩ | ⟨g',c,cur,e,_⟩
        · omega
        · injection e with e1 _ _
          exact ⟨g',e1⟩
      subst e1
      have hn := HKM.out ks[k] (List.getElem_mem hlt)
      have hnot : ks[k].id ∉ (ks.take k).map Nd.id := fun hm => by
        obtain ⟨m,hm1,hm2⟩ := List.mem_map.1 hm
        obtain ⟨i,hi,rfl⟩ := List.mem_iff_getElem.1 hm1
        rw [List.length_take] at hi
        rw [List.getElem_take] at hm2
        have := List.pairwise_iff_getElem.1 HKN.out i k (by omega) hlt (by omega)
        omega
      have hnl : ks[k] ∈ shK ((ks.take k).map Nd.id) g.now l := mem_shK.2 ⟨ks[k],hn.1,by rw [if_neg hnot]⟩
      have hgl : ∃ g2 ∈ shK ((ks.take k).map Nd.id) g.now l,g2.id = g.id ∧ g2.now = g.now := ⟨_,mem_shK.2 ⟨g,HG.out,rfl⟩,by split <;> rfl,by split <;> rfl⟩
      obtain ⟨g2,hg2,eg2,en2⟩ := hgl
      have hb2 := shK_bdd (ks := (ks.take k).map Nd.id) HB.out (HB.out g HG.out).2.1
      have hsn := shK_snoc (now := g.now) HS.out hn.1 hnot
      have htk : (ks.take k).map Nd.id ++ [ks[k].id] = (ks.take (k + 1)).map Nd.id := by rw [List.take_succ_eq_append_getElem hlt,List.map_append]; rfl
      rw [htk] at hsn
      have hpar0 : 0 ≤ ks[k].par := by rw [hn.2]; exact (HC.out g HG.out).1
      have hbn := HB.out ks[k] hn.1
      have hbg := HB.out g HG.out
      have cm : wr.cell? ⟨gk,k,none⟩ = some (.pointer (some ⟨W.nb ks[k].id,0,none⟩)) := by
        obtain ⟨-,hxl',-,-,cur,hcb,hcs,hcur⟩ := own_block HRO.out
        rw [cell_of_row _ _ _ _ _ (0,0) hcb,hcur k hlt]
        exact ptrs_get (List.getElem?_eq_getElem hlt)
      have HAH : Hid (∀ w',Ext wr w' → Calls Tryz.prog 105 #[.pointer (some ⟨W.nb ks[k].id,0,none⟩)] w' (Yields w' (.float .f64 (Fz (ks[k].pass - g.now))))) := fun w' hx => by
        have := ahead_at (HPT.out.ext hx) hb2 hnl hg2 (by rw [eg2,hn.2]) hpar0
        rwa [HW.out.2.1,en2] at this
      have HMV : Hid (∀ w',Ext wr w' → Calls Tryz.prog 96 #[.pointer (some ⟨W.nb ks[k].id,0,none⟩),.int .i64 (max 0 (ks[k].pass - g.now))] w' fun e w'' => e = .returned (.tuple #[]) ∧ PGo base x W1 (shK ((ks.take k).map Nd.id) g.now l) (shK ((ks.take (k + 1)).map Nd.id) g.now l) w' w'') := fun w' hx => by
        have := move_any (HPT.out.ext hx) HQO.out (shK_ids HS.out) (shK_clo HC.out) (by rw [shK_length]; exact HL.out) hnl hpar0 (max 0 (ks[k].pass - g.now)) (by omega) (by omega)
        rwa [HW.out.2.1,hsn] at this
      have hmx := run_max_pos (P := Tryz.prog) (d := ks[k].pass - g.now) (by omega)
      have hcv := fun w => run_convert_float_int (P := Tryz.prog) w 158 3 .f64 .i64 (Fz (max 0 (ks[k].pass - g.now))) (max 0 (ks[k].pass - g.now)) (by kernel_rfl) Tryz.underlying3 (intVal_Fz (by omega))
      clear hn hnot hnl hg2 eg2 en2 hb2 hsn htk hpar0 hbn hbg
      generalize W.nb ks[k].id = b at *
      generalize max 0 (ks[k].pass - g.now) = mp at *
      generalize ks[k].pass - g.now = dd at *
      go_wp2_with (go_at_call 105; (with_reducible refine (HAH.out _ ext_by).yields ?_); intro q1)
      (with_reducible refine (HMV.out _ (ext_more _ _)).mono ?_)
      rintro e w3 ⟨rfl,hp⟩
      have HE : Hid (∃ W2,Pt base x W2 (shK ((ks.take (k + 1)).map Nd.id) g.now l) w3 ∧ QOk W2 (shK ((ks.take (k + 1)).map Nd.id) g.now l) ∧ Fr (Own x W l) (Own x W2 (shK ((ks.take (k + 1)).map Nd.id) g.now l)) w w3 ∧ (W2.v = W.v ∧ W2.nb = W.nb ∧ W2.qb = W.qb) ∧
          w3.ownsRow w.heap.size 119 1 (.slice (some ⟨gk,0,none⟩) ks.length cap1) ks.length (W.ptrs ks) ∧ (∀ b,(Value.slice (some ⟨gk,0,none⟩) ks.length cap1).ownBlock = some b → ¬ Own x W2 (shK ((ks.take (k + 1)).map Nd.id) g.now l) b)) := by
        obtain ⟨W2,a1,a2,a3,a4,a5,a6⟩ := hp
        have a3' := Fr.trans (.of_ext (ext_more wr q1)) a3
        refine ⟨W2,a1,a2,HFR.out.trans a3',⟨a4.trans HW.out.1,a5.trans HW.out.2.1,a6.trans HW.out.2.2⟩,owns_keep HRO.out fun b hb => a3'.block b (HRO.out.lt b hb).2 (HNO.out b hb),fun b hb ho => ?_⟩
        rcases a3'.own b ho with h1 | h1
        · exact HNO.out b hb h1
        · have := (HRO.out.lt b hb).2; omega
      clear hp HMV HAH hmx hcv
      go_wp2
      go_roundw
      case rel => exact ⟨k + 1,by go_num,by omega,HE.out⟩
      case measure => simp [intOf]; omega
    · obtain rfl : k = ks.length := by omega
      rw [List.take_length] at HPT HQO HFR
      obtain ⟨g2,hg2,eg2⟩ : ∃ g2 ∈ shK (ks.map Nd.id) g.now l,g2.id = g.id := ⟨_,mem_shK.2 ⟨g,HG.out,rfl⟩,by split <;> rfl⟩
      have c4 := (HPT.out.cells hg2).2.2.2.2.1
      have fz := HPT.out.free hg2 4
      have hgl := HPT.out.nlt hg2
      have H2 := HPT.out.setAt hg2 (shK_ids HS.out) (nowF 0) fun _ => ⟨rfl,rfl,rfl,rfl⟩
      have HE : Hid (PGo base x W l (rebU l g.id) w (wr.setCell ⟨W.nb g.id,4,none⟩ (.complex .f64 (Fz g2.pass) 0))) := by
        rw [eg2,HW.out.2.1,show (nowF 0 g2).pass = g2.pass from rfl,show (nowF 0 g2).now = 0 from rfl,zero_Fz] at H2
        rw [HREB.out]
        refine ⟨W1,H2,?_,?_,HW.out⟩
        · have := HQO.out.quiet (shK_ids HS.out) hg2 (nowF 0) (nowF_same 0) fun _ => ⟨rfl,fun _ => rfl⟩
          rwa [eg2] at this
        · refine fr_upd (nowF_same 0) (HFR.out.trans (Fr.set ?_ 4 _))
          exact .inr (.inr ⟨g2,hg2,.inl (by rw [eg2,HW.out.2.1])⟩)
      rw [eg2,HW.out.2.1] at c4 fz hgl
      clear H2 hg2 eg2 HPT HQO HFR HRO HNO
      generalize W.nb g.id = b at *
      go_wp2
      go_returns
      exact ⟨rfl,HE.out⟩
end
end Go.Proofs.YtocicffmajbecaaGreatDoor
namespace Go.Proofs.YtocicffmajbecaaGreatDoor
open Go.RowKit
set_option linter.unusedSimpArgs false
theorem wp_upm {P : Program} {a : Act} {w : World} {Q : Exit → Act → World → Prop} {c0 c1 body : Code} (l : Nat) (J : Nat → Act → World → Prop) (hf : findLabel (c0.seq (c1.seq ((Code.label l).seq body))) l = some (Code.skip.seq body))
    (pass : ∀ f a w,J f a w → body.wp P (Exit.jump l (fun a' w' => ∃ f',f' < f ∧ J f' a' w') Q) a w)
    (first : ∀ D : Code,(∀ a w,(∃ f,J f a w) → D.wp P (Exit.jump l (fun a w => ∃ f,J f a w) Q) a w) → (c0.seq (c1.seq D)).wp P (Exit.jump l (fun a w => ∃ f,J f a w) Q) a w) :
    (Code.scope (c0.seq (c1.seq ((Code.label l).seq body)))).wp P Q a w := by
  refine wp_goto l (fun a w => ∃ f,J f a w) (fun a w => leastN fun f => J f a w) hf ?_ ?_
  · intro a w h
    obtain ⟨h1,h2⟩ := leastN_spec h
    refine Code.wp_mono ?_ (pass _ a w h1)
    intro e a' w' hq
    cases e with
    | goto m =>
      obtain ⟨hm,f',hlt,hj⟩ := hq
      exact ⟨hm,⟨f',hj⟩,Nat.lt_of_le_of_lt ((leastN_spec (p := fun f => J f a' w') ⟨f',hj⟩).2 f' hj) hlt⟩
    | _ => exact hq
  · intro start
    exact first _ fun a w h => wp_seq (wp_label (start a w h))
def upR : Nat → List Nd → Int → List Nd
  | 0,l,_ => l
  | f + 1,l,id => match getU l id with
    | none => l
    | some n => if n.par < 0 then l else upR f (if 16777216 < nowU l n.par then rebU l n.par else l) n.par
theorem upR_top {f : Nat} {l : List Nd} (hs : Ids l) {n : Nd} (hn : n ∈ l) (h : n.par < 0) : upR f l n.id = l := by
  cases f with
  | zero => rfl
  | succ f => simp only [upR,getU_of hs hn]; rw [if_pos h]
theorem upR_on {f : Nat} {l : List Nd} (hs : Ids l) {n p : Nd} (hn : n ∈ l) (h : ¬ n.par < 0) (hp : p ∈ l) (he : p.id = n.par) : upR (f + 1) l n.id = upR f (if 16777216 < p.now then rebU l p.id else l) p.id := by
  simp only [upR,getU_of hs hn]
  rw [if_neg h,← he,nowU_of hs hp]
def runT (f : Nat) (l : List Nd) : Option (Int × List Nd) := match runU f l 0 with
  | none => none
  | some (id,l1) => some (id,upR f l1 id)
theorem upd_congr {id : Int} {f g : Nd → Nd} {l : List Nd} (h : ∀ n ∈ l,n.id = id → f n = g n) : upd id f l = upd id g l := by
  unfold upd
  refine List.map_congr_left fun n hn => ?_
  split
  · exact h n hn ‹_›
  · rfl
theorem goF_same : ∀ n,(goF n).id = n.id ∧ (goF n).par = n.par ∧ (goF n).thr = n.thr := fun _ => ⟨rfl,rfl,rfl⟩
theorem runU_thr {f : Nat} {l : List Nd} (hs : Ids l) {n : Nd} (hn : n ∈ l) (ht : n.thr = true) : runU (f + 1) l n.id = some (n.id,l) := by
  simp only [runU,getU_of hs hn,ht,if_true]
theorem runU_on {f : Nat} {l : List Nd} (hs : Ids l) {n b : Nd} (hn : n ∈ l) (ht : n.thr = false) (hb : bestU l n.id = some b) : runU (f + 1) l n.id = runU f (upd b.id goF (upd n.id (nowF b.pass) l)) b.id := by
  simp only [runU,getU_of hs hn,ht,hb]
  rfl
theorem runU_none {f : Nat} {l : List Nd} (hs : Ids l) {n : Nd} (hn : n ∈ l) (ht : n.thr = false) (hb : bestU l n.id = none) : runU (f + 1) l n.id = none := by
  simp only [runU,getU_of hs hn,ht,hb]
  rfl
def BdM (M : Int) (l : List Nd) : Prop := ∀ n ∈ l,(0 ≤ n.pass ∧ n.pass ≤ M) ∧ 0 ≤ n.now ∧ n.now ≤ M
theorem BdM.bdd {M : Int} {l : List Nd} (h : BdM M l) (hm : M ≤ 1099511627776) : Bdd l := fun n hn => by have := h n hn; omega
theorem BdM.mono {M M' : Int} {l : List Nd} (h : BdM M l) (hm : M ≤ M') : BdM M' l := fun n hn => by have := h n hn; omega
def Acy (l : List Nd) : Prop := ∀ n ∈ l,n.par ≠ n.id
theorem Acy.upd {l : List Nd} {id : Int} {f : Nd → Nd} (h : Acy l) (hf : ∀ m,(f m).id = m.id ∧ (f m).par = m.par ∧ (f m).thr = m.thr) : Acy (upd id f l) := by
  intro n' hn'
  obtain ⟨n,hn,rfl⟩ := mem_upd.1 hn'
  have hi : ∀ m : Nd,(if m.id = id then f m else m).id = m.id := fun m => by split <;> simp [hf]
  have hp : ∀ m : Nd,(if m.id = id then f m else m).par = m.par := fun m => by split <;> simp [hf]
  rw [hi,hp]; exact h n hn
section
variable {base : Nat} {x : Site} {W : Wit} {l : List Nd} {w : World}
def RunJ (base : Nat) (x : Site) (W : Wit) (l : List Nd) (w0 : World) (R : Int × List Nd) (F : Nat) (f : Nat) (a : Act) (wc : World) : Prop :=
  ∃ (W1 : Wit) (lc : List Nd) (n : Nd) (u1 u2 u3 u5 u6 u7 u8 u9 u10 u11 u12 u13 u14 u15 u16 u17 u18 u19 u20 u21 u22 u23 u24 u25 u26 u27 u28 u29 u30 u31 u32 u33 u34 u35 u36 u37 u38 u39 u40 u41 u42 u43 u44 u45 u46 u47 u48 u49 u50 u51 u52 u53 u54 u55 u56 u57 u58 u59 u60 u61 u62 u63 : Value),a = { tmps := #[.pointer (some ⟨x.b,x.d,none⟩),u1,u2,u3,.pointer (some ⟨W1.nb n.id,0,none⟩),u5,u6,u7,u8,u9,u10,u11,u12,u13,u14,u15,u16,u17,u18,u19,u20,u21,u22,u23,u24,u25,u26,u27,u28,u29,u30,u31,u32,u33,u34,u35,u36,u37,u38,u39,u40,u41,u42,u43,u44,u45,u46,u47,u48,u49,u50,u51,u52,u53,u54,u55,u56,u57,u58,u59,u60,u61,u62,u63],defers := [] } ∧ Pt base x W1 lc wc ∧ QOk W1 lc ∧ Ids lc ∧ Clo lc ∧ Acy lc ∧ f ≤ F ∧ BdM (20000000 + (F - f) * 720720) lc ∧ lc.length ≤ 60 ∧ n ∈ lc ∧ (∀ m ∈ lc,Chain lc F m.id) ∧
    Fr (Own x W l) (Own x W1 lc) w0 wc ∧ (W1.v = W.v ∧ W1.nb = W.nb ∧ W1.qb = W.qb) ∧ Hid (runU f lc n.id = some R)
theorem Chain.map {g : Nd → Nd} (hg : ∀ m,(g m).id = m.id ∧ (g m).par = m.par) : ∀ (k : Nat) (j : Int),Chain l k j → Chain (l.map g) k j
  | 0,_,h => h
  | k + 1,j,h => by
    obtain ⟨n,hn,e,h⟩ := h
    exact ⟨g n,List.mem_map.2 ⟨n,hn,rfl⟩,by rw [(hg n).1]; exact e,by rw [(hg n).2]; exact h.imp (fun x => x) (Chain.map hg k n.par)⟩
theorem reb_ids (hs : Ids l) (g : Int) : Ids (rebU l g) := ids_upd (fun _ => rfl) (shK_ids hs)
theorem reb_clo (hc : Clo l) (g : Int) : Clo (rebU l g) := (shK_clo hc).upd (nowF_same 0)
theorem reb_length (g : Int) : (rebU l g).length = l.length := by unfold rebU; rw [upd_length,shK_length]
theorem reb_bdM {M : Int} (hb : BdM M l) (hs : Ids l) {g : Nd} (hg : g ∈ l) : BdM M (rebU l g.id) := by
  have h0 := hb g hg
  intro n' hn'
  unfold rebU at hn'
  rw [nowU_of hs hg] at hn'
  obtain ⟨n1,hn1,rfl⟩ := mem_upd.1 hn'
  obtain ⟨n,hn,rfl⟩ := mem_shK.1 hn1
  have h := hb n hn
  split <;> split <;> first | (simp only [nowF,shF]; omega) | omega
theorem reb_chain (g : Int) (k : Nat) (j : Int) (h : Chain l k j) : Chain (rebU l g) k j :=
  Chain.upd (nowF_same 0) k j (Chain.map (fun m => by split <;> exact ⟨rfl,rfl⟩) k j h)
theorem reb_mem (g : Int) {n : Nd} (hn : n ∈ l) : ∃ m ∈ rebU l g,m.id = n.id ∧ m.par = n.par ∧ m.thr = n.thr := by
  unfold rebU
  refine ⟨_,mem_upd.2 ⟨_,mem_shK.2 ⟨n,hn,rfl⟩,rfl⟩,?_⟩
  split <;> split <;> exact ⟨rfl,rfl,rfl⟩
def UpM (base : Nat) (x : Site) (b : Nat) (W : Wit) (l L : List Nd) (z : World) (a' : Act) (y : World) : Prop :=
  ∃ (u1 u2 u3 u5 u6 u7 u8 u9 u10 u11 u12 u13 u14 u15 u16 u17 u18 u19 u20 u21 u22 u23 u24 u25 u26 u27 u28 u29 u30 u31 u32 u33 u34 u35 u36 u37 u38 u39 u40 u41 u42 u43 u44 u45 u46 u47 u48 u49 u50 u51 u52 u53 u54 u55 u56 u57 u58 u59 u60 u61 u62 u63 : Value),a' = { tmps := #[.pointer (some ⟨x.b,x.d,none⟩),u1,u2,u3,.pointer (some ⟨b,0,none⟩),u5,u6,u7,u8,u9,u10,u11,u12,u13,u14,u15,u16,u17,u18,u19,u20,u21,u22,u23,u24,u25,u26,u27,u28,u29,u30,u31,u32,u33,u34,u35,u36,u37,u38,u39,u40,u41,u42,u43,u44,u45,u46,u47,u48,u49,u50,u51,u52,u53,u54,u55,u56,u57,u58,u59,u60,u61,u62,u63],defers := [] } ∧ PGo base x W l L z y
set_option maxRecDepth 100000 in
set_option maxHeartbeats 4000000 in
theorem run_up {M : Int} {z : World} (h : Pt base x W l z) (hq : QOk W l) (hs : Ids l) (hc : Clo l) (hb : BdM M l) (hM : M ≤ 1099511627776) (hl : l.length ≤ 60) {n : Nd} (hn : n ∈ l) (f : Nat) (hch : Chain l f n.id) (u1 u2 u3 u5 u6 u7 u8 u9 u10 u11 u12 u13 u14 u15 u16 u17 u18 u19 u20 u21 u22 u23 u24 u25 u26 u27 u28 u29 u30 u31 u32 u33 u34 u35 u36 u37 u38 u39 u40 u41 u42 u43 u44 u45 u46 u47 u48 u49 u50 u51 u52 u53 u54 u55 u56 u57 u58 u59 u60 u61 u62 u63 : Value) :
    (bodyAt Tryz.f70 [1,0,1,1,1,1,0]).wp Tryz.prog (Ends (UpM base x (W.nb n.id) W l (upR f l n.id) z)) ({ tmps := #[.pointer (some ⟨x.b,x.d,none⟩),u1,u2,u3,.pointer (some ⟨W.nb n.id,0,none⟩),u5,u6,u7,u8,u9,u10,u11,u12,u13,u14,u15,u16,u17,u18,u19,u20,u21,u22,u23,u24,u25,u26,u27,u28,u29,u30,u31,u32,u33,u34,u35,u36,u37,u38,u39,u40,u41,u42,u43,u44,u45,u46,u47,u48,u49,u50,u51,u52,u53,u54,u55,u56,u57,u58,u59,u60,u61,u62,u63],defers := [] }) z := by
  generalize hLT : upR f l n.id = LT
  have c3 := (h.cells hn).2.2.2.1
  have hbl := h.nlt hn
  have START : Hid (∃ (W2 : Wit) (l2 : List Nd) (m : Nd) (q : Nat),Hid (W.grp n = W2.grp m) ∧ m ∈ l2 ∧ q ≤ f ∧ Pt base x W2 l2 z ∧ QOk W2 l2 ∧ Ids l2 ∧ Clo l2 ∧ BdM M l2 ∧ l2.length ≤ 60 ∧ Chain l2 q m.id ∧ Fr (Own x W l) (Own x W2 l2) z z ∧ (W2.v = W.v ∧ W2.nb = W.nb ∧ W2.qb = W.qb) ∧ Hid (upR q l2 m.id = LT)) :=
    ⟨W,l,n,f,rfl,hn,Nat.le_refl _,h,hq,hs,hc,hb,hl,hch,Fr.refl _ _,⟨rfl,rfl,rfl⟩,hLT⟩
  clear h hq hs hc hb hl hn hch hLT
  unfold bodyAt Tryz.f70
  simp only [codeAt]
  generalize W.nb n.id = b at *
  generalize W.grp n = vg at *
  go_wp2
  go_loopg [6] f (fun gg v6 wr => ∃ (W2 : Wit) (l2 : List Nd) (m : Nd) (q : Nat),Hid (v6 = W2.grp m) ∧ m ∈ l2 ∧ q ≤ gg ∧ Hid (Pt base x W2 l2 wr ∧ QOk W2 l2 ∧ Ids l2 ∧ Clo l2 ∧ BdM M l2 ∧ l2.length ≤ 60 ∧ Chain l2 q m.id ∧ Fr (Own x W l) (Own x W2 l2) z wr ∧ (W2.v = W.v ∧ W2.nb = W.nb ∧ W2.qb = W.qb)) ∧ Hid (upR q l2 m.id = LT))
  case atStart =>
    obtain ⟨W2,l2,m,q,e1,e2,e3,a1,a2,a3,a4,a5,a6,a7,a8,a9,e4⟩ := START.out
    exact ⟨W2,l2,m,q,e1,e2,e3,⟨a1,a2,a3,a4,a5,a6,a7,a8,a9⟩,e4⟩
  case round =>
    clear START
    obtain ⟨W2,l2,m,q,hv,hm,hqg,hall,hL⟩ := hrel
    have hv := hv.out
    subst hv
    by_cases h0 : m.par < 0
    · have HE : Hid (PGo base x W l LT z wr) := by
        obtain ⟨a1,a2,a3,a4,a5,a6,a7,a8,a9⟩ := hall.out
        rw [← hL.out,upR_top a3 hm h0]
        exact ⟨W2,a1,a2,a8,a9⟩
      rw [grp_top h0]
      clear hall hL hm h0
      go_wp2
      exact ⟨rfl,_,_,_,_,_,_,_,_,_,_,_,_,_,_,_,_,_,_,_,_,_,_,_,_,_,_,_,_,_,_,_,_,_,_,_,_,_,_,_,_,_,_,_,_,_,_,_,_,_,_,_,_,_,_,_,_,_,_,_,_,_,_,rfl,HE.out⟩
    · obtain ⟨p,hp,he,ht⟩ := (hall.out.2.2.2.1 m hm).2.2 (by omega)
      obtain ⟨q',rfl⟩ : ∃ q',q = q' + 1 := by
        cases q with
        | zero => exact hall.out.2.2.2.2.2.2.1.elim
        | succ q => exact ⟨q,rfl⟩
      have hchp : Chain l2 q' p.id := by
        obtain ⟨k,hk,e,h⟩ := hall.out.2.2.2.2.2.2.1
        rw [uniqU hall.out.2.2.1 hk hm e] at h
        rw [he]
        exact h.resolve_left h0
      have hup := upR_on (f := q') hall.out.2.2.1 hm h0 hp he
      rw [hL.out] at hup
      rw [grp_up h0,← he]
      have HUP := hid hup
      have HP := hid hp
      have HCH := hid hchp
      have hbd := hall.out.2.2.2.2.1.bdd hM
      have HNOW : Hid (∀ w',Ext wr w' → Calls Tryz.prog 99 #[.pointer (some ⟨W2.nb p.id,0,none⟩)] w' (Yields w' (.int .i64 p.now))) := fun w' hx => now_at (hall.out.1.ext hx) hbd hp
      have hnb := hall.out.2.2.2.2.1 p hp
      have hn1 : 0 ≤ p.now := hnb.2.1
      have hn2 : p.now ≤ M := hnb.2.2
      clear hup hp hchp h0 hbd hnb hm he ht hL
      by_cases hgt : 16777216 < p.now
      · rw [if_pos hgt] at HUP
        have HRB : Hid (∀ w',Ext wr w' → Calls Tryz.prog 107 #[.pointer (some ⟨x.b,x.d,none⟩),.pointer (some ⟨W2.nb p.id,0,none⟩)] w' fun e w'' => e = .returned (.tuple #[]) ∧ PGo base x W2 l2 (rebU l2 p.id) w' w'') := fun w' hx =>
          rebase_any (hall.out.1.ext hx) hall.out.2.1 hall.out.2.2.1 hall.out.2.2.2.1 (hall.out.2.2.2.2.1.bdd hM) hall.out.2.2.2.2.2.1 HP.out
        go_wp2_with (go_at_call 99; (with_reducible refine (HNOW.out _ ext_by).yields ?_); intro q1)
        (with_reducible refine (HRB.out _ (ext_more _ _)).mono ?_)
        rintro e w3 ⟨rfl,hpg⟩
        obtain ⟨W3,b1,b2,b3,b4,b5,b6⟩ := hpg
        obtain ⟨p3,hp3,e3,e3p,e3t⟩ := reb_mem (l := l2) p.id HP.out
        have c3 := (b1.cells hp3).2.2.2.1
        rw [e3,b5] at c3
        have hpl := b1.nlt hp3
        rw [e3,b5] at hpl
        have HALL : Hid (Pt base x W3 (rebU l2 p.id) w3 ∧ QOk W3 (rebU l2 p.id) ∧ Ids (rebU l2 p.id) ∧ Clo (rebU l2 p.id) ∧ BdM M (rebU l2 p.id) ∧ (rebU l2 p.id).length ≤ 60 ∧ Chain (rebU l2 p.id) q' p3.id ∧ Fr (Own x W l) (Own x W3 (rebU l2 p.id)) z w3 ∧ (W3.v = W.v ∧ W3.nb = W.nb ∧ W3.qb = W.qb)) := by
          obtain ⟨a1,a2,a3,a4,a5,a6,a7,a8,a9⟩ := hall.out
          exact ⟨b1,b2,reb_ids a3 _,reb_clo a4 _,reb_bdM a5 a3 HP.out,by rw [reb_length]; exact a6,by rw [e3]; exact reb_chain _ _ _ HCH.out,(a8.ext (ext_more wr q1)).trans b3,b4.trans a9.1,b5.trans a9.2.1,b6.trans a9.2.2⟩
        have HUP3 : Hid (upR q' (rebU l2 p.id) p3.id = LT) := by rw [e3]; exact HUP.out.symm
        have HP3 := hid hp3
        clear b1 b2 b3 b4 b5 b6 hp3 e3 e3p e3t HRB HNOW HUP hall
        go_wp2
        go_roundg q'
        case measure => omega
        case rel => exact ⟨W3,rebU l2 p.id,p3,q',hid rfl,HP3.out,Nat.le_refl _,HALL,HUP3⟩
      · rw [if_neg hgt] at HUP
        have c3 := (hall.out.1.cells HP.out).2.2.2.1
        have hpl := hall.out.1.nlt HP.out
        have HALL : Hid (∀ w',Ext wr w' → Pt base x W2 l2 w' ∧ QOk W2 l2 ∧ Ids l2 ∧ Clo l2 ∧ BdM M l2 ∧ l2.length ≤ 60 ∧ Chain l2 q' p.id ∧ Fr (Own x W l) (Own x W2 l2) z w' ∧ (W2.v = W.v ∧ W2.nb = W.nb ∧ W2.qb = W.qb)) := fun w' hx => by
          obtain ⟨a1,a2,a3,a4,a5,a6,a7,a8,a9⟩ := hall.out
          exact ⟨a1.ext hx,a2,a3,a4,a5,a6,HCH.out,a8.ext hx,a9⟩
        go_wp2_with (go_at_call 99; (with_reducible refine (HNOW.out _ ext_by).yields ?_); intro q1)
        go_roundg q'
        case measure => omega
        case rel => exact ⟨W2,l2,p,q',hid rfl,HP.out,Nat.le_refl _,HALL.out _ (ext_more _ _),HUP.out.symm⟩
end
end Go.Proofs.YtocicffmajbecaaGreatDoor
namespace Go.Proofs.YtocicffmajbecaaGreatDoor
open Go.RowKit
set_option linter.unusedSimpArgs false
section
variable {base : Nat} {x : Site} {W : Wit} {l : List Nd} {w : World}
def LeafM (x : Site) (b : Nat) (z : World) (a' : Act) (y : World) : Prop :=
  ∃ (u1 u2 u3 u5 u6 u7 u8 u9 u10 u11 u12 u13 u14 u15 u16 u17 u18 u19 u20 u21 u22 u23 u24 u25 u26 u27 u28 u29 u30 u31 u32 u33 u34 u35 u36 u37 u38 u39 u40 u41 u42 u43 u44 u45 u46 u47 u48 u49 u50 u51 u52 u53 u54 u55 u56 u57 u58 u59 u60 u61 u62 u63 : Value),a' = { tmps := #[.pointer (some ⟨x.b,x.d,none⟩),u1,u2,u3,.pointer (some ⟨b,0,none⟩),u5,u6,u7,u8,u9,u10,u11,u12,u13,u14,u15,u16,u17,u18,u19,u20,u21,u22,u23,u24,u25,u26,u27,u28,u29,u30,u31,u32,u33,u34,u35,u36,u37,u38,u39,u40,u41,u42,u43,u44,u45,u46,u47,u48,u49,u50,u51,u52,u53,u54,u55,u56,u57,u58,u59,u60,u61,u62,u63],defers := [] } ∧ y = z
set_option maxRecDepth 100000 in
set_option maxHeartbeats 2000000 in
theorem run_leaf {b : Nat} {z : World} (m2 : z.cell? ⟨b,2,none⟩ = some (.bool true)) (u1 u2 u3 u5 u6 u7 u8 u9 u10 u11 u12 u13 u14 u15 u16 u17 u18 u19 u20 u21 u22 u23 u24 u25 u26 u27 u28 u29 u30 u31 u32 u33 u34 u35 u36 u37 u38 u39 u40 u41 u42 u43 u44 u45 u46 u47 u48 u49 u50 u51 u52 u53 u54 u55 u56 u57 u58 u59 u60 u61 u62 u63 : Value) :
    (bodyAt Tryz.f70 [1,0,1,1,1,0]).wp Tryz.prog (Ends (LeafM x b z)) ({ tmps := #[.pointer (some ⟨x.b,x.d,none⟩),u1,u2,u3,.pointer (some ⟨b,0,none⟩),u5,u6,u7,u8,u9,u10,u11,u12,u13,u14,u15,u16,u17,u18,u19,u20,u21,u22,u23,u24,u25,u26,u27,u28,u29,u30,u31,u32,u33,u34,u35,u36,u37,u38,u39,u40,u41,u42,u43,u44,u45,u46,u47,u48,u49,u50,u51,u52,u53,u54,u55,u56,u57,u58,u59,u60,u61,u62,u63],defers := [] }) z := by
  unfold bodyAt Tryz.f70
  simp only [codeAt]
  go_wp2
  exact ⟨rfl,_,_,_,_,_,_,_,_,_,_,_,_,_,_,_,_,_,_,_,_,_,_,_,_,_,_,_,_,_,_,_,_,_,_,_,_,_,_,_,_,_,_,_,_,_,_,_,_,_,_,_,_,_,_,_,_,_,_,_,_,_,_,rfl,rfl⟩
set_option maxRecDepth 100000 in
set_option maxHeartbeats 4000000 in
theorem run_step {R : Int × List Nd} {F f : Nat} {w0 : World} {NN : Act → World → Prop} {RR : Ending → World → Prop} {W1 : Wit} {lc : List Nd} {n : Nd} {wc : World} (hF : 20000000 + F * 720720 ≤ 1099511627776) (u1 u2 u3 u5 u6 u7 u8 u9 u10 u11 u12 u13 u14 u15 u16 u17 u18 u19 u20 u21 u22 u23 u24 u25 u26 u27 u28 u29 u30 u31 u32 u33 u34 u35 u36 u37 u38 u39 u40 u41 u42 u43 u44 u45 u46 u47 u48 u49 u50 u51 u52 u53 u54 u55 u56 u57 u58 u59 u60 u61 u62 u63 : Value)
    (h : Pt base x W1 lc wc) (hq : QOk W1 lc) (hs : Ids lc) (hc : Clo lc) (ha : Acy lc) (hfF : f + 1 ≤ F) (hb : BdM (20000000 + (F - (f + 1)) * 720720) lc) (hl : lc.length ≤ 60) (hn : n ∈ lc) (hch : ∀ m ∈ lc,Chain lc F m.id) (hfr : Fr (Own x W l) (Own x W1 lc) w0 wc)
    (hw : W1.v = W.v ∧ W1.nb = W.nb ∧ W1.qb = W.qb) (ht : n.thr = false) (hR : runU (f + 1) lc n.id = some R) :
    (bodyAt Tryz.f70 [1,0,1,1,1,0]).wp Tryz.prog (Exit.then NN (Exit.jump 0 (fun a' w' => ∃ f',f' < f + 1 ∧ RunJ base x W l w0 R F f' a' w') (bodyPost Tryz.prog Tryz.f70 RR))) ({ tmps := #[.pointer (some ⟨x.b,x.d,none⟩),u1,u2,u3,.pointer (some ⟨W1.nb n.id,0,none⟩),u5,u6,u7,u8,u9,u10,u11,u12,u13,u14,u15,u16,u17,u18,u19,u20,u21,u22,u23,u24,u25,u26,u27,u28,u29,u30,u31,u32,u33,u34,u35,u36,u37,u38,u39,u40,u41,u42,u43,u44,u45,u46,u47,u48,u49,u50,u51,u52,u53,u54,u55,u56,u57,u58,u59,u60,u61,u62,u63],defers := [] }) wc := by
  cases hbst : bestU lc n.id with
  | none => rw [runU_none hs hn ht hbst] at hR; cases hR
  | some b =>
  rw [runU_on hs hn ht hbst] at hR
  obtain ⟨hbl,hbp,hbr,-⟩ := bestU_spec hs hbst
  have hn0 := (hc n hn).1
  have hne : b.id ≠ n.id := fun e => ha b hbl (by rw [hbp,e])
  have hbdd := hb.bdd (by omega)
  have hbn := hb n hn
  have hbb := hb b hbl
  have how := ofW_bounds b.wt
  obtain ⟨c0,-,c2,-,c4,-⟩ := h.cells hn
  rw [ht] at c2
  have hnl := h.nlt hn
  have HLS := hid (least_any h hq hs hl hn ht hbst)
  have HAH : Hid (∀ w',Ext wc w' → Calls Tryz.prog 105 #[.pointer (some ⟨W1.nb b.id,0,none⟩)] w' (Yields w' (.float .f64 (Fz (b.pass - n.now))))) := fun w' hx => ahead_at (h.ext hx) hbdd hbl hn hbp.symm (by omega)
  have hsm := fun t w => run_complex_sum (P := Tryz.prog) w .add (.inl rfl) t .f64 (Fz n.pass) (Fz n.now) (Fz 0) (Fz (b.pass - n.now)) _ _ (sum_Fz (by omega) (by omega) (by decide) (by omega))
  rw [zero_Fz,Int.add_zero,show n.now + (b.pass - n.now) = b.pass by omega] at hsm
  have HH := hid h
  have HQ := hid hq
  have HS := hid hs
  have HC := hid hc
  have HA := hid ha
  have HB := hid hb
  have HL := hid hl
  have HN := hid hn
  have HCH := hid hch
  have HFR := hid hfr
  have HW := hid hw
  have HR := hid hR
  have HBL := hid hbl
  have HBP := hid hbp
  have HBR := hid hbr
  have HNE := hid hne
  have HN0 := hid hn0
  have HBB := hid (And.intro hbn hbb)
  have HOW := hid how
  have HFF := hid hfF
  have HFM := hid hF
  clear h hq hs hc ha hb hl hn hch hfr hw hR hbl hbp hbr hne hn0 hbn hbb how hbst hbdd ht hF hfF
  unfold bodyAt Tryz.f70
  simp only [codeAt]
  go_wp2_with fail
  (with_reducible refine HLS.out.mono ?_)
  rintro e w1 ⟨rfl,hx1⟩
  have k4 := hx1.cell c4
  go_wp2_with fail
  refine wp_region_T 8 3 (fun u => Ext wc u ∧ True) (by kernel_rfl) (by kernel_rfl) ?_
  have HSS : Ext wc w1.drew ∧ True := ⟨Ext.drew hx1,trivial⟩
  clear k4 c0 c2 HLS hx1
  generalize w1.drew = w2 at *
  refine wpT_tk 0 HSS ?_ (hy := by intro u hu; obtain ⟨hxu,-⟩ := hu; have k4 := hxu.cell c4; go_simp; first | done | (with_reducible rfl)); (try simp only [nrm])
  refine wpT_tk 1 HSS ?_ (hy := by intro u hu; obtain ⟨hxu,-⟩ := hu; have k4 := hxu.cell c4; go_simp; first | done | (with_reducible rfl)); (try simp only [nrm])
  refine wpT_tk 2 HSS ?_ (hy := by intro u hu; obtain ⟨hxu,-⟩ := hu; have k4 := hxu.cell c4; go_simp; first | done | (with_reducible rfl)); (try simp only [nrm])
  refine wpT_tk 3 HSS ?_ (hy := by intro u hu; obtain ⟨hxu,-⟩ := hu; have k4 := hxu.cell c4; go_simp; first | done | (with_reducible rfl)); (try simp only [nrm])
  refine wpT_tk 4 HSS ?_ (hy := by intro u hu; obtain ⟨hxu,-⟩ := hu; have k4 := hxu.cell c4; go_simp; first | done | (with_reducible rfl)); (try simp only [nrm])
  refine wpT_on 5 (fun K' hK => ?_); go_simp
  (with_reducible refine (HAH.out _ HSS.1).mono ?_)
  rintro e w3 ⟨rfl,hx3⟩
  have HSS2 : Ext wc w3 ∧ True := ⟨HSS.1.trans hx3,trivial⟩
  refine hK.out _ _ HSS2 ?_
  clear HSS hK K' hx3
  have HSS := HSS2
  (try simp only [nrm])
  refine wpT_tk 6 HSS ?_; (try simp only [nrm])
  refine wpT_tk 7 HSS ?_; (try simp only [nrm])
  refine wpT_done (by kernel_rfl) ?_
  refine wpAny_tk 8 ?_; (try simp only [nrm])
  refine wpAny_tk 9 ?_; (try simp only [nrm])
  have k4 := HSS.1.cell c4
  have fz3 := (HH.out.ext HSS.1).free HN.out 4
  refine wpAny_on 10 (fun K' hK => ?_); go_simp
  refine hK.out _ _ ?_
  (try simp only [nrm])
  refine wpAny_done (by kernel_rfl) ?_ _
  clear hK K' k4 fz3 hsm HAH
  have H4 := hid ((HH.out.ext HSS.1).setAt HN.out HS.out (nowF b.pass) fun _ => ⟨rfl,rfl,rfl,rfl⟩)
  have HF4 : Hid (Fr (Own x W l) (Own x W1 (upd n.id (nowF b.pass) lc)) w0 (w3.setCell ⟨W1.nb n.id,4,none⟩ (.complex .f64 (Fz n.pass) (Fz b.pass)))) := fr_upd (nowF_same _) ((HFR.out.ext HSS.1).trans (Fr.set (.inr (.inr ⟨n,HN.out,.inl rfl⟩)) 4 _))
  rw [show (nowF b.pass n).pass = n.pass from rfl,show (nowF b.pass n).now = b.pass from rfl] at H4
  clear HSS HSS2 c4 hnl HFR HH
  generalize w3.setCell ⟨W1.nb n.id,4,none⟩ (.complex .f64 (Fz n.pass) (Fz b.pass)) = w4 at *
  have HQ4 : Hid (QOk W1 (upd n.id (nowF b.pass) lc)) := HQ.out.quiet HS.out HN.out _ (nowF_same _) fun _ => ⟨rfl,fun _ => rfl⟩
  have HS4 : Hid (Ids (upd n.id (nowF b.pass) lc)) := ids_upd (fun _ => rfl) HS.out
  have HC4 : Hid (Clo (upd n.id (nowF b.pass) lc)) := HC.out.upd (nowF_same _)
  have hb4 : b ∈ upd n.id (nowF b.pass) lc := mem_upd.2 ⟨b,HBL.out,by rw [if_neg HNE.out]⟩
  have HBD4 : Hid (BdM (20000000 + (F - (f + 1)) * 720720) (upd n.id (nowF b.pass) lc)) := fun m' hm' => by
    obtain ⟨m,hm,rfl⟩ := mem_upd.1 hm'
    have h1 := HB.out m hm
    have h2 := HBB.out.2
    split
    · simp only [nowF]; omega
    · exact h1
  have HL4 : Hid ((upd n.id (nowF b.pass) lc).length ≤ 60) := by unfold Hid; rw [upd_length]; exact HL.out
  have d1 := (H4.out.cells hb4).2.1
  have hbl4 := H4.out.nlt hb4
  have hpc : Hid (∀ w',Ext w4 w' → Calls Tryz.prog 98 #[.pointer (some ⟨W1.nb b.id,0,none⟩)] w' (Yields w' (.int .i64 b.pass))) := fun w' hx => pass_at (H4.out.ext hx) (HBD4.out.bdd (by have := HFM.out; have := HFF.out; omega)) hb4
  have HMV : Hid (∀ w',Ext w4 w' → Calls Tryz.prog 96 #[.pointer (some ⟨W1.nb b.id,0,none⟩),.int .i64 (b.pass + ofW b.wt)] w' fun e w'' => e = .returned (.tuple #[]) ∧ PGo base x W1 (upd n.id (nowF b.pass) lc) (upd b.id (movF (b.pass + ofW b.wt)) (upd n.id (nowF b.pass) lc)) w' w'') := fun w' hx =>
    move_any (H4.out.ext hx) HQ4.out HS4.out HC4.out HL4.out hb4 (by rw [HBP.out]; exact HN0.out) _ (by have := HBB.out; have := HOW.out; omega) (by have := HBB.out; have := HOW.out; have := HFM.out; have := HFF.out; omega)
  have hcg : upd b.id (movF (b.pass + ofW b.wt)) (upd n.id (nowF b.pass) lc) = upd b.id goF (upd n.id (nowF b.pass) lc) := upd_congr fun m hm e => by
    rw [uniqU HS4.out hm hb4 e]; rfl
  rw [hcg] at HMV
  have HB4 := hid hb4
  clear hb4 hcg
  go_wp2_with fail
  refine wp_region_T 8 1 (fun u => Ext w4 u ∧ True) (by kernel_rfl) (by kernel_rfl) ?_
  have HSS : Ext w4 w4.drew ∧ True := ⟨Ext.drew (Ext.refl _),trivial⟩
  generalize w4.drew = w5 at *
  refine wpT_tk 0 HSS ?_ (hy := by intro u hu; obtain ⟨hxu,-⟩ := hu; have k1 := hxu.cell d1; go_simp; first | done | (with_reducible rfl)); (try simp only [nrm])
  refine wpT_tk 1 HSS ?_ (hy := by intro u hu; obtain ⟨hxu,-⟩ := hu; have k1 := hxu.cell d1; go_simp; first | done | (with_reducible rfl)); (try simp only [nrm])
  refine wpT_tk 3 HSS ?_ (hy := by intro u hu; obtain ⟨hxu,-⟩ := hu; have k1 := hxu.cell d1; go_simp; first | done | (with_reducible rfl)); (try simp only [nrm])
  refine wpT_tk 4 HSS ?_ (hy := by intro u hu; obtain ⟨hxu,-⟩ := hu; have k1 := hxu.cell d1; go_simp; first | done | (with_reducible rfl)); (try simp only [nrm])
  refine wpT_tk 5 HSS ?_ (hy := by intro u hu; obtain ⟨hxu,-⟩ := hu; have k1 := hxu.cell d1; go_simp; first | done | (with_reducible rfl)); (try simp only [nrm])
  refine wpT_tk 6 HSS ?_ (hy := by intro u hu; obtain ⟨hxu,-⟩ := hu; have k1 := hxu.cell d1; go_simp; first | done | (with_reducible rfl)); (try simp only [nrm])
  refine wpT_on 2 (fun K' hK => ?_); go_simp
  (with_reducible refine (hpc.out _ HSS.1).mono ?_)
  rintro e w6 ⟨rfl,hx6⟩
  have HSS2 : Ext w4 w6 ∧ True := ⟨HSS.1.trans hx6,trivial⟩
  refine hK.out _ _ HSS2 ?_
  clear HSS hK K' hx6
  have HSS := HSS2
  clear HSS2
  (try simp only [nrm])
  refine wpT_on 7 (fun K' hK => ?_); go_simp
  (with_reducible refine (nextW_any b.pass b.wt (by have := HBB.out; omega) (by have := HBB.out; have := HFM.out; have := HFF.out; omega) _).mono ?_)
  rintro e w7 ⟨rfl,hx7⟩
  have HSS2 : Ext w4 w7 ∧ True := ⟨HSS.1.trans hx7,trivial⟩
  refine hK.out _ _ HSS2 ?_
  clear HSS hK K' hx7
  (try simp only [nrm])
  refine wpT_done (by kernel_rfl) ?_
  refine wpAny_on 8 (fun K' hK => ?_); go_simp
  (with_reducible refine (HMV.out _ HSS2.1).mono ?_)
  rintro e w8 ⟨rfl,hp⟩
  refine hK.out _ _ ?_
  clear hK K'
  (try simp only [nrm])
  refine wpAny_done (by kernel_rfl) ?_ _
  have HJ : Hid (∀ (u1 u2 u3 u5 u6 u7 u8 u9 u10 u11 u12 u13 u14 u15 u16 u17 u18 u19 u20 u21 u22 u23 u24 u25 u26 u27 u28 u29 u30 u31 u32 u33 u34 u35 u36 u37 u38 u39 u40 u41 u42 u43 u44 u45 u46 u47 u48 u49 u50 u51 u52 u53 u54 u55 u56 u57 u58 u59 u60 u61 u62 u63 : Value),RunJ base x W l w0 R F f ({ tmps := #[.pointer (some ⟨x.b,x.d,none⟩),u1,u2,u3,.pointer (some ⟨W1.nb b.id,0,none⟩),u5,u6,u7,u8,u9,u10,u11,u12,u13,u14,u15,u16,u17,u18,u19,u20,u21,u22,u23,u24,u25,u26,u27,u28,u29,u30,u31,u32,u33,u34,u35,u36,u37,u38,u39,u40,u41,u42,u43,u44,u45,u46,u47,u48,u49,u50,u51,u52,u53,u54,u55,u56,u57,u58,u59,u60,u61,u62,u63],defers := [] }) w8) := by
    intro u1 u2 u3 u5 u6 u7 u8 u9 u10 u11 u12 u13 u14 u15 u16 u17 u18 u19 u20 u21 u22 u23 u24 u25 u26 u27 u28 u29 u30 u31 u32 u33 u34 u35 u36 u37 u38 u39 u40 u41 u42 u43 u44 u45 u46 u47 u48 u49 u50 u51 u52 u53 u54 u55 u56 u57 u58 u59 u60 u61 u62 u63
    obtain ⟨W2,a1,a2,a3,a4,a5,a6⟩ := hp
    refine ⟨W2,upd b.id goF (upd n.id (nowF b.pass) lc),goF b,_,_,_,_,_,_,_,_,_,_,_,_,_,_,_,_,_,_,_,_,_,_,_,_,_,_,_,_,_,_,_,_,_,_,_,_,_,_,_,_,_,_,_,_,_,_,_,_,_,_,_,_,_,_,_,_,_,_,_,_,_,_,by rw [show (goF b).id = b.id from rfl,a5],a1,a2,ids_upd (fun _ => rfl) HS4.out,HC4.out.upd goF_same,(HA.out.upd (nowF_same _)).upd goF_same,by have := HFF.out; omega,?_,by rw [upd_length]; exact HL4.out,mem_upd.2 ⟨b,HB4.out,by rw [if_pos rfl]⟩,?_,(HF4.out.trans (.of_ext HSS2.1)).trans a3,⟨a4.trans HW.out.1,a5.trans HW.out.2.1,a6.trans HW.out.2.2⟩,HR.out⟩
    · intro m' hm'
      obtain ⟨m,hm,rfl⟩ := mem_upd.1 hm'
      have h1 := HBD4.out m hm
      have h3 := ofW_bounds m.wt
      have h4 := HFF.out
      split
      · simp only [goF]; omega
      · omega
    · intro m' hm'
      obtain ⟨m1,hm1,rfl⟩ := mem_upd.1 hm'
      obtain ⟨m,hm,rfl⟩ := mem_upd.1 hm1
      have hi : (if (if m.id = n.id then nowF b.pass m else m).id = b.id then goF (if m.id = n.id then nowF b.pass m else m) else (if m.id = n.id then nowF b.pass m else m)).id = m.id := by split <;> split <;> rfl
      rw [hi]
      exact Chain.upd goF_same _ _ (Chain.upd (nowF_same _) _ _ (HCH.out m hm))
  clear hp HMV hpc d1 hbl4 HSS2
  go_wp2
  refine Go.wp_goto ?_
  exact ⟨rfl,f,Nat.lt_succ_self f,by apply HJ.out⟩
end
end Go.Proofs.YtocicffmajbecaaGreatDoor
namespace Go.Proofs.YtocicffmajbecaaGreatDoor
open Go.RowKit
set_option linter.unusedSimpArgs false
theorem upR_has : ∀ {l : List Nd} (f : Nat) (id : Int) {n : Nd},n ∈ l → ∃ m ∈ upR f l id,m.id = n.id
  | l,0,id,n,h => ⟨n,h,rfl⟩
  | l,f + 1,id,n,h => by
    simp only [upR]
    split
    · exact ⟨n,h,rfl⟩
    · rename_i k _
      split
      · exact ⟨n,h,rfl⟩
      · split
        · obtain ⟨m,hm,e,-⟩ := reb_mem (l := l) k.par h
          obtain ⟨m2,hm2,e2⟩ := upR_has f k.par hm
          exact ⟨m2,hm2,e2.trans e⟩
        · exact upR_has f k.par h
section
variable {base : Nat} {x : Site} {W : Wit} {l : List Nd} {w : World}
set_option maxRecDepth 100000 in
set_option maxHeartbeats 4000000 in
theorem runP_none (h : TOk base x W l w) {r : Nd} (hr : r ∈ l) (hr0 : r.id = 0) (hrd : r.rdy = false) :
    Calls Tryz.prog 70 #[.pointer (some ⟨x.b,x.d,none⟩)] w (Yields w (.tuple #[.int .i64 0,.bool false])) := by
  have hl1 : l.length ≤ 1000 := by have := h.len; omega
  have HFP : Hid (∀ w',Ext w w' → Calls Tryz.prog 79 #[.pointer (some ⟨x.b,x.d,none⟩),.int .i64 0] w' (Yields w' (.pointer (some ⟨W.nb r.id,0,none⟩)))) := fun w' hx => by rw [← hr0]; exact find_yes (h.pt.ext hx) h.ids hl1 hr
  have HRD : Hid (∀ w',Ext w w' → Calls Tryz.prog 103 #[.pointer (some ⟨W.nb r.id,0,none⟩)] w' (Yields w' (.bool false))) := fun w' hx => by rw [← hrd]; exact ready_all (h.pt.ext hx) h.qok h.ids h.clo h.rt h.len hr
  clear h hl1 hr hr0 hrd
  generalize W.nb r.id = b at *
  go_enter Tryz.func70,Tryz.ntmps70
  go_wp2_with fail
  refine wp_upm 0 (fun _ _ _ => False) rfl (fun _ _ _ h => h.elim) fun D hD => ?_
  clear hD
  go_wp2_with (first | (go_at_call 79; (with_reducible refine (HFP.out _ ext_by).yields ?_); intro q1) | (go_at_call 103; (with_reducible refine (HRD.out _ ext_by).yields ?_); intro q2))
  simp only [Exit.jump]
  exact bodyPost_ret (v := .tuple #[.int .i64 0,.bool false]) (by simp [results,Tryz.results70,go_sem]) rfl ⟨rfl,ext_by⟩
set_option maxRecDepth 100000 in
set_option maxHeartbeats 4000000 in
theorem runP_any (h : TOk base x W l w) (ha : Acy l) (hb : BdM 20000000 l) {F : Nat} (hF : 20000000 + F * 720720 ≤ 1099511627776) (hch : ∀ m ∈ l,Chain l F m.id) {r : Nd} (hr : r ∈ l) (hr0 : r.id = 0) (hrd : r.rdy = true) {R : Int × List Nd} (hR : runU F l 0 = some R) :
    Calls Tryz.prog 70 #[.pointer (some ⟨x.b,x.d,none⟩)] w fun e w' => e = .returned (.tuple #[.int .i64 R.1,.bool true]) ∧ PGo base x W l (upR F R.2 R.1) w w' := by
  have hl1 : l.length ≤ 1000 := by have := h.len; omega
  have HFP : Hid (∀ w',Ext w w' → Calls Tryz.prog 79 #[.pointer (some ⟨x.b,x.d,none⟩),.int .i64 0] w' (Yields w' (.pointer (some ⟨W.nb r.id,0,none⟩)))) := fun w' hx => by rw [← hr0]; exact find_yes (h.pt.ext hx) h.ids hl1 hr
  have HRD : Hid (∀ w',Ext w w' → Calls Tryz.prog 103 #[.pointer (some ⟨W.nb r.id,0,none⟩)] w' (Yields w' (.bool true))) := fun w' hx => by rw [← hrd]; exact ready_all (h.pt.ext hx) h.qok h.ids h.clo h.rt h.len hr
  have HJ : Hid (∀ w',Ext w w' → ∀ (u1 u2 u3 u5 u6 u7 u8 u9 u10 u11 u12 u13 u14 u15 u16 u17 u18 u19 u20 u21 u22 u23 u24 u25 u26 u27 u28 u29 u30 u31 u32 u33 u34 u35 u36 u37 u38 u39 u40 u41 u42 u43 u44 u45 u46 u47 u48 u49 u50 u51 u52 u53 u54 u55 u56 u57 u58 u59 u60 u61 u62 u63 : Value),RunJ base x W l w R F F ({ tmps := #[.pointer (some ⟨x.b,x.d,none⟩),u1,u2,u3,.pointer (some ⟨W.nb r.id,0,none⟩),u5,u6,u7,u8,u9,u10,u11,u12,u13,u14,u15,u16,u17,u18,u19,u20,u21,u22,u23,u24,u25,u26,u27,u28,u29,u30,u31,u32,u33,u34,u35,u36,u37,u38,u39,u40,u41,u42,u43,u44,u45,u46,u47,u48,u49,u50,u51,u52,u53,u54,u55,u56,u57,u58,u59,u60,u61,u62,u63],defers := [] }) w') := fun w' hx u1 u2 u3 u5 u6 u7 u8 u9 u10 u11 u12 u13 u14 u15 u16 u17 u18 u19 u20 u21 u22 u23 u24 u25 u26 u27 u28 u29 u30 u31 u32 u33 u34 u35 u36 u37 u38 u39 u40 u41 u42 u43 u44 u45 u46 u47 u48 u49 u50 u51 u52 u53 u54 u55 u56 u57 u58 u59 u60 u61 u62 u63 =>
    ⟨W,l,r,_,_,_,_,_,_,_,_,_,_,_,_,_,_,_,_,_,_,_,_,_,_,_,_,_,_,_,_,_,_,_,_,_,_,_,_,_,_,_,_,_,_,_,_,_,_,_,_,_,_,_,_,_,_,_,_,_,_,_,_,_,_,rfl,h.pt.ext hx,h.qok,h.ids,h.clo,ha,Nat.le_refl _,hb.mono (by omega),h.len,hr,hch,.of_ext hx,⟨rfl,rfl,rfl⟩,by unfold Hid; rw [hr0]; exact hR⟩
  clear h hl1 hr hr0 hrd ha hb hch hR
  go_enter Tryz.func70,Tryz.ntmps70
  go_wp2_with fail
  refine wp_upm 0 (RunJ base x W l w R F) rfl ?_ ?_
  · clear HFP HRD HJ
    refine fun f a wc => ex_elim fun W1 => ex_elim fun lc => ex_elim fun n => ex8 fun u1 u2 u3 u5 u6 u7 u8 u9 => ex8 fun u10 u11 u12 u13 u14 u15 u16 u17 => ex8 fun u18 u19 u20 u21 u22 u23 u24 u25 => ex8 fun u26 u27 u28 u29 u30 u31 u32 u33 => ex8 fun u34 u35 u36 u37 u38 u39 u40 u41 => ex8 fun u42 u43 u44 u45 u46 u47 u48 u49 => ex8 fun u50 u51 u52 u53 u54 u55 u56 u57 => ex4 fun u58 u59 u60 u61 => ex2 fun u62 u63 => ?_
    rintro ⟨rfl,h,hq,hs,hc,ha,hfF,hb,hl,hn,hch,hfr,hw,hR⟩
    have hR := hR.out
    obtain ⟨f,rfl⟩ : ∃ f',f = f' + 1 := by
      cases f with
      | zero => cases hR
      | succ f => exact ⟨f,rfl⟩
    cases ht : n.thr with
    | false => exact wp_seq (run_step hF _ _ _ _ _ _ _ _ _ _ _ _ _ _ _ _ _ _ _ _ _ _ _ _ _ _ _ _ _ _ _ _ _ _ _ _ _ _ _ _ _ _ _ _ _ _ _ _ _ _ _ _ _ _ _ _ _ _ _ _ _ _ h hq hs hc ha hfF hb hl hn hch hfr hw ht hR)
    | true =>
      rw [runU_thr hs hn ht] at hR
      obtain rfl := Option.some.inj hR
      have m2 := (h.cells hn).2.2.1
      rw [ht] at m2
      refine wp_seq (wp_meet (LeafM x (W1.nb n.id) wc) (run_leaf m2 _ _ _ _ _ _ _ _ _ _ _ _ _ _ _ _ _ _ _ _ _ _ _ _ _ _ _ _ _ _ _ _ _ _ _ _ _ _ _ _ _ _ _ _ _ _ _ _ _ _ _ _ _ _ _ _ _ _ _ _ _ _) ?_)
      refine fun a w2 => ex8 fun u1 u2 u3 u5 u6 u7 u8 u9 => ex8 fun u10 u11 u12 u13 u14 u15 u16 u17 => ex8 fun u18 u19 u20 u21 u22 u23 u24 u25 => ex8 fun u26 u27 u28 u29 u30 u31 u32 u33 => ex8 fun u34 u35 u36 u37 u38 u39 u40 u41 => ex8 fun u42 u43 u44 u45 u46 u47 u48 u49 => ex8 fun u50 u51 u52 u53 u54 u55 u56 u57 => ex4 fun u58 u59 u60 u61 => ex2 fun u62 u63 => ?_
      rintro ⟨rfl,rfl⟩
      have hup := run_up h hq hs hc hb (by omega) hl hn F (hch n hn)
      refine wp_seq (wp_meet (UpM base x (W1.nb n.id) W1 lc (upR F lc n.id) w2) (hup _ _ _ _ _ _ _ _ _ _ _ _ _ _ _ _ _ _ _ _ _ _ _ _ _ _ _ _ _ _ _ _ _ _ _ _ _ _ _ _ _ _ _ _ _ _ _ _ _ _ _ _ _ _ _ _ _ _ _ _ _ _) ?_)
      refine fun a w3 => ex8 fun u1 u2 u3 u5 u6 u7 u8 u9 => ex8 fun u10 u11 u12 u13 u14 u15 u16 u17 => ex8 fun u18 u19 u20 u21 u22 u23 u24 u25 => ex8 fun u26 u27 u28 u29 u30 u31 u32 u33 => ex8 fun u34 u35 u36 u37 u38 u39 u40 u41 => ex8 fun u42 u43 u44 u45 u46 u47 u48 u49 => ex8 fun u50 u51 u52 u53 u54 u55 u56 u57 => ex4 fun u58 u59 u60 u61 => ex2 fun u62 u63 => ?_
      rintro ⟨rfl,W3,b1,b2,b3,b4,b5,b6⟩
      have HE : Hid (PGo base x W l (upR F lc n.id) w w3) := ⟨W3,b1,b2,hfr.trans b3,b4.trans hw.1,b5.trans hw.2.1,b6.trans hw.2.2⟩
      obtain ⟨m,hm,em⟩ := upR_has F n.id hn
      have c0 := (b1.cells hm).1
      rw [em,b5] at c0
      have hgl := b1.nlt hm
      rw [em,b5] at hgl
      clear h hq hs hc ha hfF hb hl hn hch hfr hw ht m2 hup b1 b2 b3 b4 b5 b6 hm em
      go_wp2
      simp only [Exit.jump]
      exact bodyPost_ret (v := .tuple #[.int .i64 n.id,.bool true]) (by simp [results,Tryz.results70,go_sem]) rfl ⟨rfl,HE.out⟩
  · intro D hD
    have HD := hid hD
    clear hD
    have hbl : True := trivial
    generalize W.nb r.id = b at *
    go_wp2_with (first | (go_at_call 79; (with_reducible refine (HFP.out _ ext_by).yields ?_); intro q1) | (go_at_call 103; (with_reducible refine (HRD.out _ ext_by).yields ?_); intro q2))
    exact HD.out _ _ ⟨F,by apply HJ.out; exact ext_by⟩
end
end Go.Proofs.YtocicffmajbecaaGreatDoor
namespace Go.Proofs.YtocicffmajbecaaGreatDoor
open Go.RowKit
set_option linter.unusedSimpArgs false
theorem upd_upd {id : Int} {f g : Nd → Nd} {l : List Nd} (hf : ∀ n,(f n).id = n.id) : upd id g (upd id f l) = upd id (fun n => g (f n)) l := by
  unfold upd
  rw [List.map_map]
  refine List.map_congr_left fun n _ => ?_
  simp only [Function.comp]
  by_cases e : n.id = id
  · rw [if_pos e,if_pos (by rw [hf]; exact e),if_pos e]
  · rw [if_neg e,if_neg e,if_neg e]
def wsF (wt : Int) (n : Nd) : Nd := { n with wt := wt }
theorem wsF_same (p : Int) : ∀ n,(wsF p n).id = n.id ∧ (wsF p n).par = n.par ∧ (wsF p n).thr = n.thr := fun _ => ⟨rfl,rfl,rfl⟩
section
variable {base : Nat} {x : Site} {W : Wit} {l : List Nd} {w : World}
set_option maxRecDepth 100000 in
set_option maxHeartbeats 2000000 in
theorem weightP_10 (h : TOk base x W l w) (id wt : Int) (hw : isW wt = false) :
    Calls Tryz.prog 65 #[.pointer (some ⟨x.b,x.d,none⟩),.int .i64 id,.int .i64 wt] w (Yields w (errV 10)) := by
  have hl1 : l.length ≤ 1000 := by have := h.len; omega
  have HFP : Hid (∀ w',Ext w w' → Calls Tryz.prog 79 #[.pointer (some ⟨x.b,x.d,none⟩),.int .i64 id] w' (Yields w' (nodP W l id))) := fun w' hx => find_at (h.pt.ext hx) h.ids hl1 _
  have HW := hid hw
  rw [errV_pos (by decide)]
  clear h hl1 hw
  generalize nodP W l id = P at *
  go_enter Tryz.func65,Tryz.ntmps65
  go_wp2_with (first | (go_at_call 79; (with_reducible refine (HFP.out _ ext_by).yields ?_); intro q1) | (go_at_call 77; (with_reducible refine (isW_to HW.out _).yields ?_); intro q2))
  go_returns
  exact ⟨rfl,ext_by⟩
set_option maxRecDepth 100000 in
set_option maxHeartbeats 2000000 in
theorem weightP_13 (h : TOk base x W l w) (id wt : Int) (hw : isW wt = true) (hk : ∀ n,getU l id = some n → n.par < 0) :
    Calls Tryz.prog 65 #[.pointer (some ⟨x.b,x.d,none⟩),.int .i64 id,.int .i64 wt] w (Yields w (errV 13)) := by
  have hl1 : l.length ≤ 1000 := by have := h.len; omega
  have HFP : Hid (∀ w',Ext w w' → Calls Tryz.prog 79 #[.pointer (some ⟨x.b,x.d,none⟩),.int .i64 id] w' (Yields w' (nodP W l id))) := fun w' hx => find_at (h.pt.ext hx) h.ids hl1 _
  have HW := hid hw
  rw [errV_pos (by decide)]
  cases hg : getU l id with
  | none =>
    have HP : Hid (nodP W l id = .pointer none) := if_neg (by simp [hasU,hg])
    rw [HP.out] at HFP
    clear h hl1 hk hg HP hw
    go_enter Tryz.func65,Tryz.ntmps65
    go_wp2_with (first | (go_at_call 79; (with_reducible refine (HFP.out _ ext_by).yields ?_); intro q1) | (go_at_call 77; (with_reducible refine (isW_to HW.out _).yields ?_); intro q2))
    go_returns
    exact ⟨rfl,ext_by⟩
  | some n =>
    have h0 := hk n hg
    obtain ⟨hn,rfl⟩ := getU_mem hg
    have HP : Hid (nodP W l n.id = .pointer (some ⟨W.nb n.id,0,none⟩)) := if_pos (hasU_iff.2 ⟨n,hn,rfl⟩)
    rw [HP.out] at HFP
    have m3 := (h.pt.cells hn).2.2.2.1
    rw [grp_top h0] at m3
    have hpl := h.pt.nlt hn
    clear h hl1 hk hg HP hn h0 hw
    go_enter Tryz.func65,Tryz.ntmps65
    go_wp2_with (first | (go_at_call 79; (with_reducible refine (HFP.out _ ext_by).yields ?_); intro q1) | (go_at_call 77; (with_reducible refine (isW_to HW.out _).yields ?_); intro q2))
    go_returns
    exact ⟨rfl,ext_by⟩
set_option maxRecDepth 100000 in
set_option maxHeartbeats 4000000 in
theorem weightP_any (h : TOk base x W l w) (wt : Int) (hw : isW wt = true) {n p : Nd} (hn : n ∈ l) (h0 : 0 ≤ n.par) (hp : p ∈ l) (he : p.id = n.par) (hnw : isW n.wt = true) (hsc : 0 ≤ scaleW n.pass p.now n.wt wt ∧ scaleW n.pass p.now n.wt wt ≤ 1099511627776) :
    Calls Tryz.prog 65 #[.pointer (some ⟨x.b,x.d,none⟩),.int .i64 n.id,.int .i64 wt] w fun e w' => e = .returned .nilIface ∧ PGo base x W l (upd n.id (wtF p.now wt) l) w w' := by
  have hl1 : l.length ≤ 1000 := by have := h.len; omega
  have HFP : Hid (∀ w',Ext w w' → Calls Tryz.prog 79 #[.pointer (some ⟨x.b,x.d,none⟩),.int .i64 n.id] w' (Yields w' (.pointer (some ⟨W.nb n.id,0,none⟩)))) := fun w' hx => find_yes (h.pt.ext hx) h.ids hl1 hn
  have HW := hid hw
  obtain ⟨-,m1,-,m3,-,-⟩ := h.pt.cells hn
  rw [grp_up (by omega),← he] at m3
  have hpl := h.pt.nlt hn
  have hbn := h.bdd n hn
  have hbp := h.bdd p hp
  have HPC : Hid (∀ w',Ext w w' → Calls Tryz.prog 98 #[.pointer (some ⟨W.nb n.id,0,none⟩)] w' (Yields w' (.int .i64 n.pass))) := fun w' hx => pass_at (h.pt.ext hx) h.bdd hn
  have HNC : Hid (∀ w',Ext w w' → Calls Tryz.prog 99 #[.pointer (some ⟨W.nb p.id,0,none⟩)] w' (Yields w' (.int .i64 p.now))) := fun w' hx => now_at (h.pt.ext hx) h.bdd hp
  have HSC : Hid (∀ w',Calls Tryz.prog 97 #[.int .i64 n.pass,.int .i64 p.now,.int .i64 n.wt,.int .i64 wt] w' (Yields w' (.int .i64 (scaleW n.pass p.now n.wt wt)))) := fun w' => scaleW_any _ _ _ _ hnw (by omega) (by omega) (by omega) (by omega) w'
  have HMV : Hid (∀ w',Ext w w' → Calls Tryz.prog 96 #[.pointer (some ⟨W.nb n.id,0,none⟩),.int .i64 (scaleW n.pass p.now n.wt wt)] w' fun e w'' => e = .returned (.tuple #[]) ∧ PGo base x W l (upd n.id (movF (scaleW n.pass p.now n.wt wt)) l) w' w'') := fun w' hx => move_any (h.pt.ext hx) h.qok h.ids h.clo h.len hn h0 _ hsc.1 hsc.2
  have hfin : upd n.id (wsF wt) (upd n.id (movF (scaleW n.pass p.now n.wt wt)) l) = upd n.id (wtF p.now wt) l := by
    rw [upd_upd (f := movF (scaleW n.pass p.now n.wt wt)) (fun _ => rfl)]
    exact upd_congr fun m hm e => by rw [uniqU h.ids hm hn e]; rfl
  have HFIN := hid hfin
  have HIDS : Hid (Ids (upd n.id (movF (scaleW n.pass p.now n.wt wt)) l)) := ids_upd (fun _ => rfl) h.ids
  have HN2 : Hid (movF (scaleW n.pass p.now n.wt wt) n ∈ upd n.id (movF (scaleW n.pass p.now n.wt wt)) l) := mem_upd.2 ⟨n,hn,by rw [if_pos rfl]⟩
  clear h hl1 hn hp he hnw hsc hbn hbp hw h0 hfin
  generalize scaleW n.pass p.now n.wt wt = sc at *
  go_enter Tryz.func65,Tryz.ntmps65
  go_wp2_with (first | (go_at_call 79; (with_reducible refine (HFP.out _ ext_by).yields ?_); intro q1) | (go_at_call 77; (with_reducible refine (isW_to HW.out _).yields ?_); intro q2))
  generalize q1.then q2 = qq at *
  refine wp_region_T 14 1 (fun u => Ext w u ∧ True) (by kernel_rfl) (by kernel_rfl) ?_
  have HSS : Ext w (more w qq).drew ∧ True := ⟨Ext.drew (ext_more w qq),trivial⟩
  generalize (more w qq).drew = w2 at *
  refine wpT_tk 0 HSS ?_ (hy := by intro u hu; obtain ⟨hxu,-⟩ := hu; have k1 := hxu.cell m1; have k3 := hxu.cell m3; go_simp; first | done | (with_reducible rfl)); (try simp only [nrm])
  refine wpT_tk 1 HSS ?_ (hy := by intro u hu; obtain ⟨hxu,-⟩ := hu; have k1 := hxu.cell m1; have k3 := hxu.cell m3; go_simp; first | done | (with_reducible rfl)); (try simp only [nrm])
  refine wpT_tk 3 HSS ?_ (hy := by intro u hu; obtain ⟨hxu,-⟩ := hu; have k1 := hxu.cell m1; have k3 := hxu.cell m3; go_simp; first | done | (with_reducible rfl)); (try simp only [nrm])
  refine wpT_tk 4 HSS ?_ (hy := by intro u hu; obtain ⟨hxu,-⟩ := hu; have k1 := hxu.cell m1; have k3 := hxu.cell m3; go_simp; first | done | (with_reducible rfl)); (try simp only [nrm])
  refine wpT_tk 5 HSS ?_ (hy := by intro u hu; obtain ⟨hxu,-⟩ := hu; have k1 := hxu.cell m1; have k3 := hxu.cell m3; go_simp; first | done | (with_reducible rfl)); (try simp only [nrm])
  refine wpT_tk 6 HSS ?_ (hy := by intro u hu; obtain ⟨hxu,-⟩ := hu; have k1 := hxu.cell m1; have k3 := hxu.cell m3; go_simp; first | done | (with_reducible rfl)); (try simp only [nrm])
  refine wpT_tk 8 HSS ?_ (hy := by intro u hu; obtain ⟨hxu,-⟩ := hu; have k1 := hxu.cell m1; have k3 := hxu.cell m3; go_simp; first | done | (with_reducible rfl)); (try simp only [nrm])
  refine wpT_tk 9 HSS ?_ (hy := by intro u hu; obtain ⟨hxu,-⟩ := hu; have k1 := hxu.cell m1; have k3 := hxu.cell m3; go_simp; first | done | (with_reducible rfl)); (try simp only [nrm])
  refine wpT_tk 10 HSS ?_ (hy := by intro u hu; obtain ⟨hxu,-⟩ := hu; have k1 := hxu.cell m1; have k3 := hxu.cell m3; go_simp; first | done | (with_reducible rfl)); (try simp only [nrm])
  refine wpT_tk 11 HSS ?_ (hy := by intro u hu; obtain ⟨hxu,-⟩ := hu; have k1 := hxu.cell m1; have k3 := hxu.cell m3; go_simp; first | done | (with_reducible rfl)); (try simp only [nrm])
  refine wpT_tk 12 HSS ?_ (hy := by intro u hu; obtain ⟨hxu,-⟩ := hu; have k1 := hxu.cell m1; have k3 := hxu.cell m3; go_simp; first | done | (with_reducible rfl)); (try simp only [nrm])
  refine wpT_on 2 (fun K' hK => ?_); go_simp
  (with_reducible refine (HPC.out _ HSS.1).mono ?_)
  rintro e w3 ⟨rfl,hx3⟩
  have HSS2 : Ext w w3 ∧ True := ⟨HSS.1.trans hx3,trivial⟩
  refine hK.out _ _ HSS2 ?_
  clear HSS hK K' hx3
  have HSS := HSS2
  clear HSS2
  (try simp only [nrm])
  refine wpT_on 7 (fun K' hK => ?_); go_simp
  (with_reducible refine (HNC.out _ HSS.1).mono ?_)
  rintro e w4 ⟨rfl,hx4⟩
  have HSS2 : Ext w w4 ∧ True := ⟨HSS.1.trans hx4,trivial⟩
  refine hK.out _ _ HSS2 ?_
  clear HSS hK K' hx4
  have HSS := HSS2
  clear HSS2
  (try simp only [nrm])
  refine wpT_on 13 (fun K' hK => ?_); go_simp
  (with_reducible refine (HSC.out _).mono ?_)
  rintro e w5 ⟨rfl,hx5⟩
  have HSS2 : Ext w w5 ∧ True := ⟨HSS.1.trans hx5,trivial⟩
  refine hK.out _ _ HSS2 ?_
  clear HSS hK K' hx5
  (try simp only [nrm])
  refine wpT_done (by kernel_rfl) ?_
  refine wpAny_on 14 (fun K' hK => ?_); go_simp
  (with_reducible refine (HMV.out _ HSS2.1).mono ?_)
  rintro e w6 ⟨rfl,W2,a1,a2,a3,a4,a5,a6⟩
  refine hK.out _ _ ?_
  clear hK K'
  (try simp only [nrm])
  refine wpAny_done (by kernel_rfl) ?_ _
  have k1 : w6.cell? ⟨W.nb n.id,1,none⟩ = some (.int .i64 n.wt) := by rw [← a5]; exact (a1.cells HN2.out).2.1
  have fz : w6.frozen? ⟨W.nb n.id,1,none⟩ = false := by rw [← a5]; exact a1.free HN2.out 1
  have H7 := a1.setWt HN2.out HIDS.out (wsF wt) fun _ => ⟨rfl,rfl,rfl,rfl,rfl⟩
  have HG : Hid (PGo base x W l (upd n.id (wtF p.now wt) l) w (w6.setCell ⟨W.nb n.id,1,none⟩ (.int .i64 wt))) := by
    have e1 : (movF sc n).id = n.id := rfl
    rw [e1,HFIN.out,a5] at H7
    refine ⟨W2,H7,?_,?_,a4,a5,a6⟩
    · rw [← HFIN.out]
      exact a2.quiet HIDS.out HN2.out (wsF wt) (wsF_same _) fun _ => ⟨rfl,fun _ => rfl⟩
    · rw [← HFIN.out]
      refine fr_upd (wsF_same _) ((Fr.trans (.of_ext HSS2.1) a3).trans (Fr.set ?_ 1 _))
      exact .inr (.inr ⟨_,HN2.out,.inl (by rw [a5]; rfl)⟩)
  clear H7 a1 a2 a3 HSS2 HPC HNC HSC HMV
  go_wp2
  go_returns
  exact ⟨rfl,HG.out⟩
end
end Go.Proofs.YtocicffmajbecaaGreatDoor
namespace Go.Proofs.YtocicffmajbecaaGreatDoor
open Go.RowKit
set_option linter.unusedSimpArgs false
theorem clear_oneP (w : World) (ty : TypeId) (g o c : Nat) (hc : (w.cell? ⟨g,o,none⟩).isSome = true) (hf : w.frozen? ⟨g,o,none⟩ = false) :
    (Builtin.clear_ #[67] ty #[.slice (some ⟨g,o,none⟩) 1 c]).run Tryz.prog w = .ok (.tuple #[]) (w.setCells g o [.pointer none]) := by
  have hzv : ∀ w,(zeroValue 119).run Tryz.prog w = .ok (.pointer none) w := Tryz.zeroValue119
  have hst := run_storeCells_cells (P := Tryz.prog) g o [.pointer none] 0 w (by simpa using hc) (by simpa using hf) (by simp; rfl)
  simp only [Nat.add_zero] at hst
  have hzc : (Builtin.zeroCells (Value.pointer none).cells 1).toList = [.pointer none] := by
    have hc : (Value.pointer none).cells = #[.pointer none] := by simp [Value.cells]
    rw [hc]
    simp [Builtin.zeroCells]
  simp [Builtin.clear_,run_underlying Tryz.underlying67,hzv,hzc,hst]
set_option maxRecDepth 100000 in
set_option maxHeartbeats 4000000 in
theorem deleteP_any (base g cap i k : Nat) (xs : List Value) (hlen : xs.length = i + k + 1) (hl : xs.length ≤ 1000) (hone : ∀ u ∈ xs,u.oneCell' = true) (w : World) (h : w.ownsRow base 119 1 (.slice (some ⟨g,0,none⟩) (i + k + 1) cap) (i + k + 1) xs) :
    Calls Tryz.prog 89 #[.slice (some ⟨g,0,none⟩) (i + k + 1) cap,.int .i64 i,.int .i64 ((i : Int) + 1)] w fun e w' => e = .returned (.slice (some ⟨g,0,none⟩) (i + k) cap) ∧
      w'.ownsRow base 119 1 (.slice (some ⟨g,0,none⟩) (i + k) cap) (i + k) (xs.eraseIdx i) ∧ w.grownBy w' (some g) := by
  obtain ⟨hgb,-,hc1,hc2,cur,e3,e6,hcur⟩ := own_block h
  have hgl := lt_blk e3
  have hc2' := hc2
  unfold maxLen at hc2
  have HONE := hid hone
  have HL := hid hlen
  have hik : i + k + 1 ≤ cap := by omega
  have hik2 : i + k + 1 ≤ 1000 := by omega
  have i1 : (i : Int) ≤ (i : Int) + 1 := by omega
  have i2 : (i : Int) + 1 ≤ (i : Int) + k + 1 := by omega
  have i3 : (i : Int) + k + 1 ≤ (cap : Int) := by omega
  have i4 : ((i : Int) == (i : Int) + 1) = false := by rw [beq_eq_false_iff_ne]; omega
  have i5 : (0 : Int) ≤ (i : Int) + 1 := by omega
  have HC2 := hid hc2'
  clear h hlen hl hc1 hone hc2'
  go_enter Tryz.func89,Tryz.ntmps89
  go_wp2_with fail
  obtain ⟨i0,hi,hz0,hz1,hz2⟩ := info_parts infoPp
  have hin := hid (show Tryz.prog.info? 119 = some i0 from hi)
  have hin1 := hid (show i0.size = 1 from hz1)
  clear hi hz0 hz1 hz2
  have hic : i ≤ cap := by omega
  obtain ⟨news,hnews⟩ : ∃ news,news = xs.drop (i + 1) := ⟨_,rfl⟩
  have hnl : news.length = k := by rw [hnews,List.length_drop,HL.out]; omega
  have hget : ∀ j,j < k → news[j]? = xs[i + 1 + j]? := fun j hj => by rw [hnews,List.getElem?_drop]
  obtain ⟨A,hA,hsrc⟩ : ∃ A : Addr,(if cap = i + 1 then some (⟨g,0,none⟩ : Addr) else some ⟨g,i + 1,none⟩) = some A ∧ Hid (∀ j u,news[j]? = some u → w.drew.cell? (A.add j) = some u) := by
    by_cases hce : cap = i + 1
    · refine ⟨⟨g,0,none⟩,by simp [hce],fun j u hu => ?_⟩
      have := (List.getElem?_eq_some_iff.1 hu).1
      omega
    · refine ⟨⟨g,i + 1,none⟩,by simp [hce],fun j u hu => ?_⟩
      have hj := (List.getElem?_eq_some_iff.1 hu).1
      rw [add_add]
      show w.cell? _ = _
      rw [cell_of_row _ _ _ _ _ (0,0) e3,hcur _ (by omega),← hget j (by omega)]
      exact hu
  have s1 : Hid (news.length = k * 1) := by unfold Hid; omega
  have s2 : Hid (∀ u ∈ news,u.oneCell' = true) := fun u hu => HONE.out u (by rw [hnews] at hu; exact List.mem_of_mem_drop hu)
  have s3 : Hid (∀ j,j < news.length → (w.drew.cell? ⟨g,0 + i * 1 + j,none⟩).isSome = true ∧ w.drew.frozen? ⟨g,0 + i * 1 + j,none⟩ = false) := fun j hj => by
    refine ⟨?_,show w.frozen? _ = false by simp [World.frozen?,e3]⟩
    show (w.cell? _).isSome = true
    rw [cell_of_row _ _ _ _ _ (0,0) e3,Array.getElem?_eq_getElem (by omega)]
    rfl
  obtain ⟨W1,hW1⟩ : ∃ W1,W1 = w.drew.setCells g (0 + i * 1) news := ⟨_,rfl⟩
  obtain ⟨hg1,cur1,b1,b2,b3⟩ := setCells_block g 119 news (0 + i * 1) w.drew cur e3
  rw [← hW1] at hg1 b1
  obtain ⟨hg2,cur2,d1,d2,d3⟩ := setCells_block g 119 [.pointer none] (i + k) W1 cur1 b1
  have hcl : ∀ ty,(Builtin.clear_ #[67] ty #[.slice (some ⟨g,i + k,none⟩) 1 (cap - (i + k))]).run Tryz.prog W1 = .ok (.tuple #[]) (W1.setCells g (i + k) [.pointer none]) := fun ty =>
    clear_oneP W1 ty g _ _ (by rw [cell_of_row _ _ _ _ _ (0,0) b1,Array.getElem?_eq_getElem (by omega)]; rfl) (by simp [World.frozen?,b1])
  obtain ⟨W2,hW2⟩ : ∃ W2,W2 = W1.setCells g (i + k) [.pointer none] := ⟨_,rfl⟩
  rw [← hW2] at hg2 d1
  simp only [← hW2] at hcl
  have HF : Hid (W2.ownsRow base 119 1 (.slice (some ⟨g,0,none⟩) (i + k) cap) (i + k) (xs.eraseIdx i) ∧ w.grownBy W2 (some g)) := by
    have hel : (xs.eraseIdx i).length = i + k := by rw [List.length_eraseIdx,HL.out,if_pos (by omega)]; omega
    refine ⟨own_of hgb d1 (by omega) HC2.out (by omega) hel ?_,⟨hg2.os.trans hg1.os,hg2.tape.trans hg1.tape,hg2.output.trans hg1.output,Nat.le_trans hg1.size hg2.size,fun j hj hne => (hg2.block j (Nat.lt_of_lt_of_le hj hg1.size) hne).trans (hg1.block j hj hne)⟩⟩
    apply List.ext_getElem?
    intro j
    rw [List.getElem?_take]
    by_cases hj : j < (i + k) * 1
    · rw [if_pos hj,Array.getElem?_toList,d3 j (by omega),if_neg (by simp; omega),b3 j (by omega),List.getElem?_eraseIdx]
      by_cases h1 : j < i
      · rw [if_neg (by omega),if_pos h1,hcur j (by omega)]
      · rw [if_pos (by omega),if_neg h1,hget _ (by omega)]
        congr 1; omega
    · rw [if_neg hj,List.getElem?_eq_none (by omega)]
  have hW := hid hW1
  clear hW1 hW2 hg1 hg2 b1 b2 b3 d1 d2 d3 hget hcur hnews hnl e3 e6
  have hck : cap ≠ i + k := by omega
  have hik4 : i + k ≤ cap := by omega
  go_region_law (refine step_append_room rfl (.tmp 22) (.tmp 25) 67 rfl 119 i0 1 Tryz.underlying67 hin.out hin1.out g 0 i cap (by simp [Act.eval,Act.put]) A k (cap - (i + 1)) news (by simp [Act.eval,Act.put]) s1.out hsrc.out s2.out hik4 s3.out ?_; rw [← hW.out])
  go_wp2
  go_returns
  exact ⟨rfl,HF.out⟩
end Go.Proofs.YtocicffmajbecaaGreatDoor
