/- place: an entry goes where it belongs. -/
import Derived.Test.YtocicffmajbecaaGreatDoorPq1
import Derived.WalkKit
import Derived.WalkSpells
import Derived.WalkLawsBesides
import Derived.Deep.RegionLaw
import Derived.Handy
import Derived.IntWalk
namespace Go.Proofs.YtocicffmajbecaaGreatDoor
open Go.RowKit
theorem Ix.push {base x : Nat} {v : Value} {room : Int} {n : Nat} {rows rows' : List En} {w W w1 : World} {g c : Nat} (h : Ix base x v room n rows w) (hx : Ext w W)
    (hr : Row w1 base (.slice (some ⟨g,0,none⟩) (n + 1) c) (n + 1) rows') (ho : v.ownBlock = some g ∨ w.heap.size ≤ g) (hg : W.grownBy w1 v.ownBlock) :
    w1.cell? ⟨x,0,none⟩ = some v ∧ w1.frozen? ⟨x,0,none⟩ = false ∧ Ix base x (.slice (some ⟨g,0,none⟩) (n + 1) c) room (n + 1) rows' (w1.setCell ⟨x,0,none⟩ (.slice (some ⟨g,0,none⟩) (n + 1) c)) ∧ Mv x v (.slice (some ⟨g,0,none⟩) (n + 1) c) w (w1.setCell ⟨x,0,none⟩ (.slice (some ⟨g,0,none⟩) (n + 1) c)) := by
  have hb : w1.heap[x]? = some (.cells #[v,.int .i64 room] 174 (0,0)) := by
    rw [hg.block x (Nat.lt_of_lt_of_le h.lt hx.size) (fun e => h.far e.symm),hx.below.block x h.lt]; exact h.blk
  refine ⟨by simp [World.cell?,hb],by simp [World.frozen?,hb],Ix.lay hb hr,Mv.setX ⟨hg.os.trans hx.below.os,hg.tape.trans hx.below.tape,hg.output.trans hx.below.output,Nat.le_trans hx.size hg.size,fun k hk _ hv => ?_,fun k hk => ?_⟩ _ _⟩
  · exact (hg.block k (Nat.lt_of_lt_of_le hk hx.size) (fun e => hv e.symm)).trans (hx.below.block k hk)
  · simp only [Value.ownBlock,Option.some.injEq] at hk
    subst hk
    exact ho
def PlJ (base x : Nat) (v : Value) (room : Int) (l rest : List En) (e : En) (w : World) (a' : Act) (w' : World) : Prop :=
  ∃ (k : Nat) (u5 u6 u7 u8 u9 u10 u11 u12 u13 u14 u15 u16 u17 u18 u19 u20 u21 u22 u23 u24 u25 u26 u27 u28 u29 u30 u31 u32 u33 u34 u35 u36 u37 u38 u39 u40 u41 u42 u43 u44 u45 u46 u47 u48 u49 u50 u51 u52 u53 u54 u55 u56 : Value),a' = { tmps := #[.pointer (some ⟨x,0,none⟩),entV e,undef,.pointer (some ⟨w.heap.size,0,none⟩),.int .i64 k,u5,u6,u7,u8,u9,u10,u11,u12,u13,u14,u15,u16,u17,u18,u19,u20,u21,u22,u23,u24,u25,u26,u27,u28,u29,u30,u31,u32,u33,u34,u35,u36,u37,u38,u39,u40,u41,u42,u43,u44,u45,u46,u47,u48,u49,u50,u51,u52,u53,u54,u55,u56],defers := [] } ∧ k ≤ l.length ∧
    (∃ v' u,Ix base x v' room (l.length + 1) (l.take k ++ u :: l.drop k ++ rest.drop 1) w' ∧ Mv x v v' w w' ∧ v'.ownBlock ≠ some w.heap.size ∧ Hid (rest ≠ [] → ∃ q c,v = .slice q l.length c ∧ v' = .slice q (l.length + 1) c)) ∧ w'.heap[w.heap.size]? = some (.cells #[.int .i64 e.1,.int .i64 e.2] 187 (0,0)) ∧ Hid (insAt e l l.length = insAt e l k)
theorem pl_set (l R : List En) (u p : En) (k : Nat) (hk : k ≤ l.length) : (l.take k ++ u :: l.drop k ++ R).set k p = l.take k ++ p :: l.drop k ++ R := by
  have hl : (l.take k).length = k := by simp; omega
  rw [List.append_assoc,List.set_append,if_neg (by omega),hl,Nat.sub_self,List.append_assoc]
  rfl
theorem pl_step (l R : List En) (m : Nat) (hm : m < l.length) : l.take (m + 1) ++ l[m] :: l.drop (m + 1) ++ R = l.take m ++ l[m] :: l.drop m ++ R := by
  rw [List.take_succ_eq_append_getElem hm,List.drop_eq_getElem_cons hm]
  simp only [List.append_assoc,List.cons_append,List.nil_append]
theorem pl_get (l R : List En) (u : En) (m : Nat) (hm : m < l.length) : (l.take (m + 1) ++ u :: l.drop (m + 1) ++ R)[m]? = some l[m] := by
  rw [List.append_assoc,List.getElem?_append_left (by simp; omega),List.getElem?_take,if_pos (by omega),List.getElem?_eq_getElem hm]
def PlPost (base x : Nat) (v : Value) (room : Int) (l rest : List En) (e : En) (w : World) (r : Ending) (w' : World) : Prop :=
  r = .returned (.tuple #[]) ∧ ∃ v',Ix base x v' room (l.length + 1) (ins e l ++ rest.drop 1) w' ∧ Mv x v v' w w' ∧ (rest ≠ [] → ∃ q c,v = .slice q l.length c ∧ v' = .slice q (l.length + 1) c)
theorem ins_at {e : En} {l : List En} {k : Nat} (h : insAt e l l.length = k) : ins e l = l.take k ++ e :: l.drop k := by rw [ins,h]
set_option maxRecDepth 100000 in
set_option maxHeartbeats 4000000 in
theorem place_any (base x : Nat) (v : Value) (room : Int) (l rest : List En) (e : En) (w : World) (h : Ix base x v room l.length (l ++ rest) w) (hl : l.length ≤ 1000) (hb : base ≤ w.heap.size) :
    Calls Tryz.prog 131 #[.pointer (some ⟨x,0,none⟩),entV e] w (PlPost base x v room l rest e w) := by
  obtain ⟨e1,e2⟩ := e
  obtain ⟨p,cap,rfl,hc1,hc2,-⟩ := h.row.slice
  unfold maxLen at hc2
  obtain ⟨c0,-,f0,-⟩ := h.cells
  have hxlt := h.lt
  have HI := hid h
  clear h
  have hll := hid hl
  clear hl
  go_enter Tryz.func131,Tryz.ntmps131
  go_wp2_with fail
  refine wp_goto 0 (PlJ base x (.slice p l.length cap) room l rest (e1,e2) w) (fun a' _ => (intOf (a'.tmps.getD 4 undef)).toNat) rfl ?_ ?_
  · refine fun a' w' => ex_elim fun k => ex8 fun u5 u6 u7 u8 u9 u10 u11 u12 => ex8 fun u13 u14 u15 u16 u17 u18 u19 u20 => ex8 fun u21 u22 u23 u24 u25 u26 u27 u28 => ex8 fun u29 u30 u31 u32 u33 u34 u35 u36 => ex8 fun u37 u38 u39 u40 u41 u42 u43 u44 => ex8 fun u45 u46 u47 u48 u49 u50 u51 u52 => ex4 fun u53 u54 u55 u56 => ?_
    rintro ⟨rfl,hk,⟨v',u,hI,hM,hfar,hst⟩,hbox,hins⟩
    obtain ⟨n,hn⟩ : ∃ n,n = l.length + 1 := ⟨_,rfl⟩
    rw [← hn] at hI
    have hkn : k < n := by omega
    have HN := hid hn
    clear hn
    obtain ⟨g,cap',rfl,hgb,hgl,hn1,hn2⟩ := hI.row.shape (by simp; omega)
    have hgne : Hid (w.heap.size ≠ g) := fun e => hfar (by rw [e]; rfl)
    clear hfar
    obtain ⟨c1,-,fx,-⟩ := hI.cells
    have hxl := hI.lt
    have hbl := lt_blk hbox
    have kb0 : w'.cell? ⟨w.heap.size,0,none⟩ = some (.int .i64 e1) := by simp [World.cell?,hbox]
    have kb1 : w'.cell? ⟨w.heap.size,1,none⟩ = some (.int .i64 e2) := by simp [World.cell?,hbox]
    have HI1 := hid hI
    have HM := hid hM
    have HB := hid hbox
    clear hI hM hbox hn1 hn2 c0 f0
    rcases Nat.eq_zero_or_pos k with rfl | hpos
    · obtain ⟨-,-,fg0,fg1⟩ := HI1.out.row.cell (i := 0) (p := u) (by simp)
      simp only [Nat.zero_mul,Nat.zero_add] at fg0 fg1
      go_wp2
      ((first | refine wp_region_more (by kernel_rfl) (by kernel_rfl) ?_ | refine wp_region_ext (by kernel_rfl) (by kernel_rfl) ?_); (try dsimp only [append_cons',append_nil']); (repeat (go_big_quiet_step ((fail)))); refine wpQuiet_nil ?_; rintro _ ⟨pq,rfl⟩)
      have hq := ext_more w' pq
      have HI2 := hid (HI1.out.ext hq)
      have HM2 := hid (HM.out.ext hq)
      have d0 := hq.cell kb0
      have d1 := hq.cell kb1
      obtain ⟨c2,-,fx2,-⟩ := HI2.out.cells
      obtain ⟨-,-,gg0,gg1⟩ := HI2.out.row.cell (i := 0) (p := u) (by simp)
      simp only [Nat.zero_mul,Nat.zero_add] at gg0 gg1
      obtain ⟨a0,a1,-,-⟩ := HI2.out.row.cell (i := 0) (p := u) (by simp)
      simp only [Nat.zero_mul,Nat.zero_add] at a0 a1
      generalize more w' pq = w2 at *
      go_wp2
      go_region
      go_returns
      refine ⟨rfl,.slice (some ⟨g,0,none⟩) n cap',?_,?_,hst.out⟩
      · have hI := HI2.out.set 0 (e1,e2)
        rw [pl_set l _ u (e1,e2) 0 (by omega),← ins_at (show insAt (e1,e2) l l.length = 0 from hins.out),HN.out] at hI
        simp only [Nat.zero_mul,Nat.zero_add] at hI
        rw [HN.out]
        exact hI.ext (Ext.drew (Ext.refl _))
      · exact (((HM2.out.setG rfl 0 _).setG rfl 1 _).ext (Ext.drew (Ext.refl _)))
    · obtain ⟨m,rfl⟩ : ∃ m,k = m + 1 := ⟨k - 1,by omega⟩
      obtain ⟨d0,d1,-,-⟩ := HI1.out.row.cell (i := m) (pl_get l _ u m (by omega))
      obtain ⟨-,-,fg0,fg1⟩ := HI1.out.row.cell (i := m + 1) (p := u) (by rw [List.append_assoc,List.getElem?_append_right (by simp; omega)]; simp [show min (m + 1) l.length = m + 1 by omega])
      have hstep := hid (pl_step l (rest.drop 1) m (by omega))
      have hins1 : Hid (insAt (e1,e2) l (m + 1) = if lessB (e1,e2) l[m] then insAt (e1,e2) l m else m + 1) := by
        show insAt _ _ (m + 1) = _
        conv => lhs; unfold insAt
        rw [List.getD_eq_getElem?_getD,List.getElem?_eq_getElem (by omega)]
        rfl
      generalize l[m] = y at *
      have i0 : (0 : Int) ≤ (m : Int) := by omega
      have i1 : (m : Int) < (n : Int) := by omega
      have i2 : (m : Int) + 1 < (n : Int) := by omega
      have i3 : (0 : Int) < (m : Int) + 1 := by omega
      have i5 : (0 : Int) ≤ (m : Int) + 1 := by omega
      have hmb : (m : Int) + 1 ≤ 1000000 := by have := hll.out; omega
      have e3 : IntKind.i64.wrap ((m : Int) + 1 - 1) = (m : Int) := by rw [Int.add_sub_cancel]; exact IntWalk.i64_in _ (by omega)
      have e4 : ((m : Int) + 1).toNat = m + 1 := by omega
      cases hq : lessB (e1,e2) y with
      | true =>
        have HQ := hid hq
        clear hq
        go_wp2
        ((first | refine wp_region_more (by kernel_rfl) (by kernel_rfl) ?_ | refine wp_region_ext (by kernel_rfl) (by kernel_rfl) ?_); (try dsimp only [append_cons',append_nil']); (repeat (go_big_quiet_step ((go_at_call 148; with_reducible refine Calls.more_of (less_to HQ.out _))))); refine wpQuiet_nil ?_; rintro _ ⟨pq,rfl⟩)
        have hq := ext_more w' pq
        have HI2 := hid (HI1.out.ext hq)
        have HM2 := hid (HM.out.ext hq)
        have HB2 : Hid ((more w' pq).heap[w.heap.size]? = some (.cells #[.int .i64 e1,.int .i64 e2] 187 (0,0))) := (hq.below.block _ hbl).trans HB.out
        have d0 := hq.cell d0
        have d1 := hq.cell d1
        have b0 := hq.cell kb0
        have b1 := hq.cell kb1
        obtain ⟨c2,-,-,-⟩ := HI2.out.cells
        obtain ⟨x0,x1,f0,f1⟩ := HI2.out.row.cell (i := m + 1) (p := u) (by rw [List.append_assoc,List.getElem?_append_right (by simp; omega)]; simp [show min (m + 1) l.length = m + 1 by omega])
        have hgl2 := Nat.lt_of_lt_of_le hgl hq.size
        generalize more w' pq = w2 at *
        go_wp2
        go_region
        go_wp2
        go_step3
        simp only [Exit.then]
        refine ⟨rfl,⟨m,_,_,_,_,_,_,_,_,_,_,_,_,_,_,_,_,_,_,_,_,_,_,_,_,_,_,_,_,_,_,_,_,_,_,_,_,_,_,_,_,_,_,_,_,_,_,_,_,_,_,_,_,rfl,by omega,⟨_,y,?_,((HM2.out.setG rfl _ _).setG rfl _ _).ext (Ext.drew (Ext.refl _)),fun e => hgne.out (Option.some.inj e).symm,hst⟩,?_,hid ?_⟩,by simp [intOf]⟩
        · have hI := HI2.out.set (m + 1) y
          rw [pl_set l _ u y (m + 1) (by omega),hstep.out,HN.out] at hI
          rw [HN.out]
          exact hI.ext (Ext.drew (Ext.refl _))
        · show (((w2.setCell _ _).setCell _ _).drew).heap[_]? = _
          show ((w2.setCell ⟨g,(m + 1) * 2,none⟩ (.int .i64 y.1)).setCell ⟨g,(m + 1) * 2 + 1,none⟩ (.int .i64 y.2)).heap[w.heap.size]? = _
          rw [Below.heap_setCell _ _ _ _ hgne.out,Below.heap_setCell _ _ _ _ hgne.out]
          exact HB2.out
        · rw [hins.out,hins1.out,HQ.out]; rfl
      | false =>
        have HQ := hid hq
        clear hq
        go_wp2
        ((first | refine wp_region_more (by kernel_rfl) (by kernel_rfl) ?_ | refine wp_region_ext (by kernel_rfl) (by kernel_rfl) ?_); (try dsimp only [append_cons',append_nil']); (repeat (go_big_quiet_step ((go_at_call 148; with_reducible refine Calls.more_of (less_to HQ.out _))))); refine wpQuiet_nil ?_; rintro _ ⟨pq,rfl⟩)
        have hq := ext_more w' pq
        have HI2 := hid (HI1.out.ext hq)
        have HM2 := hid (HM.out.ext hq)
        have HB2 : Hid ((more w' pq).heap[w.heap.size]? = some (.cells #[.int .i64 e1,.int .i64 e2] 187 (0,0))) := (hq.below.block _ hbl).trans HB.out
        have d0 := hq.cell d0
        have d1 := hq.cell d1
        have b0 := hq.cell kb0
        have b1 := hq.cell kb1
        obtain ⟨c2,-,-,-⟩ := HI2.out.cells
        obtain ⟨x0,x1,f0,f1⟩ := HI2.out.row.cell (i := m + 1) (p := u) (by rw [List.append_assoc,List.getElem?_append_right (by simp; omega)]; simp [show min (m + 1) l.length = m + 1 by omega])
        have hgl2 := Nat.lt_of_lt_of_le hgl hq.size
        generalize more w' pq = w2 at *
        go_wp2
        go_region
        go_returns
        refine ⟨rfl,.slice (some ⟨g,0,none⟩) n cap',?_,?_,hst.out⟩
        · have hI := HI2.out.set (m + 1) (e1,e2)
          have hz : insAt (e1,e2) l l.length = m + 1 := by rw [hins.out,hins1.out,HQ.out]; rfl
          rw [pl_set l _ u (e1,e2) (m + 1) (by omega),← ins_at hz,HN.out] at hI
          rw [HN.out]
          exact hI.ext (Ext.drew (Ext.refl _))
        · exact (((HM2.out.setG rfl _ _).setG rfl _ _).ext (Ext.drew (Ext.refl _)))
  · intro start
    have Start := hid start
    clear start
    have X0 : Ext w (w.alloc (.cells #[.int .i64 e1,.int .i64 e2] 187 (0,0))) := Ext.alloc (Ext.refl w) _
    have b0 : (w.alloc (.cells #[.int .i64 e1,.int .i64 e2] 187 (0,0))).heap[w.heap.size]? = some (.cells #[.int .i64 e1,.int .i64 e2] 187 (0,0)) := heap_alloc_new w _
    generalize w.alloc (.cells #[.int .i64 e1,.int .i64 e2] 187 (0,0)) = w0 at *
    have k0 : w0.cell? ⟨w.heap.size,0,none⟩ = some (.int .i64 e1) := by simp [World.cell?,b0]
    have k1 : w0.cell? ⟨w.heap.size,1,none⟩ = some (.int .i64 e2) := by simp [World.cell?,b0]
    have c0 := X0.cell c0
    have HI0 := hid (HI.out.ext X0)
    have hx0 : x < w0.heap.size := HI0.out.lt
    have hB0 : w.heap.size < w0.heap.size := lt_blk b0
    have B0 := hid b0
    clear b0
    go_wp2_with fail
    go_region_law (refine step_push_row (w := w0.drew) rfl (.tmp 14) (.tmp 16) rfl (e1,e2) HI0.out.row (by have := hll.out; omega) (by simp [Act.eval]) (nb := w0.heap.size) (by simp [Act.eval]) (by rfl) (by simp; omega) (by rfl) ?_; intro g c w1 hr1 ho1 hg1 hs1; have HS1 := hid hs1; clear hs1; obtain ⟨q0,qf,hI,hM⟩ := HI0.out.push (Ext.alloc (Ext.drew (Ext.refl w0)) _) hr1 ho1 hg1)
    all_goals
      have hfar : (Value.slice (some ⟨g,0,none⟩) (l.length + 1) c).ownBlock ≠ some w.heap.size := fun e => by
        obtain rfl : g = w.heap.size := Option.some.inj e
        rcases ho1 with h1 | h1
        · exact absurd (HI.out.row.lt _ h1).2 (Nat.lt_irrefl _)
        · have h1 : w0.heap.size ≤ w.heap.size := h1
          omega
      have hbox := hM.blk B0.out (by omega) (fun e => absurd (HI.out.row.lt _ e).2 (Nat.lt_irrefl _))
      simp only [Exit.then]
      refine ‹∀ (a : Act) (w : World),Code.wp _ _ _ a w → _› _ _ ?_
      go_wp2_with fail
      go_step3
      simp only [Exit.then]
      refine ‹∀ (a : Act) (w : World),Code.wp _ _ _ a w → _› _ _ ?_
      exact Start.out _ _ ⟨l.length,_,_,_,_,_,_,_,_,_,_,_,_,_,_,_,_,_,_,_,_,_,_,_,_,_,_,_,_,_,_,_,_,_,_,_,_,_,_,_,_,_,_,_,_,_,_,_,_,_,_,_,_,rfl,Nat.le_refl _,⟨_,(e1,e2),by simpa using hI,(Mv.of_ext X0).trans hM,hfar,fun h => ⟨_,_,HS1.out h,rfl⟩⟩,hbox,hid rfl⟩
end Go.Proofs.YtocicffmajbecaaGreatDoor
