/- The document's own timers: Due; their state in a walk. -/
import Derived.Test.YtocicffmajbecaaGreatDoorTiAll
import Derived.Test.YtocicffmajbecaaGreatDoorSl
import Derived.Test.YtocicffmajbecaaGreatDoorSite
import Derived.WalkKit
import Derived.WalkSpells
import Derived.WalkLawsBesides
import Derived.Deep.LoopGhost
import Derived.OwnWalk
import Derived.Handy
import Derived.Test.YtocicffmajbecaaGreatDoorTail
import Derived.Test.YtocicffmajbecaaGreatDoorPiece
import Derived.Deep.RegionLaw
import Derived.IntWalk
import Derived.Maps.AppendAt
namespace Go.Proofs.YtocicffmajbecaaGreatDoor
open Go.RowKit
namespace Kf
open Rw Ti
theorem enS : IsEn Tryz.prog 146 := by unfold IsEn; kernel_rfl
structure Rm (base : Nat) (y : Site) (v : Value) (l : List En) (w : World) : Prop where
  blk : ∃ cs,w.heap[y.b]? = some (.cells cs y.T (0,0)) ∧ cs.size = y.n ∧ y.d < y.n ∧ cs[y.d]? = some v ∧ ∀ j,j < y.n → j ≠ y.d → cs[j]? = some (y.K j)
  row : Row 146 w base v l.length l
  bx : base ≤ y.b
def ROwn (y : Site) (v : Value) (k : Nat) : Prop := k = y.b ∨ v.ownBlock = some k
section
variable {base : Nat} {y : Site} {v : Value} {l : List En} {w w' : World}
theorem Rm.lt (h : Rm base y v l w) : y.b < w.heap.size := by
  obtain ⟨cs,h1,_⟩ := h.blk
  exact lt_blk h1
theorem Rm.cells (h : Rm base y v l w) : w.cell? ⟨y.b,y.d,none⟩ = some v ∧ w.frozen? ⟨y.b,y.d,none⟩ = false := by
  obtain ⟨cs,h1,_,_,h2,_⟩ := h.blk
  exact ⟨by simp [World.cell?,h1,h2],by simp [World.frozen?,h1]⟩
theorem Rm.own (h : Rm base y v l w) : ∀ k,ROwn y v k → base ≤ k ∧ k < w.heap.size := by
  intro k hk
  rcases hk with rfl | hk
  · exact ⟨h.bx,h.lt⟩
  · exact h.row.lt k hk
theorem Rm.ext (h : Rm base y v l w) (k : Ext w w') : Rm base y v l w' := by
  obtain ⟨cs,h1,h2⟩ := h.blk
  exact ⟨⟨cs,by rw [k.below.block y.b (lt_blk h1)]; exact h1,h2⟩,h.row.ext k,h.bx⟩
theorem Rm.lay {v' : Value} {l' : List En} {w0 : World} (h : Rm base y v l w0) (k : Ext w0 w) (hr : w.ownsRow w0.heap.size 146 2 v' l'.length (l'.flatMap ecells)) (hb : base ≤ w0.heap.size) :
    Rm base y v' l' (w.setCell ⟨y.b,y.d,none⟩ v') ∧ Mvp (ROwn y v) (ROwn y v') w0 (w.setCell ⟨y.b,y.d,none⟩ v') := by
  have hR : Row 146 w w0.heap.size v' l'.length l' := Row.of_owns hr
  obtain ⟨cs,q1,q2,q3,q4,q5⟩ := h.blk
  have hyw : w.heap[y.b]? = some (.cells cs y.T (0,0)) := by rw [k.below.block y.b h.lt]; exact q1
  refine ⟨⟨⟨_,set_same hyw _ _,by simpa using q2,q3,by rw [Array.getElem?_setIfInBounds,if_pos rfl,if_pos (by omega)],fun j hj hne => by rw [Array.getElem?_setIfInBounds,if_neg (fun e => hne e.symm)]; exact q5 j hj hne⟩,(hR.keep fun g hg => ?_).base hb,h.bx⟩,?_⟩
  · have := (hR.lt g hg).1
    have := h.lt
    exact Below.heap_setCell _ _ _ _ (by simp; omega)
  · have h1 := (Mvp.of_ext (A := ROwn y v) k).set (g := y.b) (.inl rfl) y.d v'
    refine ⟨h1.os,h1.tape,h1.output,h1.size,h1.block,fun i hi => ?_⟩
    rcases hi with rfl | hi
    · exact .inl (.inl rfl)
    · exact .inr (hR.lt i hi).1
theorem others_step (id : Int) {l : List En} {k : Nat} (hk : k < l.length) : others id (l.take (k + 1)) = if l[k].1 = id then others id (l.take k) else others id (l.take k) ++ [l[k]] := by
  rw [List.take_succ_eq_append_getElem hk]
  unfold others
  rw [List.filter_append]
  by_cases h : l[k].1 = id
  · simp [h]
  · simp [h]
theorem others_take (id : Int) (l : List En) (k : Nat) : (others id (l.take k)).length ≤ k := Nat.le_trans (List.length_filter_le _ _) (List.length_take_le _ _)
set_option maxRecDepth 100000 in
set_option maxHeartbeats 4000000 in
theorem drop_any (h : Rm base y v l w) (hl : l.length ≤ 1000) (hb : base ≤ w.heap.size) (id : Int) :
    Calls Tryz.prog 54 #[.pointer (some ⟨y.b,y.d,none⟩),.int .i64 id] w fun e w' => e = .returned (.bool (decide ((others id l).length < l.length))) ∧ ∃ v',Rm base y v' (others id l) w' ∧ Mvp (ROwn y v) (ROwn y v') w w' := by
  obtain ⟨p,cap,rfl,-,-,-⟩ := h.row.slice
  obtain ⟨c0,f0⟩ := h.cells
  have hylt := h.lt
  have HH := hid h
  have HL := hid hl
  have HB := hid hb
  clear h hl hb
  go_enter Tryz.func54,Tryz.ntmps54
  go_wp2_with fail
  go_loopw [6,5] (fun s vl wr => ∃ k : Nat,s = .int .i64 k ∧ k ≤ l.length ∧ Ext w wr ∧ Hid (wr.ownsRow w.heap.size 146 2 vl (others id (l.take k)).length ((others id (l.take k)).flatMap ecells))) (fun s _ _ => (l.length - intOf s).toNat)
  case atStart => exact ⟨0,rfl,by omega,Ext.refl _,World.ownsRow_nil _ _ _ _⟩
  case round =>
    obtain ⟨k,rfl,hk,hx,hrow⟩ := hrel
    have hlb := HL.out
    by_cases hlt : k < l.length
    · obtain ⟨g,cap',e,-,hg,-,-⟩ := HH.out.row.shape (by omega)
      injection e with e _ ec
      subst e ec
      obtain ⟨d0,d1,-,-⟩ := HH.out.row.cell (List.getElem?_eq_getElem hlt)
      have q0 := hx.cell d0
      have q1 := hx.cell d1
      have q2 := hx.cell c0
      have hst := others_step id hlt
      have htk := others_take id l k
      have i4 : (k : Int) < (l.length : Int) := by omega
      generalize l[k] = q at *
      clear d0 d1
      by_cases hid' : q.1 = id
      · have i5 : (q.1 == id) = true := by simpa using hid'
        rw [if_pos hid'] at hst
        have HST := hid hst
        clear hst hid'
        go_wp2
        go_roundw
        case rel => exact ⟨k + 1,by go_num,by omega,hx,by rw [HST.out]; exact hrow⟩
        case measure => simp [intOf]; omega
      · have i5 : (q.1 == id) = false := by simpa using hid'
        rw [if_neg hid'] at hst
        have HST := hid hst
        have HTK := hid htk
        have hws := hx.size
        clear hst hid' htk
        go_wp2_with (at_builtin; refine wpList_push_own rfl (.tmp 27) (.tmp 35) 46 146 (.agg #[.int .i64 0,.int .i64 0]) 2 16 rfl Tryz.underlying46 enS rfl (by decide) (w := wr) (base := w.heap.size) hrow.out (news := [.int .i64 q.1,.int .i64 q.2]) rfl (by intro u hu; simp at hu; rcases hu with rfl | rfl <;> rfl) (by unfold maxLen; have := HTK.out; omega) (by have := HTK.out; omega) hws (by rfl) (nb := wr.heap.size) (by rfl) rfl ?_; intro p1 c1 w1 ho1 hb1; have HO := hid ho1; have HX : Hid (Ext w w1) := ⟨Below.trans hx.below hb1⟩; clear ho1 hb1)
        go_roundw
        case rel => exact ⟨k + 1,by go_num,by omega,HX.out,by rw [HST.out,List.flatMap_append,List.length_append]; exact HO.out⟩
        case measure => simp [intOf]; omega
    · obtain rfl : k = l.length := by omega
      have hfull : others id (l.take l.length) = others id l := by rw [List.take_length]
      rw [hfull] at hrow
      obtain ⟨pv,cv,rfl⟩ := owns_shape hrow.out
      have q2 := hx.cell c0
      have f2 : wr.frozen? ⟨y.b,y.d,none⟩ = false := by rw [hx.below.frozen hylt]; exact f0
      obtain ⟨N,hN⟩ : ∃ N,N = (others id l).length := ⟨_,rfl⟩
      have HFIN := hid (HH.out.lay hx hrow.out HB.out)
      rw [← hN] at hrow
      have HN := hid hN
      rw [← hN]
      rw [← hN] at HFIN
      clear hfull hrow hN
      go_wp2
      go_returns
      exact ⟨by rw [HN.out]; rfl,_,HFIN.out⟩
end
end Kf
end Go.Proofs.YtocicffmajbecaaGreatDoor
namespace Go.Proofs.YtocicffmajbecaaGreatDoor
open Go.RowKit
namespace Kf
open Rw Ti
set_option linter.unusedSimpArgs false
theorem blk_cellS {w : World} {b : Nat} {cs : Array Value} {T : TypeId} (h : w.heap[b]? = some (.cells cs T (0,0))) (j : Nat) : w.cell? ⟨b,j,none⟩ = cs[j]? := by simp [World.cell?,h]
def InsPost (base : Nat) (y : Site) (k : Nat) (id un : Int) (v : Value) (l : List En) (z : World) (a' : Act) (w' : World) : Prop :=
  ∃ (v' : Value) (u3 u4 u5 u7 u8 u9 u10 u11 u12 u13 u14 u15 u16 u17 u18 u19 u20 u21 u22 u23 u24 u25 u26 u27 u28 u29 u30 u31 u32 u33 u34 u35 u36 u37 u38 u39 u40 u41 u42 u43 u44 u45 u46 u47 u48 u49 u50 u51 u52 : Value),a' = { tmps := #[.pointer (some ⟨y.b,y.d,none⟩),.int .i64 id,.int .i64 un,u3,u4,u5,.int .i64 k,u7,u8,u9,u10,u11,u12,u13,u14,u15,u16,u17,u18,u19,u20,u21,u22,u23,u24,u25,u26,u27,u28,u29,u30,u31,u32,u33,u34,u35,u36,u37,u38,u39,u40,u41,u42,u43,u44,u45,u46,u47,u48,u49,u50,u51,u52],defers := [] } ∧ Rm base y v' l w' ∧ Mvp (ROwn y v) (ROwn y v') z w'
set_option maxRecDepth 100000 in
set_option maxHeartbeats 4000000 in
theorem ins_piece {base : Nat} {y : Site} {k : Nat} {id un : Int} {v : Value} {l : List En} {z : World} (h : Rm base y v l z) (hb : base ≤ z.heap.size) (hk : k ≤ l.length) (hl : l.length ≤ 1000) (u3 u4 u5 u7 u8 u9 u10 u11 u12 u13 u14 u15 u16 u17 u18 u19 u20 u21 u22 u23 u24 u25 u26 u27 u28 u29 u30 u31 u32 u33 u34 u35 u36 u37 u38 u39 u40 u41 u42 u43 u44 u45 u46 u47 u48 u49 u50 u51 u52 : Value) :
    (bodyAt Tryz.f60 [1,1,1]).wp Tryz.prog (Ends (InsPost base y k id un v (l.take k ++ (id,un) :: l.drop k) z)) ({ tmps := #[.pointer (some ⟨y.b,y.d,none⟩),.int .i64 id,.int .i64 un,u3,u4,u5,.int .i64 k,u7,u8,u9,u10,u11,u12,u13,u14,u15,u16,u17,u18,u19,u20,u21,u22,u23,u24,u25,u26,u27,u28,u29,u30,u31,u32,u33,u34,u35,u36,u37,u38,u39,u40,u41,u42,u43,u44,u45,u46,u47,u48,u49,u50,u51,u52],defers := [] }) z := by
  obtain ⟨pl,pr,hpl,hpr,srcl,srcr⟩ := h.row.parts (P := Tryz.prog) (ST := 46) Tryz.underlying46 (fun w => rfl) k hk
  have hpl : ∀ w,(Instr.slice 46 v none (some (.int .i64 (k : Int))) none).run Tryz.prog w = .ok pl w := hpl
  have hpr : ∀ w,(Instr.slice 46 v (some (.int .i64 (k : Int))) none none).run Tryz.prog w = .ok pr w := hpr
  have HG := hid (And.intro hk (And.intro hl hb))
  have SL := hid srcl
  have SR := hid srcr
  unfold bodyAt Tryz.f60
  simp only [codeAt]
  refine wp_region_T 20 3 (fun u => u.cell? ⟨y.b,y.d,none⟩ = some v) (by kernel_rfl) (by kernel_rfl) ?_
  have HM0 : Hid (Mvp (ROwn y v) (ROwn y v) z z.drew) := Mvp.of_ext (Ext.drew (Ext.refl z))
  have HT0 := hid (h.ext (Ext.drew (Ext.refl z)))
  have HZ : Hid (z.drew.heap.size = z.heap.size) := rfl
  have SL0 := hid (SL.out.ext (Ext.drew (Ext.refl z)))
  have SR0 := hid (SR.out.ext (Ext.drew (Ext.refl z)))
  clear h hb hl hk srcl srcr SL SR
  generalize z.drew = z0 at *
  have HSF : Hid (∀ u,Ext z0 u → u.cell? ⟨y.b,y.d,none⟩ = some v) := fun u hu => hu.cell HT0.out.cells.1
  have HSS := HSF.out z0 (Ext.refl _)
  refine wpT_tk 0 HSS ?_; (try simp only [nrm])
  refine wpT_tk 1 HSS ?_; (try simp only [nrm])
  refine wpT_tk 2 HSS ?_; (try simp only [nrm])
  refine wpT_tk 3 HSS ?_; (try simp only [nrm])
  refine wpT_tk 4 HSS ?_; (try simp only [nrm])
  refine wpT_tk 5 HSS ?_; (try simp only [nrm])
  refine wpT_tk 6 HSS ?_; (try simp only [nrm])
  refine wpT_tk 8 HSS ?_; (try simp only [nrm])
  refine wpT_tk 9 HSS ?_; (try simp only [nrm])
  refine wpT_tk 10 HSS ?_; (try simp only [nrm])
  refine wpT_tk 13 HSS ?_; (try simp only [nrm])
  refine wpT_tk 14 HSS ?_; (try simp only [nrm])
  refine wpT_tk 15 HSS ?_; (try simp only [nrm])
  refine wpT_tk 16 HSS ?_; (try simp only [nrm])
  refine wpT_tk 17 HSS ?_; (try simp only [nrm])
  refine wpT_tk 18 HSS ?_; (try simp only [nrm])
  refine wpT_two 7 11 rfl rfl (by kernel_rfl) (by rfl) (by rfl) (fun K' hK => ?_) (fun K' hK => ?_)
  · skip
    refine wp_append_src (.const (.slice none 0 0)) (.tmp 37) 46 146 (.agg #[.int .i64 0,.int .i64 0]) 2 16 rfl Tryz.underlying46 enS rfl (by decide) (World.ownsRow_nil _ z0.heap.size _ _) rfl rfl (SL0.out.ext (Ext.refl z0)) (ecells_one _) (by unfold maxLen; have := HG.out; omega) (by have := HG.out; omega) (Nat.le_refl _) ?_
    intro r1 v1 ho1 hb1
    have HX1 : Hid (Ext z0 v1) := (Ext.refl z0).trans ⟨hb1⟩
    simp only [List.nil_append,Nat.zero_add] at ho1
    have HO1 := hid (owns_base ho1 (Ext.refl z0).size)
    have HBE := hid hb1
    clear ho1 hb1
    refine hK.out _ _ (HSF.out _ HX1.out) ?_
    clear hK K' HSS
    have HSS := HSF.out _ HX1.out
    (try simp only [nrm])
    refine wpT_on 11 (fun K' hK => ?_)
    go_simp
    have HX2 : Hid (Ext z0 (v1.alloc (.cells #[.int .i64 id,.int .i64 un] 146 (0,0)))) := HX1.out.alloc _
    refine hK.out _ _ (HSF.out _ HX2.out) ?_
    clear hK K' HSS
    have HSS := HSF.out _ HX2.out
    (try simp only [nrm])
    have HO2 := hid (owns_ext HO1.out (Ext.alloc (Ext.refl v1) (.cells #[.int .i64 id,.int .i64 un] 146 (0,0))))
    have HB2 : Hid ((v1.alloc (.cells #[.int .i64 id,.int .i64 un] 146 (0,0))).heap[v1.heap.size]? = some (.cells #[.int .i64 id,.int .i64 un] 146 (0,0))) := heap_alloc_new v1 _
    clear HO1 HX1 HBE
    generalize v1.alloc (.cells #[.int .i64 id,.int .i64 un] 146 (0,0)) = v2 at *
    generalize v1.heap.size = B at *
    clear v1
    refine wpT_on 12 (fun K' hK => ?_)
    refine wp_append_src (.tmp 38) (.tmp 42) 46 146 (.agg #[.int .i64 0,.int .i64 0]) 2 16 rfl Tryz.underlying46 enS rfl (by decide) HO2.out (m2 := 1) (news := ecells (id,un)) rfl rfl (.inr ⟨⟨B,0,none⟩,1,rfl,rfl,by intro j u hj; rw [add_add,Nat.zero_add,blk_cellS HB2.out j]; simpa [ecells] using hj⟩) (by have := ecells_one [(id,un)]; simpa using this) (by unfold maxLen; have := HG.out; omega) (by have := HG.out; omega) HX2.out.size ?_
    intro r3 v3 ho3 hb3
    have HX3 : Hid (Ext z0 v3) := ⟨Below.trans HX2.out.below hb3⟩
    have HO3 := hid ho3
    clear ho3 hb3
    refine hK.out _ _ (HSF.out _ HX3.out) ?_
    clear hK K' HSS HX2 HO2 HB2
    have HSS := HSF.out _ HX3.out
    (try simp only [nrm])
    refine wpT_on 19 (fun K' hK => ?_)
    refine wp_append_src (.tmp 43) (.tmp 49) 46 146 (.agg #[.int .i64 0,.int .i64 0]) 2 16 rfl Tryz.underlying46 enS rfl (by decide) HO3.out rfl rfl (SR0.out.ext HX3.out) (ecells_one _) (by unfold maxLen; have := HG.out; omega) (by have := HG.out; omega) HX3.out.size ?_
    intro r4 v4 ho4 hb4
    obtain ⟨p4,c4,rfl⟩ := owns_shape ho4
    have HX4 : Hid (Ext z0 v4) := ⟨Below.trans HX3.out.below hb4⟩
    have HO4 := hid ho4
    clear ho4 hb4
    refine hK.out _ _ (HSF.out _ HX4.out) ?_
    clear hK K' HSS HX3 HO3
    have HSS := HSF.out _ HX4.out
    (try simp only [nrm])
    refine wpT_done (by kernel_rfl) ?_
    refine wpAny_tk 20 ?_; (try simp only [nrm])
    refine wpAny_tk 21 ?_; (try simp only [nrm])
    refine wpAny_on 22 (fun K' hK => ?_)
    have g0 := HSS
    have f0 := (HT0.out.ext HX4.out).cells.2
    clear HSS
    go_simp
    refine hK.out _ _ ?_
    (try simp only [nrm])
    refine wpAny_done (by kernel_rfl) ?_ _
    have hrow : v4.ownsRow z0.heap.size 146 2 (.slice p4 (k + 1 + (l.length - k)) c4) (l.take k ++ (id,un) :: l.drop k).length ((l.take k ++ (id,un) :: l.drop k).flatMap ecells) := by
      have h4 := HO4.out
      rw [List.flatMap_append,List.flatMap_cons,show (l.take k ++ (id,un) :: l.drop k).length = k + 1 + (l.length - k) by rw [List.length_append,List.length_cons,List.length_take,List.length_drop,Nat.min_eq_left HG.out.1]; omega]
      rw [List.append_assoc] at h4
      exact h4
    obtain ⟨q1,q2⟩ := HT0.out.lay HX4.out hrow (by rw [HZ.out]; exact HG.out.2.2)
    exact ⟨rfl,_,_,_,_,_,_,_,_,_,_,_,_,_,_,_,_,_,_,_,_,_,_,_,_,_,_,_,_,_,_,_,_,_,_,_,_,_,_,_,_,_,_,_,_,_,_,_,_,_,_,rfl,q1,HM0.out.trans q2⟩
  · skip
    go_simp
    have HX1 : Hid (Ext z0 (z0.alloc (.cells #[.int .i64 id,.int .i64 un] 146 (0,0)))) := (Ext.refl z0).alloc _
    have HB1 : Hid ((z0.alloc (.cells #[.int .i64 id,.int .i64 un] 146 (0,0))).heap[z0.heap.size]? = some (.cells #[.int .i64 id,.int .i64 un] 146 (0,0))) := heap_alloc_new z0 _
    refine hK.out _ _ (HSF.out _ HX1.out) ?_
    clear hK K' HSS
    have HSS := HSF.out _ HX1.out
    (try simp only [nrm])
    obtain ⟨B,hB⟩ : ∃ B,B = z0.heap.size := ⟨_,rfl⟩
    rw [← hB] at HB1
    rw [← hB]
    clear hB
    generalize z0.alloc (.cells #[.int .i64 id,.int .i64 un] 146 (0,0)) = y1 at *
    refine wpT_on 7 (fun K' hK => ?_)
    have HXY := HX1
    clear HX1
    refine wp_append_src (.const (.slice none 0 0)) (.tmp 37) 46 146 (.agg #[.int .i64 0,.int .i64 0]) 2 16 rfl Tryz.underlying46 enS rfl (by decide) (World.ownsRow_nil _ y1.heap.size _ _) rfl rfl (SL0.out.ext HXY.out) (ecells_one _) (by unfold maxLen; have := HG.out; omega) (by have := HG.out; omega) (Nat.le_refl _) ?_
    intro r1 v1 ho1 hb1
    have HX1 : Hid (Ext z0 v1) := HXY.out.trans ⟨hb1⟩
    simp only [List.nil_append,Nat.zero_add] at ho1
    have HO1 := hid (owns_base ho1 HXY.out.size)
    have HBE := hid hb1
    clear ho1 hb1
    refine hK.out _ _ (HSF.out _ HX1.out) ?_
    clear hK K' HSS
    have HSS := HSF.out _ HX1.out
    (try simp only [nrm])
    have HB2 : Hid (v1.heap[B]? = some (.cells #[.int .i64 id,.int .i64 un] 146 (0,0))) := by rw [HBE.out.block B (lt_blk HB1.out)]; exact HB1.out
    clear HB1 HBE HXY
    refine wpT_on 12 (fun K' hK => ?_)
    refine wp_append_src (.tmp 38) (.tmp 42) 46 146 (.agg #[.int .i64 0,.int .i64 0]) 2 16 rfl Tryz.underlying46 enS rfl (by decide) HO1.out (m2 := 1) (news := ecells (id,un)) rfl rfl (.inr ⟨⟨B,0,none⟩,1,rfl,rfl,by intro j u hj; rw [add_add,Nat.zero_add,blk_cellS HB2.out j]; simpa [ecells] using hj⟩) (by have := ecells_one [(id,un)]; simpa using this) (by unfold maxLen; have := HG.out; omega) (by have := HG.out; omega) HX1.out.size ?_
    intro r3 v3 ho3 hb3
    have HX3 : Hid (Ext z0 v3) := ⟨Below.trans HX1.out.below hb3⟩
    have HO3 := hid ho3
    clear ho3 hb3
    refine hK.out _ _ (HSF.out _ HX3.out) ?_
    clear hK K' HSS HX1 HO1 HB2
    have HSS := HSF.out _ HX3.out
    (try simp only [nrm])
    refine wpT_on 19 (fun K' hK => ?_)
    refine wp_append_src (.tmp 43) (.tmp 49) 46 146 (.agg #[.int .i64 0,.int .i64 0]) 2 16 rfl Tryz.underlying46 enS rfl (by decide) HO3.out rfl rfl (SR0.out.ext HX3.out) (ecells_one _) (by unfold maxLen; have := HG.out; omega) (by have := HG.out; omega) HX3.out.size ?_
    intro r4 v4 ho4 hb4
    obtain ⟨p4,c4,rfl⟩ := owns_shape ho4
    have HX4 : Hid (Ext z0 v4) := ⟨Below.trans HX3.out.below hb4⟩
    have HO4 := hid ho4
    clear ho4 hb4
    refine hK.out _ _ (HSF.out _ HX4.out) ?_
    clear hK K' HSS HX3 HO3
    have HSS := HSF.out _ HX4.out
    (try simp only [nrm])
    refine wpT_done (by kernel_rfl) ?_
    refine wpAny_tk 20 ?_; (try simp only [nrm])
    refine wpAny_tk 21 ?_; (try simp only [nrm])
    refine wpAny_on 22 (fun K' hK => ?_)
    have g0 := HSS
    have f0 := (HT0.out.ext HX4.out).cells.2
    clear HSS
    go_simp
    refine hK.out _ _ ?_
    (try simp only [nrm])
    refine wpAny_done (by kernel_rfl) ?_ _
    have hrow : v4.ownsRow z0.heap.size 146 2 (.slice p4 (k + 1 + (l.length - k)) c4) (l.take k ++ (id,un) :: l.drop k).length ((l.take k ++ (id,un) :: l.drop k).flatMap ecells) := by
      have h4 := HO4.out
      rw [List.flatMap_append,List.flatMap_cons,show (l.take k ++ (id,un) :: l.drop k).length = k + 1 + (l.length - k) by rw [List.length_append,List.length_cons,List.length_take,List.length_drop,Nat.min_eq_left HG.out.1]; omega]
      rw [List.append_assoc] at h4
      exact h4
    obtain ⟨q1,q2⟩ := HT0.out.lay HX4.out hrow (by rw [HZ.out]; exact HG.out.2.2)
    exact ⟨rfl,_,_,_,_,_,_,_,_,_,_,_,_,_,_,_,_,_,_,_,_,_,_,_,_,_,_,_,_,_,_,_,_,_,_,_,_,_,_,_,_,_,_,_,_,_,_,_,_,_,_,rfl,q1,HM0.out.trans q2⟩
end Kf
end Go.Proofs.YtocicffmajbecaaGreatDoor
namespace Go.Proofs.YtocicffmajbecaaGreatDoor
open Go.RowKit
namespace Kf
open Rw Ti
set_option linter.unusedSimpArgs false
def Sor (l : List En) : Prop := l.Pairwise (fun a b => a.1 < b.1)
theorem Sor.apart {l : List En} (h : Sor l) : Apart l := by
  unfold Apart
  exact List.pairwise_map.2 (h.imp fun h => by omega)
theorem ins_sor {l : List En} {id un : Int} {k : Nat} (h : Sor l) (hno : ∀ e ∈ l,e.1 ≠ id) (h1 : ∀ i (hi : i < l.length),i < k → l[i].1 < id) (h2 : ∀ hk : k < l.length,¬ l[k].1 < id) :
    Sor (l.take k ++ (id,un) :: l.drop k) := by
  have hs : Sor (l.take k ++ l.drop k) := by rw [List.take_append_drop]; exact h
  unfold Sor at *
  obtain ⟨s1,s2,s3⟩ := List.pairwise_append.1 hs
  refine List.pairwise_append.2 ⟨s1,List.pairwise_cons.2 ⟨fun b hb => ?_,s2⟩,fun a ha b hb => ?_⟩
  · by_cases hk : k < l.length
    · rw [List.drop_eq_getElem_cons hk] at hb s2
      have h3 := h2 hk
      have h4 := hno l[k] (List.getElem_mem hk)
      rcases List.mem_cons.1 hb with rfl | hb
      · simp; omega
      · have := (List.pairwise_cons.1 s2).1 b hb
        simp; omega
    · rw [List.drop_eq_nil_of_le (by omega)] at hb
      cases hb
  · obtain ⟨i,hi,rfl⟩ := List.getElem_of_mem ha
    rw [List.length_take] at hi
    have h3 := h1 i (by omega) (by omega)
    rw [List.getElem_take] at *
    rcases List.mem_cons.1 hb with rfl | hb
    · exact h3
    · have := s3 _ ha b hb
      simpa using this
theorem ins_perm {l : List En} {id un : Int} {k : Nat} : (l.take k ++ (id,un) :: l.drop k).Perm ((id,un) :: l) := by
  refine List.perm_middle.trans (List.Perm.cons _ ?_)
  rw [List.take_append_drop]
section
variable {base : Nat} {y : Site} {v : Value} {l : List En} {w w' : World}
set_option maxRecDepth 100000 in
set_option maxHeartbeats 4000000 in
theorem set_any (h : Rm base y v l w) (hs : Sor l) (hl : l.length ≤ 999) (hb : base ≤ w.heap.size) (id un : Int) :
    Calls Tryz.prog 60 #[.pointer (some ⟨y.b,y.d,none⟩),.int .i64 id,.int .i64 un] w fun e w' => e = .returned (.tuple #[]) ∧ ∃ v' l',l'.Perm (put id un l) ∧ Sor l' ∧ Rm base y v' l' w' ∧ Mvp (ROwn y v) (ROwn y v') w w' := by
  have CD := hid (drop_any h (by omega) hb id)
  have hle : (others id l).length ≤ l.length := List.length_filter_le _ _
  have hso : Sor (others id l) := List.Pairwise.filter _ hs
  have hno : ∀ e ∈ others id l,e.1 ≠ id := fun e he => (mem_others.1 he).2
  have HBB := hid hb
  have HLL := hid hl
  clear h hl hs hb
  go_enter Tryz.func60,Tryz.ntmps60
  go_wp2_with fail
  (with_reducible refine CD.out.mono ?_)
  rintro e w1 ⟨rfl,v1,h1,m1⟩
  have HPUT : Hid (put id un l = (id,un) :: others id l) := rfl
  generalize others id l = M at *
  have HM := hid m1
  have H1 := hid h1
  have HLE := hid hle
  have HSO := hid (And.intro hso hno)
  have HB1 : Hid (base ≤ w1.heap.size) := by have := m1.size; have := HBB.out; exact Nat.le_trans this ‹_›
  obtain ⟨p,cap,rfl,-,-,-⟩ := h1.row.slice
  obtain ⟨c0,f0⟩ := h1.cells
  clear CD hle hso hno m1 h1
  have HDONE : Hid (∀ (k : Nat) (e : Ending) (w2 : World) (v' : Value),(∀ i (hi : i < M.length),i < k → M[i].1 < id) → (∀ hk : k < M.length,¬ M[k].1 < id) → Rm base y v' (M.take k ++ (id,un) :: M.drop k) w2 → Mvp (ROwn y (.slice p M.length cap)) (ROwn y v') w1 w2 →
      ∃ v' l',l'.Perm (put id un l) ∧ Sor l' ∧ Rm base y v' l' w2 ∧ Mvp (ROwn y v) (ROwn y v') w w2) := fun k e w2 v' a1 a2 a3 a4 =>
    ⟨v',_,by rw [HPUT.out]; exact ins_perm,ins_sor HSO.out.1 HSO.out.2 a1 a2,a3,HM.out.trans a4⟩
  go_wp2_with fail
  go_loopw [6] (fun s wr => ∃ k : Nat,s = .int .i64 k ∧ k ≤ M.length ∧ wr = w1 ∧ Hid (∀ i (_ : i < M.length),i < k → M[i].1 < id)) (fun s _ => (M.length - intOf s).toNat)
  case atStart => exact ⟨0,rfl,by omega,rfl,fun i _ hi => by omega⟩
  case round =>
    obtain ⟨k,rfl,hk,rfl,hlow⟩ := hrel
    have hlb := HLL.out
    have hle := HLE.out
    by_cases hlt : k < M.length
    · obtain ⟨g,cap',e,-,hg,-,-⟩ := H1.out.row.shape (by omega)
      injection e with e _ ec
      subst e ec
      obtain ⟨d0,d1,-,-⟩ := H1.out.row.cell (List.getElem?_eq_getElem hlt)
      have i4 : (k : Int) < (M.length : Int) := by omega
      have HLO : Hid (M[k].1 < id → ∀ i (_ : i < M.length),i < k + 1 → M[i].1 < id) := fun h i hi hl => by
        by_cases e : i = k
        · subst e; exact h
        · exact hlow.out i hi (by omega)
      have HHI : Hid (¬ M[k].1 < id → ∀ hk : k < M.length,¬ M[k].1 < id) := fun h _ => h
      clear d1
      generalize M[k] = q at *
      by_cases hc : q.1 < id
      · go_wp2
        go_roundw
        case rel => exact ⟨k + 1,by go_num,by omega,trivial,HLO.out hc⟩
        case measure => simp [intOf]; omega
      · have HH := hid (HHI.out hc)
        have PI := @ins_piece base y k id un _ M wr H1.out HB1.out (by omega) (by omega)
        have PI := hid PI
        clear HLO HHI
        go_upto_region 4 with (fail)
        refine wp_meet (InsPost base y k id un (.slice (some ⟨g,0,none⟩) M.length cap) (M.take k ++ (id,un) :: M.drop k) wr) (by apply PI.out) ?_
        refine fun a' y2 => ex_elim fun v' => ex8 fun u3 u4 u5 u7 u8 u9 u10 u11 => ex8 fun u12 u13 u14 u15 u16 u17 u18 u19 => ex8 fun u20 u21 u22 u23 u24 u25 u26 u27 => ex8 fun u28 u29 u30 u31 u32 u33 u34 u35 => ex8 fun u36 u37 u38 u39 u40 u41 u42 u43 => ex8 fun u44 u45 u46 u47 u48 u49 u50 u51 => ex_elim fun u52 => ?_
        rintro ⟨rfl,hT,hM⟩
        have HF := hid (HDONE.out k (.returned (.tuple #[])) y2 v' hlow.out (fun hk => by have := HH.out hk; omega) hT hM)
        clear hT hM
        go_wp2
        go_returns
        exact ⟨rfl,HF.out⟩
    · have PI := @ins_piece base y k id un _ M wr H1.out HB1.out (by omega) (by omega)
      have PI := hid PI
      have HH : Hid (∀ hk : k < M.length,¬ M[k].1 < id) := fun hk => absurd hk hlt
      have i4 : ¬ (k : Int) < (M.length : Int) := by omega
      go_upto_region 4 with (fail)
      refine wp_meet (InsPost base y k id un (.slice p M.length cap) (M.take k ++ (id,un) :: M.drop k) wr) (by apply PI.out) ?_
      refine fun a' y2 => ex_elim fun v' => ex8 fun u3 u4 u5 u7 u8 u9 u10 u11 => ex8 fun u12 u13 u14 u15 u16 u17 u18 u19 => ex8 fun u20 u21 u22 u23 u24 u25 u26 u27 => ex8 fun u28 u29 u30 u31 u32 u33 u34 u35 => ex8 fun u36 u37 u38 u39 u40 u41 u42 u43 => ex8 fun u44 u45 u46 u47 u48 u49 u50 u51 => ex_elim fun u52 => ?_
      rintro ⟨rfl,hT,hM⟩
      have HF := hid (HDONE.out k (.returned (.tuple #[])) y2 v' hlow.out (fun hk => by have := HH.out hk; omega) hT hM)
      clear hT hM
      go_wp2
      go_returns
      exact ⟨rfl,HF.out⟩
end
end Kf
end Go.Proofs.YtocicffmajbecaaGreatDoor
namespace Go.Proofs.YtocicffmajbecaaGreatDoor
open Go.RowKit
namespace Kf
open Rw Ti
set_option linter.unusedSimpArgs false
def LeastOf (b : Int) (l : List En) : Prop := (l = [] ∧ b = 0) ∨ ((∃ e ∈ l,e.2 = b) ∧ ∀ e ∈ l,b ≤ e.2)
theorem LeastOf.is {b : Int} {l : List En} (h : LeastOf b l) : IsLeast b l := h
theorem LeastOf.less {b : Int} {l : List En} {q : En} (h : LeastOf b l) (hq : l = [] ∨ q.2 < b) : LeastOf q.2 (l ++ [q]) := by
  refine .inr ⟨⟨q,by simp,rfl⟩,fun e he => ?_⟩
  rcases List.mem_append.1 he with he | he
  · rcases h with ⟨h1,_⟩ | ⟨_,h2⟩
    · rw [h1] at he; cases he
    · have := h2 e he
      rcases hq with hq | hq
      · rw [hq] at he; cases he
      · omega
  · rw [List.mem_singleton.1 he]; exact Int.le_refl _
theorem LeastOf.same {b : Int} {l : List En} {q : En} (h : LeastOf b l) (h0 : l ≠ []) (hq : ¬ q.2 < b) : LeastOf b (l ++ [q]) := by
  rcases h with ⟨h1,_⟩ | ⟨⟨e,h1,h2⟩,h3⟩
  · exact absurd h1 h0
  · refine .inr ⟨⟨e,by simp [h1],h2⟩,fun e he => ?_⟩
    rcases List.mem_append.1 he with he | he
    · exact h3 e he
    · rw [List.mem_singleton.1 he]; omega
section
variable {base : Nat} {y : Site} {v : Value} {l : List En} {w w' : World}
end
end Kf
end Go.Proofs.YtocicffmajbecaaGreatDoor
namespace Go.Proofs.YtocicffmajbecaaGreatDoor
open Go.RowKit
namespace Kf
open Rw Ti
set_option linter.unusedSimpArgs false
structure Part (w : World) (tk sl : List En) (vd vl : Value) (wr : World) : Prop where
  xt : Ext w wr
  due : wr.ownsRow w.heap.size 3 1 vd tk.length (tk.map fun e => .int .i64 e.1)
  on : wr.ownsRow w.heap.size 146 2 vl sl.length (sl.flatMap ecells)
  apart : ∀ k,vd.ownBlock = some k → vl.ownBlock ≠ some k
section
variable {w wr w2 : World} {tk sl : List En} {vd vl : Value} {q : En}
theorem grown_ext {b : Option Nat} (h : Ext w wr) (k : wr.grownBy w2 b) (hb : ∀ i,b = some i → w.heap.size ≤ i) : Ext w w2 := by
  refine ⟨⟨k.os.trans h.below.os,k.tape.trans h.below.tape,k.output.trans h.below.output,Nat.le_trans h.size k.size,fun i hi => ?_⟩⟩
  rw [k.block i (Nat.lt_of_lt_of_le hi h.size) fun e => absurd (hb i e.symm) (by omega)]
  exact h.below.block i hi
theorem Part.pushD {o : Obj} {vd' : Value} (h : Part w tk sl vd vl wr) (k : (wr.alloc o).grownBy w2 vd.ownBlock) (hloc : vd'.ownBlock = vd.ownBlock ∨ vd'.ownBlock = some (wr.alloc o).heap.size)
    (ho : w2.ownsRow w.heap.size 3 1 vd' (tk.length + 1) ((tk.map fun e : En => .int .i64 e.1) ++ [.int .i64 q.1])) : Part w (tk ++ [q]) sl vd' vl w2 := by
  have hx1 : Ext w (wr.alloc o) := Ext.alloc h.xt o
  have hon := owns_ext h.on (Ext.alloc (Ext.refl wr) o)
  have hbd := owns_below h.due
  have hbl := owns_below h.on
  refine ⟨grown_ext hx1 k fun i hi => (hbd i hi).1,by rw [List.length_append,List.map_append]; exact ho,owns_keep hon fun g hg => k.block g (owns_below hon g hg).2 (fun e => h.apart g e.symm hg),fun i hi hl => ?_⟩
  rcases hloc with h1 | h1
  · exact h.apart i (h1 ▸ hi) hl
  · rw [hi] at h1
    have h2 := (hbl i hl).2
    have h3 : i = (wr.alloc o).heap.size := Option.some.inj h1
    simp at h3
    omega
theorem Part.pushS {o : Obj} {vl' : Value} (h : Part w tk sl vd vl wr) (k : (wr.alloc o).grownBy w2 vl.ownBlock) (hloc : vl'.ownBlock = vl.ownBlock ∨ vl'.ownBlock = some (wr.alloc o).heap.size)
    (ho : w2.ownsRow w.heap.size 146 2 vl' (sl.length + 1) (sl.flatMap ecells ++ [.int .i64 q.1,.int .i64 q.2])) : Part w tk (sl ++ [q]) vd vl' w2 := by
  have hx1 : Ext w (wr.alloc o) := Ext.alloc h.xt o
  have hon := owns_ext h.due (Ext.alloc (Ext.refl wr) o)
  have hbd := owns_below h.due
  have hbl := owns_below h.on
  refine ⟨grown_ext hx1 k fun i hi => (hbl i hi).1,owns_keep hon fun g hg => k.block g (owns_below hon g hg).2 (fun e => h.apart g hg e.symm),by rw [List.length_append,List.flatMap_append]; exact ho,fun i hi hl => ?_⟩
  rcases hloc with h1 | h1
  · exact h.apart i hi (h1 ▸ hl)
  · rw [hl] at h1
    have h2 := (hbd i hi).2
    have h3 : i = (wr.alloc o).heap.size := Option.some.inj h1
    simp at h3
    omega
end
theorem isDue_take {tick : Int} {l : List En} {k : Nat} (hk : k < l.length) (h : l[k].2 ≤ tick) : isDue tick (l.take (k + 1)) = isDue tick (l.take k) ++ [l[k]] ∧ sleepOn tick (l.take (k + 1)) = sleepOn tick (l.take k) := by
  rw [List.take_succ_eq_append_getElem hk]
  unfold isDue sleepOn
  rw [List.filter_append,List.filter_append]
  simp [h]
theorem sleepOn_take {tick : Int} {l : List En} {k : Nat} (hk : k < l.length) (h : ¬ l[k].2 ≤ tick) : isDue tick (l.take (k + 1)) = isDue tick (l.take k) ∧ sleepOn tick (l.take (k + 1)) = sleepOn tick (l.take k) ++ [l[k]] := by
  rw [List.take_succ_eq_append_getElem hk]
  unfold isDue sleepOn
  rw [List.filter_append,List.filter_append]
  simp [h]
theorem due_len (tick : Int) (l : List En) (k : Nat) : (isDue tick (l.take k)).length ≤ l.length ∧ (sleepOn tick (l.take k)).length ≤ l.length := by
  have h := List.length_take_le k l
  have h' : (l.take k).length ≤ l.length := by rw [List.length_take]; omega
  exact ⟨Nat.le_trans (List.length_filter_le _ _) h',Nat.le_trans (List.length_filter_le _ _) h'⟩
section
variable {base : Nat} {y : Site} {v : Value} {l : List En} {w w' : World}
theorem infoS : (Tryz.prog.info? 146).map (fun i => (i.zero,i.size,i.bytes)) = some (some (.agg #[.int .i64 0,.int .i64 0]),2,16) := enS
set_option maxRecDepth 100000 in
set_option maxHeartbeats 8000000 in
theorem due_any (h : Rm base y v l w) (hl : l.length ≤ 1000) (hb : base ≤ w.heap.size) (tick : Int) :
    Calls Tryz.prog 69 #[.pointer (some ⟨y.b,y.d,none⟩),.int .i64 tick] w fun e w' => ∃ vd v',e = .returned vd ∧ Rm base y v' (sleepOn tick l) w' ∧ Mvp (ROwn y v) (ROwn y v') w w' ∧
      w'.ownsRow w.heap.size 3 1 vd (isDue tick l).length ((isDue tick l).map fun e => .int .i64 e.1) ∧ ∀ k,vd.ownBlock = some k → ¬ ROwn y v' k := by
  obtain ⟨p,cap,rfl,-,-,-⟩ := h.row.slice
  obtain ⟨c0,f0⟩ := h.cells
  have hylt := h.lt
  obtain ⟨i0,hi,hz0,hz1,hz2⟩ := info_parts infoI
  obtain ⟨i1,hi',hz0',hz1',hz2'⟩ := info_parts infoS
  have HH := hid h
  have HL := hid hl
  have HB := hid hb
  clear h hl hb
  go_enter Tryz.func69,Tryz.ntmps69
  go_wp2_with fail
  go_loopw [5,6,7] (fun vd vl s wr => ∃ k : Nat,s = .int .i64 k ∧ k ≤ l.length ∧ Hid (Part w (isDue tick (l.take k)) (sleepOn tick (l.take k)) vd vl wr)) (fun _ _ s _ => (l.length - intOf s).toNat)
  case atStart => exact ⟨0,rfl,by omega,⟨Ext.refl _,World.ownsRow_nil _ _ _ _,World.ownsRow_nil _ _ _ _,fun k hk => by cases hk⟩⟩
  case round =>
    obtain ⟨k,rfl,hk,hp⟩ := hrel
    have hlb := HL.out
    have hx := hp.out.xt
    have q2 := hx.cell c0
    by_cases hlt : k < l.length
    · obtain ⟨g,cap',e,-,hg,-,-⟩ := HH.out.row.shape (by omega)
      injection e with e _ ec
      subst e ec
      obtain ⟨d0,d1,-,-⟩ := HH.out.row.cell (List.getElem?_eq_getElem hlt)
      have q0 := hx.cell d0
      have q1 := hx.cell d1
      have hdl := due_len tick l k
      have i4 : (k : Int) < (l.length : Int) := by omega
      have hws := hx.size
      have HT1 := hid (@isDue_take tick l k hlt)
      have HT2 := hid (@sleepOn_take tick l k hlt)
      have HDL := hid hdl
      have HXS := hid hws
      generalize l[k] = q at *
      clear d0 d1 hx hdl hws
      by_cases hd : q.2 ≤ tick
      · have hq : decide (q.2 ≤ tick) = true := by simpa using hd
        have HT := hid (HT1.out hd)
        have q3 : (wr.alloc (.cells #[.int .i64 q.1] 3 (0,0))).heap.size = wr.heap.size + 1 := by simp
        clear HT1 HT2
        go_wp2_with (at_builtin; refine wpList_append_own_at _ rfl _ _ 50 rfl w.heap.size 3 i0 (.int .i64 0) 1 8 Tryz.underlying50 hi hz0 hz1 hz2 rfl (by decide) _ _ _ rfl (hp.out.due.alloc _) ⟨wr.heap.size,0,none⟩ 1 1 [.int .i64 q.1] rfl rfl (cell_one_new _ _ _) (ints_oneCell .i64 [q.1]) (by unfold maxLen; have := HDL.out; omega) (by have := HDL.out; omega) (by have := HXS.out; simp; omega) ?_; intro vd' w2 hown' hgrow hnil hloc; have H2 := hid (hp.out.pushD (q := q) hgrow hloc hown'); clear hnil hloc hgrow hown')
        go_roundw
        case rel => exact ⟨k + 1,by go_num,by omega,by rw [HT.out.1,HT.out.2]; exact H2⟩
        case measure => simp [intOf]; omega
      · have hq : decide (q.2 ≤ tick) = false := by simpa using hd
        have HT := hid (HT2.out hd)
        clear HT1 HT2
        go_wp2_with (at_builtin; refine wpList_append_own_at _ rfl _ _ 46 rfl w.heap.size 146 i1 (.agg #[.int .i64 0,.int .i64 0]) 2 16 Tryz.underlying46 hi' hz0' hz1' hz2' rfl (by decide) _ _ _ rfl (hp.out.on.alloc _) ⟨wr.heap.size,0,none⟩ 1 1 [.int .i64 q.1,.int .i64 q.2] rfl rfl (by intro j u hj; rw [add_add,Nat.zero_add,blk_cellS (heap_alloc_new wr _) j]; simpa using hj) (by intro u hu; simp at hu; rcases hu with rfl | rfl <;> rfl) (by unfold maxLen; have := HDL.out; omega) (by have := HDL.out; omega) (by have := HXS.out; simp; omega) ?_; intro vd' w2 hown' hgrow hnil hloc; have H2 := hid (hp.out.pushS (q := q) hgrow hloc hown'); clear hnil hloc hgrow hown')
        go_roundw
        case rel => exact ⟨k + 1,by go_num,by omega,by rw [HT.out.1,HT.out.2]; exact H2⟩
        case measure => simp [intOf]; omega
    · obtain rfl : k = l.length := by omega
      have hp1 := hp.out
      rw [List.take_length] at hp1
      have HP := hid hp1
      obtain ⟨pv,cv,rfl⟩ := owns_shape hp1.on
      have f2 : wr.frozen? ⟨y.b,y.d,none⟩ = false := by rw [hx.below.frozen hylt]; exact f0
      have HFIN := hid (HH.out.lay hx hp1.on HB.out)
      have HX := hid hx
      have HN : Hid (y.b < w.heap.size) := hylt
      clear hp1 hp hx
      generalize (sleepOn tick l).length = N at *
      go_wp2
      go_returns
      refine ⟨_,_,rfl,HFIN.out.1,HFIN.out.2,owns_keep HP.out.due fun g hg => Below.heap_setCell _ _ _ _ fun e => ?_,fun k hk hc => ?_⟩
      · have := (owns_below HP.out.due g hg).1
        have := HN.out
        simp at e
        omega
      · rcases hc with rfl | hc
        · have := (owns_below HP.out.due _ hk).1
          have := HN.out
          omega
        · exact HP.out.apart k hk hc
end
end Kf
end Go.Proofs.YtocicffmajbecaaGreatDoor
