/- The program's own tree: a new one; what is told of one node, of all. -/
import Derived.Test.YtocicffmajbecaaGreatDoorPt6
namespace Go.Proofs.YtocicffmajbecaaGreatDoor
open Go.RowKit
set_option linter.unusedSimpArgs false
def rootN : Nd := ⟨0,-1,1,0,false,false,0⟩
abbrev ownT (b : Nat) : Site := ⟨b,0,1,69,fun _ => .bool false⟩
set_option maxRecDepth 100000 in
set_option maxHeartbeats 2000000 in
theorem newT_any (w : World) : Calls Tryz.prog 35 #[] w fun e w' => ∃ x W,e = .returned (.pointer (some ⟨x,0,none⟩)) ∧ Pt w.heap.size (ownT x) W [rootN] w' ∧ QOk W [rootN] ∧ Ext w w' := by
  go_enter Tryz.func35,Tryz.ntmps35
  go_wp2_with fail
  (with_reducible refine (new_any 60 w).mono ?_)
  rintro e w1 ⟨rfl,hI,hX⟩
  have HI := hid hI
  have HX := hid hX
  have hb := hI.lt
  clear hI hX
  go_wp2
  go_returns
  refine ⟨_,⟨.slice (some ⟨w1.heap.size + 1,0,none⟩) 1 1,fun _ => w1.heap.size,fun _ => w.heap.size,fun _ => .slice none 0 0,fun _ => []⟩,rfl,?_,?_,ext_by⟩
  · have x1 := Ext.alloc (Ext.refl w1) (.cells #[.int .i64 0,.int .i64 1,.bool false,.pointer none,.complex .f64 0 0,.pointer (some ⟨w.heap.size,0,none⟩)] 124 (0,0))
    have b1 := heap_alloc_new w1 (.cells #[.int .i64 0,.int .i64 1,.bool false,.pointer none,.complex .f64 0 0,.pointer (some ⟨w.heap.size,0,none⟩)] 124 (0,0))
    have s1 : (w1.alloc (.cells #[.int .i64 0,.int .i64 1,.bool false,.pointer none,.complex .f64 0 0,.pointer (some ⟨w.heap.size,0,none⟩)] 124 (0,0))).heap.size = w1.heap.size + 1 := by simp
    generalize w1.alloc (.cells #[.int .i64 0,.int .i64 1,.bool false,.pointer none,.complex .f64 0 0,.pointer (some ⟨w.heap.size,0,none⟩)] 124 (0,0)) = w2 at *
    have x2 := Ext.alloc (Ext.refl w2) (.cells #[.pointer (some ⟨w1.heap.size,0,none⟩)] 119 (0,0))
    have b2 := heap_alloc_new w2 (.cells #[.pointer (some ⟨w1.heap.size,0,none⟩)] 119 (0,0))
    have s2 : (w2.alloc (.cells #[.pointer (some ⟨w1.heap.size,0,none⟩)] 119 (0,0))).heap.size = w2.heap.size + 1 := by simp
    rw [s1] at b2 s2
    generalize w2.alloc (.cells #[.pointer (some ⟨w1.heap.size,0,none⟩)] 119 (0,0)) = w3 at *
    have x3 := Ext.alloc (Ext.refl w3) (.cells #[.slice (some ⟨w1.heap.size + 1,0,none⟩) 1 1] 69 (0,0))
    have b3 := heap_alloc_new w3 (.cells #[.slice (some ⟨w1.heap.size + 1,0,none⟩) 1 1] 69 (0,0))
    rw [s2] at b3
    generalize w3.alloc (.cells #[.slice (some ⟨w1.heap.size + 1,0,none⟩) 1 1] 69 (0,0)) = w4 at *
    refine ⟨Site.At.whole b3,(by decide : 69 ≠ 124 ∧ 69 ≠ 174 ∧ 69 ≠ 187 ∧ 69 ≠ 119),by show w.heap.size ≤ w1.heap.size + 1 + 1; omega,?_,?_,?_,?_,?_,?_⟩
    · exact ⟨rfl,.inr ⟨w1.heap.size + 1,1,_,rfl,by omega,block_ext' x3 b2,Nat.le_refl _,by unfold maxLen; omega,rfl,rfl⟩⟩
    · intro n hn
      obtain rfl := List.mem_singleton.1 hn
      refine ⟨?_,by show w.heap.size ≤ w1.heap.size; omega⟩
      have := block_ext' x3 (block_ext' x2 b1)
      simpa [pnc,Wit.grp,Wit.que,rootN,zero_Fz] using this
    · intro n hn _
      exact ⟨HI.out.ext ((x1.trans x2).trans x3),Nat.le_refl _⟩
    · intro n hn m hm _
      rw [List.mem_singleton.1 hn,List.mem_singleton.1 hm]
    · intro n hn m hm _ _ _
      rw [List.mem_singleton.1 hn,List.mem_singleton.1 hm]
    · intro n hn m hm _ _ _ _ _
      rw [List.mem_singleton.1 hn,List.mem_singleton.1 hm]
  · intro g hg _
    refine ⟨List.Pairwise.nil,fun e => ⟨fun h => absurd h List.not_mem_nil,?_⟩⟩
    rintro ⟨m,hm,hp,hr,-⟩
    rw [List.mem_singleton.1 hm] at hr
    cases hr
section
variable {base : Nat} {x : Site} {W : Wit} {l : List Nd} {w : World}
structure TOk (base : Nat) (x : Site) (W : Wit) (l : List Nd) (w : World) : Prop where
  pt : Pt base x W l w
  qok : QOk W l
  ids : Ids l
  clo : Clo l
  bdd : Bdd l
  rt : Rt l
  len : l.length ≤ 60
theorem TOk.ext {w' : World} (h : TOk base x W l w) (k : Ext w w') : TOk base x W l w' := ⟨h.pt.ext k,h.qok,h.ids,h.clo,h.bdd,h.rt,h.len⟩
theorem told_at (h : TOk base x W l w) {n : Nd} (hn : n ∈ l) : Calls Tryz.prog 86 #[.pointer (some ⟨W.nb n.id,0,none⟩)] w (Yields w (nnV n.nn)) :=
  told_any h.pt h.qok h.ids h.clo h.bdd h.rt h.len hn
set_option maxRecDepth 100000 in
set_option maxHeartbeats 2000000 in
theorem node_any (h : TOk base x W l w) {n : Nd} (hn : n ∈ l) :
    Calls Tryz.prog 49 #[.pointer (some ⟨x.b,x.d,none⟩),.int .i64 n.id] w (Yields w (.tuple #[nnV n.nn,.bool true])) := by
  have HF : Hid (∀ w',Ext w w' → Calls Tryz.prog 79 #[.pointer (some ⟨x.b,x.d,none⟩),.int .i64 n.id] w' (Yields w' (.pointer (some ⟨W.nb n.id,0,none⟩)))) := fun w' hx => find_yes (h.pt.ext hx) h.ids (by have := h.len; omega) hn
  have HT : Hid (∀ w',Ext w w' → Calls Tryz.prog 86 #[.pointer (some ⟨W.nb n.id,0,none⟩)] w' (Yields w' (nnV n.nn))) := fun w' hx => told_at (h.ext hx) hn
  clear h hn
  have HV : Hid (nnV n.nn = .agg #[.int .i64 n.id,.int .i64 n.par,.int .i64 n.wt,.int .i64 n.pass,.bool n.thr,.bool n.rdy]) := rfl
  rw [HV.out] at HT ⊢
  go_enter Tryz.func49,Tryz.ntmps49
  go_wp2_with fail
  have hb0 := heap_alloc_new w (.cells #[.int .i64 0,.int .i64 0,.int .i64 0,.int .i64 0,.bool false,.bool false] 101 (0,0))
  have hx0 : Ext w (w.alloc (.cells #[.int .i64 0,.int .i64 0,.int .i64 0,.int .i64 0,.bool false,.bool false] 101 (0,0))) := Ext.alloc (Ext.refl w) _
  generalize w.alloc (.cells #[.int .i64 0,.int .i64 0,.int .i64 0,.int .i64 0,.bool false,.bool false] 101 (0,0)) = w1 at *
  (with_reducible refine (HF.out _ hx0).mono ?_)
  rintro e w2 ⟨rfl,hx⟩
  have hb2 := block_ext' hx hb0
  have hx2 := hx0.trans hx
  clear hx hx0 hb0
  go_wp2_with fail
  (with_reducible refine (HT.out _ hx2).mono ?_)
  rintro e w3 ⟨rfl,hx⟩
  have hb3 := block_ext' hx hb2
  have hx3 := hx2.trans hx
  clear hx hx2 hb2
  have m0 : w3.cell? ⟨w.heap.size,0,none⟩ = some (.int .i64 0) := by simp [World.cell?,hb3]
  have m1 : w3.cell? ⟨w.heap.size,1,none⟩ = some (.int .i64 0) := by simp [World.cell?,hb3]
  have m2 : w3.cell? ⟨w.heap.size,2,none⟩ = some (.int .i64 0) := by simp [World.cell?,hb3]
  have m3 : w3.cell? ⟨w.heap.size,3,none⟩ = some (.int .i64 0) := by simp [World.cell?,hb3]
  have m4 : w3.cell? ⟨w.heap.size,4,none⟩ = some (.bool false) := by simp [World.cell?,hb3]
  have m5 : w3.cell? ⟨w.heap.size,5,none⟩ = some (.bool false) := by simp [World.cell?,hb3]
  have fz : ∀ j,w3.frozen? ⟨w.heap.size,j,none⟩ = false := fun j => by simp [World.frozen?,hb3]
  have HB := hid (six_set hb3 (.int .i64 n.id) (.int .i64 n.par) (.int .i64 n.wt) (.int .i64 n.pass) (.bool n.thr) (.bool n.rdy))
  clear hb3
  go_wp2
  have hx4 := six_ext hx3 (.int .i64 n.id) (.int .i64 n.par) (.int .i64 n.wt) (.int .i64 n.pass) (.bool n.thr) (.bool n.rdy)
  have hb4 := HB.out
  clear HB m0 m1 m2 m3 m4 m5 fz
  generalize ((((((w3.setCell ⟨w.heap.size,0,none⟩ (.int .i64 n.id)).setCell ⟨w.heap.size,1,none⟩ (.int .i64 n.par)).setCell ⟨w.heap.size,2,none⟩ (.int .i64 n.wt)).setCell ⟨w.heap.size,3,none⟩ (.int .i64 n.pass)).setCell ⟨w.heap.size,4,none⟩ (.bool n.thr)).setCell ⟨w.heap.size,5,none⟩ (.bool n.rdy)) = w4 at *
  have m0 : w4.cell? ⟨w.heap.size,0,none⟩ = some (.int .i64 n.id) := by simp [World.cell?,hb4]
  have m1 : w4.cell? ⟨w.heap.size,1,none⟩ = some (.int .i64 n.par) := by simp [World.cell?,hb4]
  have m2 : w4.cell? ⟨w.heap.size,2,none⟩ = some (.int .i64 n.wt) := by simp [World.cell?,hb4]
  have m3 : w4.cell? ⟨w.heap.size,3,none⟩ = some (.int .i64 n.pass) := by simp [World.cell?,hb4]
  have m4 : w4.cell? ⟨w.heap.size,4,none⟩ = some (.bool n.thr) := by simp [World.cell?,hb4]
  have m5 : w4.cell? ⟨w.heap.size,5,none⟩ = some (.bool n.rdy) := by simp [World.cell?,hb4]
  exact bodyPost_ret (v := .tuple #[.agg #[.int .i64 n.id,.int .i64 n.par,.int .i64 n.wt,.int .i64 n.pass,.bool n.thr,.bool n.rdy],.bool true]) (by simp [results,Tryz.results49,go_sem,m0,m1,m2,m3,m4,m5]) rfl ⟨rfl,hx4⟩
set_option maxRecDepth 100000 in
set_option maxHeartbeats 2000000 in
theorem nodes_any (h : TOk base x W l w) :
    Calls Tryz.prog 73 #[.pointer (some ⟨x.b,x.d,none⟩)] w fun e w' => ∃ v',e = .returned v' ∧ ARow w' w.heap.size v' (l.map Nd.nn) ∧ Ext w w' := by
  obtain ⟨p,cap,hv,hc1,hc2,hp0,hp1⟩ := h.pt.shape
  unfold maxLen at hc2
  have H := hid h
  have HV := hid hv
  have HP := hid hp1
  have HN := hid hp0
  have hx := h.pt.lt
  have c0 := h.pt.cell
  rw [hv] at c0
  have hlen := h.len
  obtain ⟨i0,hi0,hz0,hzs,hzb⟩ := info_parts infoNn
  obtain ⟨w1,hrun,hr1,hg1⟩ := run_make_own (P := Tryz.prog) w w.heap.size 62 101 i0 _ 6 Tryz.underlying62 hi0 hz0 hzs .i64 .i64 l.length (by rw [hzb]; omega) (by unfold maxLen; omega) (Nat.le_refl _)
  have hx1 : Ext w w1 := ⟨⟨hg1.os,hg1.tape,hg1.output,hg1.size,fun k hk => hg1.block k hk (by simp)⟩⟩
  have c1 := hx1.cell c0
  have HR1 := hid hr1
  clear h hp0 hp1 hv hr1 hg1 hi0 hz0 hzs hzb
  go_enter Tryz.func73,Tryz.ntmps73
  go_wp2
  go_loopw [3,17] (fun v3 v17 wr => Ext w wr ∧ ∃ k : Nat,v17 = .int .i64 k ∧ k ≤ l.length ∧ Hid (wr.ownsRow w.heap.size 101 6 v3 k (((l.take k).map Nd.nn).flatMap nnc))) (fun _ v17 _ => (l.length - (intOf v17).toNat))
  case atStart => exact ⟨hx1,0,rfl,Nat.zero_le _,by simpa [Hid] using HR1.out⟩
  case round =>
    obtain ⟨X,k,rfl,hk,hno⟩ := hrel
    by_cases hlt : k < l.length
    · obtain ⟨a,rfl⟩ : ∃ a,p = some a := by
        cases p with
        | none => exact absurd (HN.out rfl).1 (by intro e; rw [e] at hlt; simp at hlt)
        | some a => exact ⟨a,rfl⟩
      obtain ⟨g,rfl,hg,hgl⟩ := HP.out a rfl
      have hn : l[k]? = some l[k] := List.getElem?_eq_getElem hlt
      have f0 := X.cell (H.out.pt.ptr HV.out hn)
      have HT : Hid (((l.take (k + 1)).map Nd.nn).flatMap nnc = ((l.take k).map Nd.nn).flatMap nnc ++ nnc l[k].nn) := by
        unfold Hid
        rw [List.take_succ_eq_append_getElem hlt,List.map_append,List.flatMap_append]; simp
      have i1 : (k : Int) < l.length := by omega
      have HX := hid X
      have HTD := hid (told_at (H.out.ext X) (List.getElem_mem hlt))
      have hgr : g < wr.heap.size := by have := X.size; omega
      clear hn
      generalize l[k] = n at *
      go_wp2_with fail
      (with_reducible refine HTD.out.mono ?_)
      rintro e w2 ⟨rfl,hx2⟩
      have hno2 := hid (owns_ext hno.out hx2)
      have HX2 := hid (HX.out.trans hx2)
      have hk2 : (k + 1) * 40 ≤ 140737488355328 := by omega
      clear HTD
      go_wp2_with (at_builtin; refine wpList_push_own rfl (.tmp 21) (.tmp 24) 62 101 (.agg #[.int .i64 0,.int .i64 0,.int .i64 0,.int .i64 0,.bool false,.bool false]) 6 40 rfl Tryz.underlying62 infoNn rfl (by decide) hno2.out (news := nnc n.nn) rfl (by intro u hu; simp only [nnc,List.mem_cons,List.not_mem_nil,or_false] at hu; rcases hu with rfl | rfl | rfl | rfl | rfl | rfl <;> rfl) (by unfold maxLen; omega) hk2 HX2.out.size rfl rfl rfl ?_; intro p1 c1 w3 ho1 hb1)
      go_roundw
      case rel => exact ⟨⟨Below.trans HX2.out.below hb1⟩,k + 1,by go_num,by omega,by rw [HT.out]; exact ho1⟩
      case measure => simp [intOf]; omega
    · obtain rfl : k = l.length := by omega
      have hr := hno.out
      rw [List.take_length] at hr
      have HR := hid hr
      clear hr
      go_wp2
      go_returns
      exact ⟨_,rfl,by unfold ARow; rw [List.length_map]; exact HR.out,X⟩
end
end Go.Proofs.YtocicffmajbecaaGreatDoor
