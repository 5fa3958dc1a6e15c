/- What a Due answers, read; the statements' own check of package timer. -/
import Derived.Test.YtocicffmajbecaaGreatDoorRows
import Derived.Test.YtocicffmajbecaaGreatDoorTiM
import Derived.Test.YtocicffmajbecaaGreatDoorMvp
import Derived.Test.YtocicffmajbecaaGreatDoorSite
import Derived.Maps.OwnSet
import Derived.WalkKit
import Derived.OwnWalk
import Derived.Handy
import Derived.Test.YtocicffmajbecaaGreatDoorTail
import Derived.WalkSpells
import Derived.WalkLawsBesides
import Derived.Deep.RegionLaw
import Derived.IntWalk
import Derived.Test.YtocicffmajbecaaGreatDoorInts
import Derived.Test.YtocicffmajbecaaGreatDoorHop
import Derived.Test.YtocicffmajbecaaGreatDoorPiece
import Derived.Test.YtocicffmajbecaaGreatDoorSort
import Derived.Sort.OwnSortedInts
import Derived.Maps.AppendAt
namespace Go.Proofs.YtocicffmajbecaaGreatDoor
open Go.RowKit
namespace Ti
open Rw
open Go.Maps (Tidy IsMap Keyed)
theorem enT : IsEn Tryz.prog 142 := by unfold IsEn; kernel_rfl
theorem law : Keyed Tryz.prog 3 := Go.Maps.int_keyed Tryz.underlying3
theorem zeroI (w : World) : (zeroValue 3).run Tryz.prog w = .ok (.int .i64 0) w := by kernel_rfl
abbrev OM (w : World) (b : Nat) (D : DataW Unit) : Prop := w.ownsMap Tryz.prog 3 (plainElem Tryz.prog 3) b (Maps.size D) D
theorem tight {w : World} {b n : Nat} {D : DataW Unit} (h : w.ownsMap Tryz.prog 3 (plainElem Tryz.prog 3) b n D) : OM w b D := by
  obtain ⟨es,clock,h1,h2,h3,rfl⟩ := h
  exact ⟨es,clock,h1,h2,by rw [Maps.size_eq,length_sorted,List.length_map]; simp,rfl⟩
theorem OM.obj {w : World} {b : Nat} {D : DataW Unit} (h : OM w b D) : ∃ es c,w.heap[b]? = some (.map es c) := by
  obtain ⟨es,clock,h1,_⟩ := h
  exact ⟨es,clock,h1⟩
theorem OM.ext {w w' : World} {b : Nat} {D : DataW Unit} (h : OM w b D) (k : Ext w w') : OM w' b D :=
  World.ownsMap.kept (row := none) h ⟨k.below.os,k.below.tape,k.below.output,k.size,fun i hi _ => k.below.block i hi⟩ (by simp)
def Places (w : World) (base : Nat) (m : Value) (D : DataW Unit) : Prop := (m = .map none ∧ D = .map []) ∨ ∃ b,m = .map (some b) ∧ base ≤ b ∧ OM w b D
structure Tm (base : Nat) (x : Site) (v m : Value) (l : List En) (D : DataW Unit) (w : World) : Prop where
  blk : x.At [v,m] w
  ty : x.T ≠ 142
  row : Row 142 w base v l.length l
  map : Places w base m D
  bx : base ≤ x.b
def Own (x : Site) (v m : Value) (k : Nat) : Prop := k = x.b ∨ v.ownBlock = some k ∨ m = .map (some k)
section
variable {base : Nat} {x : Site} {v m : Value} {l : List En} {D : DataW Unit} {w w' : World}
theorem Tm.lt (h : Tm base x v m l D w) : x.b < w.heap.size := h.blk.lt
theorem Tm.cells (h : Tm base x v m l D w) : w.cell? ⟨x.b,x.d,none⟩ = some v ∧ w.cell? ⟨x.b,x.d + 1,none⟩ = some m ∧ w.frozen? ⟨x.b,x.d,none⟩ = false ∧ w.frozen? ⟨x.b,x.d + 1,none⟩ = false := by
  exact ⟨h.blk.cell (j := 0) rfl,h.blk.cell (j := 1) rfl,h.blk.free _,h.blk.free _⟩
theorem Tm.far (h : Tm base x v m l D w) : v.ownBlock ≠ some x.b := by
  obtain ⟨cs,h1,_⟩ := h.blk
  exact h.row.far h1 h.ty
theorem Tm.own (h : Tm base x v m l D w) : ∀ k,Own x v m k → base ≤ k ∧ k < w.heap.size := by
  intro k hk
  rcases hk with rfl | hk | hk
  · exact ⟨h.bx,h.lt⟩
  · exact h.row.lt k hk
  · rcases h.map with ⟨h1,_⟩ | ⟨b,h1,h2,h3⟩
    · rw [h1] at hk; cases hk
    · rw [h1] at hk
      cases hk
      exact ⟨h2,h3.lt⟩
theorem Tm.mapFar (h : Tm base x v m l D w) {b : Nat} (hb : m = .map (some b)) : b ≠ x.b ∧ v.ownBlock ≠ some b := by
  rcases h.map with ⟨h1,_⟩ | ⟨b',h1,h2,h3⟩
  · rw [h1] at hb; cases hb
  · rw [h1] at hb
    cases hb
    obtain ⟨es,c,ho⟩ := h3.obj
    refine ⟨fun e => ?_,fun e => ?_⟩
    · obtain ⟨cs,h9,_⟩ := h.blk
      subst e; rw [h9] at ho; cases ho
    · rcases h.row.2 with ⟨h4,_⟩ | ⟨g,cap,cur,h4,h5,h6,_⟩
      · rw [h4] at e; cases e
      · rw [h4] at e
        cases e
        rw [h6] at ho; cases ho
theorem Tm.ext (h : Tm base x v m l D w) (k : Ext w w') : Tm base x v m l D w' := by
  refine ⟨h.blk.same (k.below.block x.b h.lt),h.ty,h.row.ext k,?_,h.bx⟩
  rcases h.map with h1 | ⟨b,h1,h2,h3⟩
  · exact .inl h1
  · exact .inr ⟨b,h1,h2,h3.ext k⟩
theorem Tm.om {b : Nat} (h : Tm base x v (.map (some b)) l D w) : OM w b D ∧ base ≤ b := by
  rcases h.map with ⟨h1,_⟩ | ⟨b',h1,h2,h3⟩
  · cases h1
  · cases h1; exact ⟨h3,h2⟩
theorem OM.setCell {b : Nat} (h : OM w b D) {g : Nat} (hg : b ≠ g) (j : Nat) (u : Value) : OM (w.setCell ⟨g,j,none⟩ u) b D := World.ownsMap.setCell h (a := ⟨g,j,none⟩) hg u
theorem Places.keep {base : Nat} (h : Places w base m D) (k : ∀ b,m = .map (some b) → w'.heap[b]? = w.heap[b]?) : Places w' base m D := by
  rcases h with h1 | ⟨b,h1,h2,h3⟩
  · exact .inl h1
  · obtain ⟨es,c,e1,e2⟩ := h3
    exact .inr ⟨b,h1,h2,es,c,(k b h1).trans e1,e2⟩
theorem Tm.set {g cap n : Nat} (h : Tm base x (.slice (some ⟨g,0,none⟩) n cap) m l D w) (i : Nat) (p : En) :
    Tm base x (.slice (some ⟨g,0,none⟩) n cap) m (l.set i p) D ((w.setCell ⟨g,i * 2,none⟩ (.int .i64 p.1)).setCell ⟨g,i * 2 + 1,none⟩ (.int .i64 p.2)) := by
  have hne : x.b ≠ g := fun e => h.far (by rw [e]; rfl)
  have hn : n = l.length := by
    rcases h.row.2 with ⟨h1,_⟩ | ⟨g',cap',cur,h1,_⟩
    · cases h1
    · injection h1
  subst hn
  refine ⟨?_,h.ty,by rw [List.length_set]; exact h.row.set i p,h.map.keep fun b hb => ?_,h.bx⟩
  · exact h.blk.same (by rw [Below.heap_setCell _ _ _ _ (by simpa using hne),Below.heap_setCell _ _ _ _ (by simpa using hne)])
  · have hbg : b ≠ g := fun e => (h.mapFar hb).2 (by rw [e]; rfl)
    rw [Below.heap_setCell _ _ _ _ (by simpa using hbg),Below.heap_setCell _ _ _ _ (by simpa using hbg)]
theorem Tm.mapped {b n : Nat} {D' : DataW Unit} (h : Tm base x v (.map (some b)) l D w) (ho : w'.ownsMap Tryz.prog 3 (plainElem Tryz.prog 3) b n D') (hg : w.grownBy w' (some b)) : Tm base x v (.map (some b)) l D' w' := by
  obtain ⟨h1,h2⟩ := h.mapFar rfl
  exact ⟨h.blk.same (hg.block x.b h.lt (fun e => h1 (Option.some.inj e).symm)),h.ty,h.row.keep fun g hgv => hg.block g (h.row.lt g hgv).2 (fun e => h2 (by rw [hgv,e])),.inr ⟨b,rfl,h.om.2,tight ho⟩,h.bx⟩
end
end Ti
end Go.Proofs.YtocicffmajbecaaGreatDoor
namespace Go.Proofs.YtocicffmajbecaaGreatDoor
open Go.RowKit
namespace Ti
open Rw
open Go.Maps (Tidy IsMap Keyed)
abbrev own (b : Nat) : Site := ⟨b,0,2,75,fun _ => .bool false⟩
set_option maxHeartbeats 1000000 in
theorem new_any (w : World) : Calls Tryz.prog 36 #[] w fun e w' => e = .returned (.pointer (some ⟨w.heap.size,0,none⟩)) ∧ Tm w.heap.size (own w.heap.size) (.slice none 0 0) (.map none) [] (.map []) w' ∧ Ext w w' := by
  go_enter Tryz.func36,Tryz.ntmps36
  go_wp2
  go_returns
  exact ⟨rfl,⟨Site.At.whole (heap_alloc_new _ _),(by decide : 75 ≠ 142),Row.nil _ _,.inl ⟨rfl,rfl⟩,Nat.le_refl _⟩,ext_by⟩
section
variable {base : Nat} {x : Site} {v m : Value} {l : List En} {D : DataW Unit} {w : World}
def nextV (l : List En) : Value := match l with
  | [] => .tuple #[.int .i64 0,.bool false]
  | p :: _ => .tuple #[.int .i64 p.2,.bool true]
set_option maxHeartbeats 1000000 in
theorem next_any (h : Tm base x v m l D w) : Calls Tryz.prog 101 #[.pointer (some ⟨x.b,x.d,none⟩)] w fun e w' => e = .returned (nextV l) ∧ w' = w := by
  obtain ⟨p,cap,rfl,-,-,-⟩ := h.row.slice
  obtain ⟨c0,-,-,-⟩ := h.cells
  cases l with
  | nil =>
    go_enter Tryz.func101,Tryz.ntmps101
    go_wp2
    exact bodyPost_ret (v := .tuple #[.int .i64 0,.bool false]) (by simp [results,Tryz.results101,go_sem]) rfl ⟨rfl,rfl⟩
  | cons q rest =>
    obtain ⟨g,cap',e,-,hg,-,-⟩ := h.row.shape (by simp)
    injection e with e _ ec
    subst e ec
    obtain ⟨-,d1,-,-⟩ := h.row.cell (i := 0) (p := q) rfl
    simp only [Nat.zero_mul,Nat.zero_add] at d1
    have i0 : (0 : Int) < ((q :: rest).length : Int) := by rw [List.length_cons]; omega
    have i1 : (((q :: rest).length : Int) == 0) = false := by rw [beq_eq_false_iff_ne]; omega
    clear h
    generalize (q :: rest).length = n at *
    go_enter Tryz.func101,Tryz.ntmps101
    go_wp2
    exact bodyPost_ret (v := .tuple #[.int .i64 q.2,.bool true]) (by simp [results,Tryz.results101,go_sem]) rfl ⟨rfl,rfl⟩
set_option maxRecDepth 100000 in
set_option maxHeartbeats 2000000 in
theorem sooner_any (h : Tm base x v m l D w) (i : Nat) (hi : i ≤ 1000000) :
    Calls Tryz.prog 120 #[.pointer (some ⟨x.b,x.d,none⟩),.int .i64 i] w (Yields w (.int .i64 (soon l i : Nat))) := by
  have e1 : IntKind.i64.wrap (2 * (i : Int)) = 2 * i := IntWalk.i64_in _ (by omega)
  have e2 : IntKind.i64.wrap (2 * (i : Int) + 1) = 2 * i + 1 := IntWalk.i64_in _ (by omega)
  have e3 : IntKind.i64.wrap (2 * (i : Int) + 2) = 2 * i + 2 := IntWalk.i64_in _ (by omega)
  have hx := h.lt
  by_cases hc : i * 2 + 2 < l.length
  · obtain ⟨g,cap,rfl,-,hg,-,-⟩ := h.row.shape (by omega)
    obtain ⟨c0,-,-,-⟩ := h.cells
    obtain ⟨a,ha⟩ := get_lt (l := l) (i := i * 2 + 1) (by omega)
    obtain ⟨b,hb⟩ := get_lt hc
    obtain ⟨-,d1,-,-⟩ := h.row.cell ha
    obtain ⟨-,d2,-,-⟩ := h.row.cell hb
    rw [show (i * 2 + 1) * 2 + 1 = (2 * i + 1) * 2 + 1 by omega] at d1
    rw [show (i * 2 + 2) * 2 + 1 = (2 * i + 2) * 2 + 1 by omega] at d2
    have hs : Hid (soon l i = if b.2 < a.2 then i * 2 + 2 else i * 2 + 1) := by
      unfold soon
      simp only [List.getD_eq_getElem?_getD,ha,hb,Option.getD_some,hc,true_and]
      trivial
    obtain ⟨n,hn⟩ : ∃ n,n = l.length := ⟨_,rfl⟩
    rw [← hn] at hc c0
    clear h ha hb hn
    have i1 : 2 * (i : Int) + 2 < (n : Int) := by omega
    have i2 : 2 * (i : Int) + 1 < (n : Int) := by omega
    have i3 : (0 : Int) ≤ 2 * (i : Int) + 2 := by omega
    have i4 : (0 : Int) ≤ 2 * (i : Int) + 1 := by omega
    clear hc
    by_cases hlt : b.2 < a.2
    · go_enter Tryz.func120,Tryz.ntmps120
      go_wp2
      ((first | refine wp_region_more (by kernel_rfl) (by kernel_rfl) ?_ | refine wp_region_ext (by kernel_rfl) (by kernel_rfl) ?_); (try dsimp only [append_cons',append_nil']); (repeat (go_big_quiet_step ((fail)))); refine wpQuiet_nil ?_; rintro _ ⟨pq,rfl⟩)
      go_wp2
      go_returns
      exact ⟨by rw [hs.out,if_pos hlt]; simp; omega,ext_by⟩
    · go_enter Tryz.func120,Tryz.ntmps120
      go_wp2
      ((first | refine wp_region_more (by kernel_rfl) (by kernel_rfl) ?_ | refine wp_region_ext (by kernel_rfl) (by kernel_rfl) ?_); (try dsimp only [append_cons',append_nil']); (repeat (go_big_quiet_step ((fail)))); refine wpQuiet_nil ?_; rintro _ ⟨pq,rfl⟩)
      go_wp2
      go_returns
      exact ⟨by rw [hs.out,if_neg (by omega)]; simp; omega,ext_by⟩
  · obtain ⟨p,cap,rfl,-,-,-⟩ := h.row.slice
    obtain ⟨c0,-,-,-⟩ := h.cells
    have hs : Hid (soon l i = i * 2 + 1) := by
      unfold soon
      rw [if_neg (fun h => hc h.1)]
      exact hid rfl
    have i1 : decide (2 * (i : Int) + 2 < (l.length : Int)) = false := by rw [decide_eq_false_iff_not]; omega
    clear hc h
    go_enter Tryz.func120,Tryz.ntmps120
    go_wp2
    ((first | refine wp_region_more (by kernel_rfl) (by kernel_rfl) ?_ | refine wp_region_ext (by kernel_rfl) (by kernel_rfl) ?_); (try dsimp only [append_cons',append_nil']); (repeat (go_big_quiet_step ((fail)))); refine wpQuiet_nil ?_; rintro _ ⟨pq,rfl⟩)
    go_wp2
    go_returns
    exact ⟨by rw [hs.out]; simp; omega,ext_by⟩
end
end Ti
end Go.Proofs.YtocicffmajbecaaGreatDoor
namespace Go.Proofs.YtocicffmajbecaaGreatDoor
open Go.RowKit
namespace Ti
open Rw
open Go.Maps (Tidy IsMap Keyed)
theorem oper_mapUpdate {o : Oper} {a : Act} {w : World} {K : Act → World → Prop} {Q : Exit → Act → World → Prop} (m x v : Operand) (hop : o.op = Op.mapUpdate 73 m x v)
    {b : Nat} {D : DataW Unit} (hown : OM w b D) (hn : Maps.size D < maxLen) (k d : Int) (hm : a.eval m = .map (some b)) (hx : a.eval x = .int .i64 k) (hv : a.eval v = .int .i64 d) (hk : (Lit.int .i64 k).wf = true) (hd : (Lit.int .i64 d).wf = true)
    (hK : ∀ w',OM w' b (D.put (key k) (.lit (.int .i64 d))) → w.grownBy w' (some b) → K (a.put o.dst undef) w') : Oper.wp Tryz.prog o a w K Q := by
  obtain ⟨w',hrun,r1,r2⟩ := World.ownsMap.update hown law Tryz.underlying73 hn (Go.Maps.keyOf_int_mk Tryz.underlying3 hk) (plainElem_int (H := Unit) Tryz.underlying3 hd)
  unfold Oper.wp
  simp [execOp,hop,hm,hx,hv,hrun,Result.andThen]
  exact hK w' (tight r1) r2
section
variable {base : Nat} {x : Site} {v m : Value} {l : List En} {D : DataW Unit} {w : World}
set_option maxRecDepth 100000 in
set_option maxHeartbeats 2000000 in
theorem put_any {g n cap bm : Nat} (h : Tm base x (.slice (some ⟨g,0,none⟩) n cap) (.map (some bm)) l D w) (i : Nat) (e : En) (hi : i < l.length) (hl : l.length ≤ 1000000) (hs : Maps.size D ≤ 1000000) (he : wf64 e.1) :
    Calls Tryz.prog 119 #[.pointer (some ⟨x.b,x.d,none⟩),.int .i64 i,entV e] w fun r w' => r = .returned (.tuple #[]) ∧
      Tm base x (.slice (some ⟨g,0,none⟩) n cap) (.map (some bm)) (l.set i e) (D.put (key e.1) (num i)) w' ∧ Mvp (Own x (.slice (some ⟨g,0,none⟩) n cap) (.map (some bm))) (Own x (.slice (some ⟨g,0,none⟩) n cap) (.map (some bm))) w w' := by
  have hn : n = l.length := by
    rcases h.row.2 with ⟨h1,_⟩ | ⟨g',cap',cur,h1,_⟩
    · cases h1
    · injection h1
  obtain ⟨e1,e2⟩ := e
  obtain ⟨a,ha⟩ := get_lt hi
  have hxl := h.lt
  have hgl := (h.own g (.inr (.inl rfl))).2
  have HI := hid h
  obtain ⟨c0,c1,f0,f1⟩ := h.cells
  have hrow := h.row
  rw [← hn] at hrow
  obtain ⟨d0,d1,g0,g1⟩ := hrow.cell ha
  have i1 : (i : Int) < (n : Int) := by omega
  have i2 : (0 : Int) ≤ (i : Int) := by omega
  have hib : (i : Int) ≤ 1000000 := by omega
  clear h ha hi hl hn hrow
  go_enter Tryz.func119,Tryz.ntmps119
  go_wp2
  go_region
  go_wp2
  have H1 := HI.out.set i (e1,e2)
  have M1 : Mvp (Own x (.slice (some ⟨g,0,none⟩) n cap) (.map (some bm))) (Own x (.slice (some ⟨g,0,none⟩) n cap) (.map (some bm))) w _ := ((Mvp.refl _ w).set (g := g) (.inr (.inl rfl)) (i * 2) (.int .i64 e1)).set (g := g) (.inr (.inl rfl)) (i * 2 + 1) (.int .i64 e2)
  simp only at H1
  have sz : w.heap.size = ((w.setCell ⟨g,i * 2,none⟩ (.int .i64 e1)).setCell ⟨g,i * 2 + 1,none⟩ (.int .i64 e2)).heap.size := by simp [World.setCell]
  generalize (w.setCell ⟨g,i * 2,none⟩ (.int .i64 e1)).setCell ⟨g,i * 2 + 1,none⟩ (.int .i64 e2) = w1 at *
  have b1 : (w1.alloc (.cells #[.int .i64 e1,.int .i64 e2] 142)).heap[w.heap.size]? = some (.cells #[.int .i64 e1,.int .i64 e2] 142 (0,0)) := by rw [sz]; exact heap_alloc_new _ _
  have H2 := H1.ext (Ext.drew (Ext.alloc (Ext.refl w1) (.cells #[.int .i64 e1,.int .i64 e2] 142)))
  have M2 := M1.ext (Ext.drew (Ext.alloc (Ext.refl w1) (.cells #[.int .i64 e1,.int .i64 e2] 142)))
  have b2 : ((w1.alloc (.cells #[.int .i64 e1,.int .i64 e2] 142)).drew).cell? ⟨w.heap.size,0,none⟩ = some (.int .i64 e1) := by
    show (w1.alloc (.cells #[.int .i64 e1,.int .i64 e2] 142)).cell? _ = _
    simp [World.cell?,b1]
  clear H1 M1 sz b1 c0 c1 f0 f1 d0 d1 g0 g1 HI
  generalize (w1.alloc (.cells #[.int .i64 e1,.int .i64 e2] 142)).drew = w2 at *
  obtain ⟨-,c1,-,-⟩ := H2.cells
  refine wp_region_T 7 1 (fun u => u.cell? ⟨x.b,x.d + 1,none⟩ = some (.map (some bm)) ∧ u.cell? ⟨w.heap.size,0,none⟩ = some (.int .i64 e1)) (by kernel_rfl) (by kernel_rfl) ?_
  have HSS : w2.drew.cell? ⟨x.b,x.d + 1,none⟩ = some (.map (some bm)) ∧ w2.drew.cell? ⟨w.heap.size,0,none⟩ = some (.int .i64 e1) := ⟨c1,b2⟩
  refine wpT_tk 0 HSS ?_; (try simp only [nrm])
  refine wpT_tk 1 HSS ?_; (try simp only [nrm])
  refine wpT_tk 2 HSS ?_; (try simp only [nrm])
  refine wpT_tk 3 HSS ?_; (try simp only [nrm])
  refine wpT_tk 4 HSS ?_; (try simp only [nrm])
  refine wpT_tk 5 HSS ?_; (try simp only [nrm])
  refine wpT_tk 6 HSS ?_; (try simp only [nrm])
  refine wpT_done (by kernel_rfl) ?_
  refine wpAny_on 7 (fun K' hK => ?_)
  refine oper_mapUpdate (.tmp 16) (.tmp 18) (.tmp 19) rfl (World.ownsMap.drew H2.om.1) (by unfold maxLen; omega) e1 i rfl rfl rfl he.lit (wf64.lit (by unfold wf64; omega)) ?_
  intro w3 o3 g3
  refine hK.out _ _ ?_
  refine wpAny_done (by kernel_rfl) ?_ _
  simp only [Act.put,List.getElem_toArray,List.getElem_cons_zero,List.getElem_cons_succ]
  go_returns
  have X3 : Ext w2 w2.drew := Ext.drew (Ext.refl _)
  exact ⟨rfl,(H2.ext X3).mapped o3 g3,(M2.ext X3).grown (.inr (.inr rfl)) g3⟩
end
end Ti
end Go.Proofs.YtocicffmajbecaaGreatDoor
namespace Go.Proofs.YtocicffmajbecaaGreatDoor
open Go.RowKit
namespace Ti
open Rw
open Go.Maps (Tidy IsMap Keyed)
structure Sg (base : Nat) (x : Site) (g n cap bm : Nat) (s : En) (M : List En) (w : World) (Z : List En → Nat → Prop) (h : Nat) (l : List En) (D : DataW Unit) (w' : World) : Prop where
  tm : Tm base x (.slice (some ⟨g,0,none⟩) n cap) (.map (some bm)) l D w'
  mv : Mvp (Own x (.slice (some ⟨g,0,none⟩) n cap) (.map (some bm))) (Own x (.slice (some ⟨g,0,none⟩) n cap) (.map (some bm))) w w'
  box : w'.heap[w.heap.size]? = some (.cells #[.int .i64 s.1,.int .i64 s.2] 142 (0,0))
  lt : h < l.length
  len : l.length = n
  part : Part D l h s
  apart : Apart (l.set h s)
  perm : (l.set h s).Perm M
  z : Z l h
def SgJ (base : Nat) (x : Site) (g n cap bm : Nat) (s : En) (M : List En) (w : World) (Z : List En → Nat → Prop) (a' : Act) (w' : World) : Prop :=
  ∃ (h : Nat) (u6 u7 u8 u9 u10 u11 u12 u13 u14 u15 u16 u17 u18 u19 u20 u21 u22 u23 u24 u25 u26 u27 u28 u29 u30 u31 u32 u33 u34 u35 u36 u37 u38 u39 u40 u41 u42 u43 u44 u45 u46 u47 u48 u49 u50 u51 u52 u53 u54 u55 u56 u57 u58 u59 u60 u61 u62 u63 u64 u65 u66 u67 u68 u69 u70 u71 u72 u73 u74 : Value),a' = { tmps := #[.pointer (some ⟨x.b,x.d,none⟩),.int .i64 h,entV s,undef,undef,.pointer (some ⟨w.heap.size,0,none⟩),u6,u7,u8,u9,u10,u11,u12,u13,u14,u15,u16,u17,u18,u19,u20,u21,u22,u23,u24,u25,u26,u27,u28,u29,u30,u31,u32,u33,u34,u35,u36,u37,u38,u39,u40,u41,u42,u43,u44,u45,u46,u47,u48,u49,u50,u51,u52,u53,u54,u55,u56,u57,u58,u59,u60,u61,u62,u63,u64,u65,u66,u67,u68,u69,u70,u71,u72,u73,u74],defers := [] } ∧ ∃ l D,Sg base x g n cap bm s M w Z h l D w'
def SgPost (base : Nat) (x : Site) (g n cap bm : Nat) (M : List En) (w : World) (r : Ending) (w' : World) : Prop :=
  r = .returned (.tuple #[]) ∧ ∃ l D,Tm base x (.slice (some ⟨g,0,none⟩) n cap) (.map (some bm)) l D w' ∧ Heap l ∧ Full D l ∧ Apart l ∧ l.Perm M ∧ l.length = n ∧ Mvp (Own x (.slice (some ⟨g,0,none⟩) n cap) (.map (some bm))) (Own x (.slice (some ⟨g,0,none⟩) n cap) (.map (some bm))) w w'
section
variable {base : Nat} {x : Site} {g n cap bm h0 : Nat} {l0 : List En} {D0 : DataW Unit} {w : World}
theorem Sg.ext {s : En} {M : List En} {Z : List En → Nat → Prop} {h : Nat} {l : List En} {D : DataW Unit} {w1 w2 : World} (H : Sg base x g n cap bm s M w Z h l D w1) (k : Ext w1 w2) : Sg base x g n cap bm s M w Z h l D w2 :=
  ⟨H.tm.ext k,H.mv.ext k,by rw [k.below.block _ (lt_blk H.box)]; exact H.box,H.lt,H.len,H.part,H.apart,H.perm,H.z⟩
theorem Sg.other {s : En} {M : List En} {Z Z' : List En → Nat → Prop} {h : Nat} {l : List En} {D : DataW Unit} {w1 : World} (H : Sg base x g n cap bm s M w Z h l D w1) (k : Z' l h) : Sg base x g n cap bm s M w Z' h l D w1 :=
  ⟨H.tm,H.mv,H.box,H.lt,H.len,H.part,H.apart,H.perm,k⟩
theorem Sg.small {s : En} {M : List En} {Z : List En → Nat → Prop} {h : Nat} {l : List En} {D : DataW Unit} {w1 : World} (H : Sg base x g n cap bm s M w Z h l D w1) : Maps.size D ≤ n := by
  have := H.part.size
  have := H.len
  omega
theorem Sg.mem {s a : En} {M : List En} {Z : List En → Nat → Prop} {h p : Nat} {l : List En} {D : DataW Unit} {w1 : World} (H : Sg base x g n cap bm s M w Z h l D w1) (ha : l[p]? = some a) (hp : p ≠ h) : a ∈ M :=
  H.perm.mem_iff.1 (List.mem_of_getElem? ((set_ne hp).trans ha))
theorem Sg.move {s a : En} {M : List En} {Z Z' : List En → Nat → Prop} {h p : Nat} {l : List En} {D : DataW Unit} {w1 w2 : World} (H : Sg base x g n cap bm s M w Z h l D w1) (far : ¬ Own x (.slice (some ⟨g,0,none⟩) n cap) (.map (some bm)) w.heap.size)
    (ha : l[p]? = some a) (hp : p ≠ h) (hz : Z' (l.set h a) p) (h1 : Tm base x (.slice (some ⟨g,0,none⟩) n cap) (.map (some bm)) (l.set h a) (D.put (key a.1) (num h)) w2)
    (h2 : Mvp (Own x (.slice (some ⟨g,0,none⟩) n cap) (.map (some bm))) (Own x (.slice (some ⟨g,0,none⟩) n cap) (.map (some bm))) w1 w2) : Sg base x g n cap bm s M w Z' p (l.set h a) (D.put (key a.1) (num h)) w2 := by
  have sw := set_swap (s := s) (Ne.symm hp) H.lt ha
  exact ⟨h1,H.mv.trans h2,h2.blk H.box far,by rw [List.length_set]; exact get_some ha,by rw [List.length_set]; exact H.len,H.part.move H.apart H.lt hp ha,H.apart.perm sw.symm,sw.trans H.perm,hz⟩
theorem quo_two (m : Nat) (hm : m ≤ 1000000) : IntKind.i64.wrap ((m : Int) / 2) = ((m / 2 : Nat) : Int) := by
  rw [show (m : Int) / 2 = ((m / 2 : Nat) : Int) by omega]
  exact IntWalk.i64_in _ (by omega)
set_option maxRecDepth 100000 in
set_option maxHeartbeats 8000000 in
theorem settle_any (h : Tm base x (.slice (some ⟨g,0,none⟩) n cap) (.map (some bm)) l0 D0 w) (s : En) (hh : h0 < l0.length) (hl : l0.length ≤ 1000000) (H : Hole l0 h0) (hP : Part D0 l0 h0 s) (hA : Apart (l0.set h0 s)) (hw : ∀ e ∈ l0.set h0 s,wf64 e.1) :
    Calls Tryz.prog 90 #[.pointer (some ⟨x.b,x.d,none⟩),.int .i64 h0,entV s] w (SgPost base x g n cap bm (l0.set h0 s) w) := by
  obtain ⟨s1,s2⟩ := s
  have hn : n = l0.length := by
    rcases h.row.2 with ⟨h1,_⟩ | ⟨g',cap',cur,h1,_⟩
    · cases h1
    · injection h1
  have hn6 : n ≤ 1000000 := by omega
  have HN := hid hn
  clear hn
  have FAR : Hid (¬ Own x (.slice (some ⟨g,0,none⟩) n cap) (.map (some bm)) w.heap.size) := fun e => absurd (h.own _ e).2 (Nat.lt_irrefl _)
  have HI := hid h
  have HW := hid hw
  have START := hid (show Hole l0 h0 ∧ Part D0 l0 h0 (s1,s2) ∧ Apart (l0.set h0 (s1,s2)) ∧ h0 < l0.length from ⟨H,hP,hA,hh⟩)
  clear h hw hl H hP hA hh
  have PM := List.Perm.refl (l0.set h0 (s1,s2))
  generalize hM : l0.set h0 (s1,s2) = M at *
  have HM := hid hM
  clear hM
  go_enter Tryz.func90,Tryz.ntmps90
  go_wp2_with fail
  refine wp_goto2 0 1 (SgJ base x g n cap bm (s1,s2) M w Hole) (SgJ base x g n cap bm (s1,s2) M w (fun l h => Low l h (s1,s2))) (fun a' _ => (intOf (a'.tmps.getD 1 undef)).toNat) (fun a' _ => n - (intOf (a'.tmps.getD 1 undef)).toNat) rfl rfl ?_ ?_ ?_
  · refine fun a' w' => ex_elim fun h => ex8 fun u6 u7 u8 u9 u10 u11 u12 u13 => ex8 fun u14 u15 u16 u17 u18 u19 u20 u21 => ex8 fun u22 u23 u24 u25 u26 u27 u28 u29 => ex8 fun u30 u31 u32 u33 u34 u35 u36 u37 => ex8 fun u38 u39 u40 u41 u42 u43 u44 u45 => ex8 fun u46 u47 u48 u49 u50 u51 u52 u53 => ex8 fun u54 u55 u56 u57 u58 u59 u60 u61 => ex8 fun u62 u63 u64 u65 u66 u67 u68 u69 => ex4 fun u70 u71 u72 u73 => ex_elim fun u74 => ?_
    rintro ⟨rfl,l,D,hS⟩
    have hxl := hS.tm.lt
    have hbl := lt_blk hS.box
    have hl6 : h ≤ 1000000 := by have := hS.lt; have := hS.len; omega
    obtain ⟨q,hq0⟩ : ∃ q,q = soon l h := ⟨_,rfl⟩
    have CS := sooner_any hS.tm h hl6
    rw [← hq0] at CS
    have CS := hid CS
    have HQ := hid hq0
    clear hq0
    have HS := hid hS
    have hgl := (hS.tm.own g (.inr (.inl rfl))).2
    clear hS
    go_wp2_with (go_at_call 120; (with_reducible refine CS.out.yields ?_); intro p0)
    have hq := ext_more w' p0
    have HS1 := hid (HS.out.ext hq)
    generalize more w' p0 = w1 at *
    have hxl1 := Nat.lt_of_lt_of_le hxl hq.size
    have hbl1 := Nat.lt_of_lt_of_le hbl hq.size
    have hgl1 := Nat.lt_of_lt_of_le hgl hq.size
    clear hxl hbl hgl hq HS CS
    have hbox := HS1.out.box
    have b0 : w1.cell? ⟨w.heap.size,0,none⟩ = some (.int .i64 s1) := by simp [World.cell?,hbox]
    have b1 : w1.cell? ⟨w.heap.size,1,none⟩ = some (.int .i64 s2) := by simp [World.cell?,hbox]
    obtain ⟨c0,-,-,-⟩ := HS1.out.tm.cells
    clear hbox
    by_cases hql : q < n
    · have hqll : q < l.length := by rw [HS1.out.len]; exact hql
      obtain ⟨a,ha⟩ := get_lt hqll
      have hrow := HS1.out.tm.row
      rw [HS1.out.len] at hrow
      obtain ⟨d0,d1,-,-⟩ := hrow.cell ha
      have i1 : (q : Int) < (n : Int) := by omega
      have i2 : (0 : Int) ≤ (q : Int) := by omega
      have HA := hid ha
      clear ha hrow hqll hql
      by_cases hlt : a.2 < s2
      · go_wp2
        ((first | refine wp_region_more (by kernel_rfl) (by kernel_rfl) ?_ | refine wp_region_ext (by kernel_rfl) (by kernel_rfl) ?_); (try dsimp only [append_cons',append_nil']); (repeat (go_big_quiet_step ((fail)))); refine wpQuiet_nil ?_; rintro _ ⟨pq,rfl⟩)
        have hq := ext_more w1 pq
        have HS2 := hid (HS1.out.ext hq)
        have hrow2 := HS2.out.tm.row
        rw [HS2.out.len] at hrow2
        obtain ⟨d0,d1,-,-⟩ := hrow2.cell HA.out
        obtain ⟨c0,-,-,-⟩ := HS2.out.tm.cells
        have hqh : Hid (q ≠ h) := by have := soon_up l h; have := up_lt this.1; have := HQ.out; rw [Hid]; omega
        have CP := put_any HS2.out.tm h a HS2.out.lt (by rw [HS2.out.len]; exact hn6) (Nat.le_trans HS2.out.small hn6) (HW.out a (HS2.out.mem HA.out hqh.out))
        have CP := hid CP
        have hgl2 := Nat.lt_of_lt_of_le hgl1 hq.size
        have hxl2 := Nat.lt_of_lt_of_le hxl1 hq.size
        clear hrow2 b0 b1
        generalize more w1 pq = w2 at *
        go_wp2_with (go_at_call 119; (with_reducible refine CP.out.mono ?_); rintro e w3 ⟨rfl,h3,m3⟩; have H3 := hid h3; have M3 := hid m3; clear h3 m3)
        go_step3
        simp only [Exit.then]
        refine ⟨rfl,⟨q,_,_,_,_,_,_,_,_,_,_,_,_,_,_,_,_,_,_,_,_,_,_,_,_,_,_,_,_,_,_,_,_,_,_,_,_,_,_,_,_,_,_,_,_,_,_,_,_,_,_,_,_,_,_,_,_,_,_,_,_,_,_,_,_,_,_,_,_,_,rfl,_,_,HS2.out.move FAR.out HA.out hqh.out ?_ H3.out M3.out⟩,?_⟩
        · have hu := soon_up l h
          rw [← HQ.out] at hu
          exact HS2.out.z.down hu.1 hu.2 HA.out hlt (soon_min (by rw [← HQ.out]; exact HA.out))
        · have hu := soon_up l h
          rw [← HQ.out] at hu
          have := up_lt hu.1
          simp [intOf]
          omega
      · go_wp2
        ((first | refine wp_region_more (by kernel_rfl) (by kernel_rfl) ?_ | refine wp_region_ext (by kernel_rfl) (by kernel_rfl) ?_); (try dsimp only [append_cons',append_nil']); (repeat (go_big_quiet_step ((fail)))); refine wpQuiet_nil ?_; rintro _ ⟨pq,rfl⟩)
        have hq := ext_more w1 pq
        have HS2 := hid (HS1.out.ext hq)
        have CP := put_any HS2.out.tm h (s1,s2) HS2.out.lt (by rw [HS2.out.len]; exact hn6) (Nat.le_trans HS2.out.small hn6) (HW.out (s1,s2) (HS2.out.perm.mem_iff.1 (List.mem_of_getElem? (set_eq HS2.out.lt))))
        have CP := hid CP
        have b0 := hq.cell b0
        have b1 := hq.cell b1
        have hbl2 := Nat.lt_of_lt_of_le hbl1 hq.size
        generalize more w1 pq = w2 at *
        go_wp2_with (go_at_call 119; (with_reducible refine CP.out.mono ?_); rintro e w3 ⟨rfl,h3,m3⟩; have H3 := hid h3; have M3 := hid m3; clear h3 m3)
        go_returns
        refine ⟨rfl,_,_,H3.out,HS2.out.z.done HS2.out.lt ?_,HS2.out.part.fill HS2.out.apart HS2.out.lt,HS2.out.apart,HS2.out.perm,by rw [List.length_set]; exact HS2.out.len,HS2.out.mv.trans M3.out⟩
        exact fun i y hi hu hy => by have := soon_min (by rw [← HQ.out]; exact HA.out) i y hi hu hy; omega
    · have i1 : decide (q < n) = false := by rw [decide_eq_false_iff_not]; omega
      have HQL := hid hql
      clear hql
      go_wp2
      ((first | refine wp_region_more (by kernel_rfl) (by kernel_rfl) ?_ | refine wp_region_ext (by kernel_rfl) (by kernel_rfl) ?_); (try dsimp only [append_cons',append_nil']); (repeat (go_big_quiet_step ((fail)))); refine wpQuiet_nil ?_; rintro _ ⟨pq,rfl⟩)
      have hq := ext_more w1 pq
      have HS2 := hid (HS1.out.ext hq)
      have CP := put_any HS2.out.tm h (s1,s2) HS2.out.lt (by rw [HS2.out.len]; exact hn6) (Nat.le_trans HS2.out.small hn6) (HW.out (s1,s2) (HS2.out.perm.mem_iff.1 (List.mem_of_getElem? (set_eq HS2.out.lt))))
      have CP := hid CP
      have b0 := hq.cell b0
      have b1 := hq.cell b1
      have hbl2 := Nat.lt_of_lt_of_le hbl1 hq.size
      generalize more w1 pq = w2 at *
      go_wp2_with (go_at_call 119; (with_reducible refine CP.out.mono ?_); rintro e w3 ⟨rfl,h3,m3⟩; have H3 := hid h3; have M3 := hid m3; clear h3 m3)
      go_returns
      refine ⟨rfl,_,_,H3.out,HS2.out.z.done HS2.out.lt ?_,HS2.out.part.fill HS2.out.apart HS2.out.lt,HS2.out.apart,HS2.out.perm,by rw [List.length_set]; exact HS2.out.len,HS2.out.mv.trans M3.out⟩
      exact fun i y hi hu hy => (soon_none (by rw [← HQ.out,HS2.out.len]; exact HQL.out) i y hi hu hy).elim
  · refine fun a' w' => ex_elim fun h => ex8 fun u6 u7 u8 u9 u10 u11 u12 u13 => ex8 fun u14 u15 u16 u17 u18 u19 u20 u21 => ex8 fun u22 u23 u24 u25 u26 u27 u28 u29 => ex8 fun u30 u31 u32 u33 u34 u35 u36 u37 => ex8 fun u38 u39 u40 u41 u42 u43 u44 u45 => ex8 fun u46 u47 u48 u49 u50 u51 u52 u53 => ex8 fun u54 u55 u56 u57 u58 u59 u60 u61 => ex8 fun u62 u63 u64 u65 u66 u67 u68 u69 => ex4 fun u70 u71 u72 u73 => ex_elim fun u74 => ?_
    rintro ⟨rfl,l,D,hS⟩
    intro hK
    have HK := hid hK
    clear hK
    have hxl := hS.tm.lt
    have hbl := lt_blk hS.box
    obtain ⟨c0,-,-,-⟩ := hS.tm.cells
    have hbox := hS.box
    have b0 : w'.cell? ⟨w.heap.size,0,none⟩ = some (.int .i64 s1) := by simp [World.cell?,hbox]
    have b1 : w'.cell? ⟨w.heap.size,1,none⟩ = some (.int .i64 s2) := by simp [World.cell?,hbox]
    clear hbox
    have HS := hid hS
    have hgl := (hS.tm.own g (.inr (.inl rfl))).2
    rcases Nat.eq_zero_or_pos h with rfl | hpos
    · clear hS
      go_wp2
      ((first | refine wp_region_more (by kernel_rfl) (by kernel_rfl) ?_ | refine wp_region_ext (by kernel_rfl) (by kernel_rfl) ?_); (try dsimp only [append_cons',append_nil']); (repeat (go_big_quiet_step ((fail)))); refine wpQuiet_nil ?_; rintro _ ⟨pq,rfl⟩)
      go_wp2
      go_step3
      simp only [Exit.then]
      refine ‹∀ (a : Act) (w : World),Code.wp _ _ _ a w → _› _ _ ?_
      have hq := ext_more w' pq
      exact HK.out _ _ ⟨0,_,_,_,_,_,_,_,_,_,_,_,_,_,_,_,_,_,_,_,_,_,_,_,_,_,_,_,_,_,_,_,_,_,_,_,_,_,_,_,_,_,_,_,_,_,_,_,_,_,_,_,_,_,_,_,_,_,_,_,_,_,_,_,_,_,_,_,_,_,rfl,l,D,HS.out.tm.ext hq,HS.out.mv.ext hq,by rw [hq.below.block _ hbl]; exact HS.out.box,HS.out.lt,HS.out.len,HS.out.part,HS.out.apart,HS.out.perm,HS.out.z,fun h => absurd h (Nat.lt_irrefl _)⟩
    · obtain ⟨k,rfl⟩ : ∃ k,h = k + 1 := ⟨h - 1,by omega⟩
      have hpl : up (k + 1) < l.length := by have := hS.lt; unfold up; omega
      obtain ⟨a,ha⟩ := get_lt hpl
      have hup : Hid (up (k + 1) = k / 2) := rfl
      have hrow := hS.tm.row
      rw [hS.len] at hrow
      obtain ⟨p,hp⟩ : ∃ p,p = k / 2 := ⟨_,rfl⟩
      rw [show up (k + 1) = p from hup.out.trans hp.symm] at ha hpl
      obtain ⟨d0,d1,-,-⟩ := hrow.cell ha
      have e3 : IntKind.i64.wrap (k : Int) = (k : Int) := IntWalk.i64_in _ (by have := hS.lt; have := hS.len; omega)
      have e4 : IntKind.i64.wrap ((k : Int) / 2) = (p : Int) := by rw [hp]; exact quo_two k (by have := hS.lt; have := hS.len; omega)
      have i1 : (p : Int) < (n : Int) := by have := hS.len; omega
      have i2 : (0 : Int) ≤ (p : Int) := by omega
      have i3 : (0 : Int) < (k : Int) + 1 := by omega
      have HA := hid ha
      have HP := hid hp
      clear hS hrow ha hpl hp
      by_cases hlt : s2 < a.2
      · go_wp2
        ((first | refine wp_region_more (by kernel_rfl) (by kernel_rfl) ?_ | refine wp_region_ext (by kernel_rfl) (by kernel_rfl) ?_); (try dsimp only [append_cons',append_nil']); (repeat (go_big_quiet_step ((fail)))); refine wpQuiet_nil ?_; rintro _ ⟨pq,rfl⟩)
        have hq := ext_more w' pq
        have HS2 := hid (HS.out.ext hq)
        have hrow2 := HS2.out.tm.row
        rw [HS2.out.len] at hrow2
        obtain ⟨d0,d1,-,-⟩ := hrow2.cell HA.out
        obtain ⟨c0,-,-,-⟩ := HS2.out.tm.cells
        have CP := put_any HS2.out.tm (k + 1) a HS2.out.lt (by rw [HS2.out.len]; exact hn6) (Nat.le_trans HS2.out.small hn6) (HW.out a (HS2.out.mem HA.out (by have := HP.out; omega)))
        rw [show (((k + 1 : Nat) : Int)) = (k : Int) + 1 from rfl] at CP
        have CP := hid CP
        have hgl2 := Nat.lt_of_lt_of_le hgl hq.size
        have hxl2 := Nat.lt_of_lt_of_le hxl hq.size
        clear hrow2 b0 b1
        generalize more w' pq = w2 at *
        go_wp2_with (go_at_call 119; (with_reducible refine CP.out.mono ?_); rintro e w3 ⟨rfl,h3,m3⟩; have H3 := hid h3; have M3 := hid m3; clear h3 m3)
        go_step3
        simp only [Exit.then]
        refine .inl ⟨rfl,⟨p,_,_,_,_,_,_,_,_,_,_,_,_,_,_,_,_,_,_,_,_,_,_,_,_,_,_,_,_,_,_,_,_,_,_,_,_,_,_,_,_,_,_,_,_,_,_,_,_,_,_,_,_,_,_,_,_,_,_,_,_,_,_,_,_,_,_,_,_,_,rfl,_,_,HS2.out.move FAR.out HA.out (by have := HP.out; omega) ?_ H3.out M3.out⟩,by simp [intOf]; have := HP.out; omega⟩
        have := HS2.out.z.up (by omega) (a := a) (by rw [show up (k + 1) = p from hup.out.trans HP.out.symm]; exact HA.out) HS2.out.lt
        rw [show up (k + 1) = p from hup.out.trans HP.out.symm] at this
        exact this
      · go_wp2
        ((first | refine wp_region_more (by kernel_rfl) (by kernel_rfl) ?_ | refine wp_region_ext (by kernel_rfl) (by kernel_rfl) ?_); (try dsimp only [append_cons',append_nil']); (repeat (go_big_quiet_step ((fail)))); refine wpQuiet_nil ?_; rintro _ ⟨pq,rfl⟩)
        go_wp2
        go_step3
        simp only [Exit.then]
        refine ‹∀ (a : Act) (w : World),Code.wp _ _ _ a w → _› _ _ ?_
        refine HK.out _ _ ⟨k + 1,_,_,_,_,_,_,_,_,_,_,_,_,_,_,_,_,_,_,_,_,_,_,_,_,_,_,_,_,_,_,_,_,_,_,_,_,_,_,_,_,_,_,_,_,_,_,_,_,_,_,_,_,_,_,_,_,_,_,_,_,_,_,_,_,_,_,_,_,_,rfl,l,D,(HS.out.ext (ext_more w' pq)).other ⟨HS.out.z,fun _ b hb => ?_⟩⟩
        rw [show up (k + 1) = p from hup.out.trans HP.out.symm,HA.out] at hb
        cases hb
        omega
  · intro start
    have Start := hid start
    clear start
    have X0 : Ext w (w.alloc (.cells #[.int .i64 s1,.int .i64 s2] 142 (0,0))) := Ext.alloc (Ext.refl w) _
    have b0 : (w.alloc (.cells #[.int .i64 s1,.int .i64 s2] 142 (0,0))).heap[w.heap.size]? = some (.cells #[.int .i64 s1,.int .i64 s2] 142 (0,0)) := heap_alloc_new w _
    generalize w.alloc (.cells #[.int .i64 s1,.int .i64 s2] 142 (0,0)) = w0 at *
    have HS := hid (show Sg base x g n cap bm (s1,s2) M w Hole h0 l0 D0 w0 from ⟨HI.out.ext X0,Mvp.of_ext X0,b0,START.out.2.2.2,HN.out.symm,START.out.2.1,HM.out ▸ START.out.2.2.1,HM.out ▸ PM,START.out.1⟩)
    clear b0
    go_wp2_with fail
    go_step3
    simp only [Exit.then]
    refine ‹∀ (a : Act) (w : World),Code.wp _ _ _ a w → _› _ _ ?_
    exact Start.out _ _ ⟨h0,_,_,_,_,_,_,_,_,_,_,_,_,_,_,_,_,_,_,_,_,_,_,_,_,_,_,_,_,_,_,_,_,_,_,_,_,_,_,_,_,_,_,_,_,_,_,_,_,_,_,_,_,_,_,_,_,_,_,_,_,_,_,_,_,_,_,_,_,_,rfl,l0,D0,HS.out⟩
end
end Ti
end Go.Proofs.YtocicffmajbecaaGreatDoor
namespace Go.Proofs.YtocicffmajbecaaGreatDoor
open Go.RowKit
namespace Ti
open Rw
open Go.Maps (Tidy IsMap Keyed)
set_option maxRecDepth 100000 in
theorem look_yes {w : World} {b : Nat} {D : DataW Unit} (h : OM w b D) {k : Int} (hk : wf64 k) (hy : hasK D k = true) {i : Nat} (ha : atK D k = num i) : (Instr.lookup 73 (.map (some b)) (.int .i64 k) true).run Tryz.prog w = .ok (.tuple #[.int .i64 i,.bool true]) w := by
  obtain ⟨v,ps,h1,h2⟩ := World.ownsMap.look_ok h law Tryz.underlying73 (zeroI w) (plainElem_int (H := Unit) Tryz.underlying3 (by decide)) (Go.Maps.keyOf_int_mk Tryz.underlying3 hk.lit)
  obtain ⟨c,rfl,hc,-⟩ := plainElem_int_inv Tryz.underlying3 h2
  have hc := congrArg Prod.fst hc
  simp only at hc
  have e1 : DataW.atKey D (key k) (.lit (.int .i64 0)) = num i := ha
  rw [e1] at hc
  have e2 : Maps.has D (key k) = true := hy
  rw [e2] at h1
  injection hc with hc
  injection hc with _ hc
  rw [← hc] at h1
  exact h1
theorem look_no {w : World} {b : Nat} {D : DataW Unit} (h : OM w b D) {k : Int} (hk : wf64 k) (hy : hasK D k = false) : ∃ c,(Instr.lookup 73 (.map (some b)) (.int .i64 k) true).run Tryz.prog w = .ok (.tuple #[.int .i64 c,.bool false]) w := by
  obtain ⟨v,ps,h1,h2⟩ := World.ownsMap.look_ok h law Tryz.underlying73 (zeroI w) (plainElem_int (H := Unit) Tryz.underlying3 (by decide)) (Go.Maps.keyOf_int_mk Tryz.underlying3 hk.lit)
  obtain ⟨c,rfl,hc,-⟩ := plainElem_int_inv Tryz.underlying3 h2
  have e2 : Maps.has D (key k) = false := hy
  rw [e2] at h1
  exact ⟨c,h1⟩
theorem look_nil (w : World) {k : Int} (hk : wf64 k) : (Instr.lookup 73 (.map none) (.int .i64 k) true).run Tryz.prog w = .ok (.tuple #[.int .i64 0,.bool false]) w :=
  Go.Maps.look_nil true law Tryz.underlying73 (zeroI w) (Go.Maps.keyOf_int_mk Tryz.underlying3 hk.lit)
structure Good (l : List En) (D : DataW Unit) : Prop where
  heap : Heap l
  full : Full D l
  apart : Apart l
  wf : ∀ e ∈ l,wf64 e.1
def Kept (base : Nat) (x : Site) (v m : Value) (M : List En) (w w' : World) : Prop :=
  ∃ v' m' l' D',Tm base x v' m' l' D' w' ∧ Good l' D' ∧ l'.Perm M ∧ Mvp (Own x v m) (Own x v' m') w w'
def others (id : Int) (l : List En) : List En := l.filter fun e => e.1 != id
theorem mem_others {id : Int} {l : List En} {e : En} : e ∈ others id l ↔ e ∈ l ∧ e.1 ≠ id := by simp [others,List.mem_filter]
theorem others_self {id : Int} {l : List En} (h : ∀ e ∈ l,e.1 ≠ id) : others id l = l := List.filter_eq_self.2 fun e he => by simpa using h e he
theorem others_perm {id : Int} {l m : List En} (h : l.Perm m) : (others id l).Perm (others id m) := h.filter _
theorem Apart.tail {a : En} {l : List En} (h : Apart (a :: l)) : ∀ e ∈ l,e.1 ≠ a.1 := by
  intro e he e'
  simp only [Apart,List.map_cons,List.nodup_cons] at h
  exact h.1 (e' ▸ List.mem_map_of_mem he)
theorem others_open {l : List En} {i : Nat} {s a : En} (hA : Apart (l ++ [s])) (ha : l[i]? = some a) : (l.set i s).Perm (others a.1 (l ++ [s])) := by
  have h1 := last_swap (s := s) ha
  have h2 := others_perm (id := a.1) h1
  have h3 := (hA.perm h1).tail
  have h4 : others a.1 (a :: l.set i s) = l.set i s := by
    unfold others
    rw [List.filter_cons,if_neg (by simp)]
    exact others_self h3
  rw [h4] at h2
  exact h2.symm
theorem others_last {l : List En} {s : En} (hA : Apart (l ++ [s])) : others s.1 (l ++ [s]) = l := by
  unfold others
  rw [List.filter_append,List.filter_cons,if_neg (by simp),List.filter_nil,List.append_nil]
  have h1 : Apart (s :: l) := hA.perm (List.perm_append_singleton s l)
  exact others_self h1.tail
theorem open_apart {l : List En} {i : Nat} {s a : En} (hA : Apart (l ++ [s])) (ha : l[i]? = some a) : Apart (l.set i s) := by
  have := hA.perm (last_swap (s := s) ha)
  simp only [Apart,List.map_cons,List.nodup_cons] at this
  exact this.2
section
variable {base : Nat} {x : Site} {v m : Value} {l : List En} {D : DataW Unit} {w : World}
theorem Kept.refl (h : Tm base x v m l D w) (hg : Good l D) : Kept base x v m l w w := ⟨v,m,l,D,h,hg,List.Perm.refl _,Mvp.refl _ _⟩
theorem Good.absent (hg : Good l D) {id : Int} (hid : ∀ e ∈ l,e.1 ≠ id) : hasK D id = false := by
  cases h : hasK D id with
  | false => rfl
  | true =>
    obtain ⟨i,e,h1,h2⟩ := hg.full.only id h
    exact absurd h2 (hid e (List.mem_of_getElem? h1))
theorem Tm.lay {v' : Value} {l' : List En} (h : Tm base x v m l D w) (hr : Row 142 w base v' l'.length l') : Tm base x v' m l' D (w.setCell ⟨x.b,x.d,none⟩ v') := by
  refine ⟨h.blk.set (j := 0) (by simp) v',h.ty,hr.keep fun g hg => ?_,h.map.keep fun b hb => ?_,h.bx⟩
  · have hne : g ≠ x.b := by
      intro e
      subst e
      obtain ⟨cs,h9,_⟩ := h.blk
      exact hr.far h9 h.ty hg
    exact Below.heap_setCell _ _ _ _ (by simpa using hne)
  · exact Below.heap_setCell _ _ _ _ (by simpa using (h.mapFar hb).1)
set_option maxHeartbeats 2000000 in
theorem drop_no (h : Tm base x v m l D w) (hg : Good l D) {id : Int} (hwf : wf64 id) (hab : ∀ e ∈ l,e.1 ≠ id) :
    Calls Tryz.prog 51 #[.pointer (some ⟨x.b,x.d,none⟩),.int .i64 id] w fun e w' => e = .returned (.bool false) ∧ w' = w := by
  obtain ⟨-,c1,-,-⟩ := h.cells
  have hx := h.lt
  rcases h.map with ⟨rfl,-⟩ | ⟨b,rfl,-,ho⟩
  · have hk := look_nil w hwf
    clear h hg hab
    go_enter Tryz.func51,Tryz.ntmps51
    go_wp2
    go_returns
    exact ⟨rfl,rfl⟩
  · obtain ⟨c,hk⟩ := look_no ho hwf (hg.absent hab)
    clear h hg hab ho
    go_enter Tryz.func51,Tryz.ntmps51
    go_wp2
    go_returns
    exact ⟨rfl,rfl⟩
theorem Good.here (hg : Good l D) {i : Nat} {a : En} (ha : l[i]? = some a) (h : Tm base x v m l D w) : ∃ b,m = .map (some b) ∧ OM w b D := by
  rcases h.map with ⟨rfl,rfl⟩ | ⟨b,rfl,-,ho⟩
  · have := (hg.full.place i a ha).1
    simp [hasK,Maps.has] at this
  · exact ⟨b,rfl,ho⟩
theorem Tm.less {g cap n : Nat} {l' : List En} {s : En} (h : Tm base x (.slice (some ⟨g,0,none⟩) (n + 1) cap) m (l' ++ [s]) D w) (hn : l'.length = n) : Tm base x (.slice (some ⟨g,0,none⟩) n cap) m l' D (w.setCell ⟨x.b,x.d,none⟩ (.slice (some ⟨g,0,none⟩) n cap)) := by
  have hr := h.row
  rw [show (l' ++ [s]).length = n + 1 by simp [hn]] at hr
  refine h.lay ?_
  have := (hr.cut (m := n) (by simp; omega)).forget (by omega)
  rw [hn]
  exact this
set_option maxRecDepth 100000 in
set_option maxHeartbeats 4000000 in
theorem drop_yes (h : Tm base x v m l D w) (hg : Good l D) (hl : l.length ≤ 1000000) {i : Nat} {a : En} (ha : l[i]? = some a) :
    Calls Tryz.prog 51 #[.pointer (some ⟨x.b,x.d,none⟩),.int .i64 a.1] w fun e w' => e = .returned (.bool true) ∧ Kept base x v m (others a.1 l) w w' := by
  have hil := get_some ha
  obtain ⟨l',s,rfl⟩ : ∃ l' s,l = l' ++ [s] := ⟨l.dropLast,l.getLast (by intro e; rw [e] at hil; simp at hil),(List.dropLast_concat_getLast _).symm⟩
  obtain ⟨b,rfl,ho⟩ := hg.here ha h
  obtain ⟨g,cap,rfl,hgb,hgl,hc1,hc2⟩ := h.row.shape (by simp)
  have hwf := hg.wf a (List.mem_of_getElem? ha)
  have hk := look_yes ho hwf (hg.full.place i a ha).1 (hg.full.place i a ha).2
  obtain ⟨c0,c1,f0,f1⟩ := h.cells
  have hx := h.lt
  have hs : (l' ++ [s])[l'.length]? = some s := by simp
  obtain ⟨n,hn⟩ : ∃ n,l'.length = n := ⟨_,rfl⟩
  have hn1 : (l' ++ [s]).length = n + 1 := by simp [hn]
  rw [hn1] at h c0 hc1 hl hil
  rw [hn] at hs
  have HI := hid h
  have HG := hid hg
  have HA := hid ha
  have HS := hid hs
  have HC1 := hid hc1
  have HN := hid hn
  have HN1 := hid hn1
  have i1 : (n : Int) < (n : Int) + 1 := by omega
  have i2 : (n : Int) ≤ (cap : Int) := by omega
  have i3 : (0 : Int) ≤ (n : Int) := by omega
  clear h hg ha hs hc1 hn1 hn
  have e1 : IntKind.i64.wrap (n : Int) = (n : Int) := IntWalk.i64_in _ (by omega)
  by_cases hin : i < n
  · have i4 : decide (i < n) = true := by simpa using hin
    have hal : l'[i]? = some a := by have h1 := HA.out; rw [List.getElem?_append_left (by rw [HN.out]; exact hin)] at h1; exact h1
    have HAL := hid hal
    have LT := hid (show i < l'.length by rw [HN.out]; exact hin)
    have L6 := hid (show l'.length ≤ 1000000 by rw [HN.out]; omega)
    have HP := hid (show Hole l' i ∧ Part (D.del (key a.1)) l' i s ∧ Apart (l'.set i s) ∧ ∀ e ∈ l'.set i s,wf64 e.1 from ⟨by
      have := HG.out.heap.take n
      rw [List.take_append_of_le_length (by rw [HN.out]; exact Nat.le_refl _),List.take_of_length_le (by rw [HN.out]; exact Nat.le_refl _)] at this
      exact this.hole i,HG.out.full.open HG.out.apart hal,open_apart HG.out.apart hal,fun e he => HG.out.wf e ((mem_others.1 ((others_open HG.out.apart hal).mem_iff.1 he)).1)⟩)
    clear hal hin
    go_enter Tryz.func51,Tryz.ntmps51
    go_wp2_with (first | (at_delete; refine wpList_delete_own _ rfl _ _ 73 3 rfl 3 law Tryz.underlying73 _ b _ D rfl ho _ _ rfl (Go.Maps.keyOf_int_mk Tryz.underlying3 hwf.lit) ?_; intro w1 ho1 ht1; have H1 := hid (HI.out.mapped ho1 ht1.grown); have M1 := hid ((Mvp.refl (Own x (.slice (some ⟨g,0,none⟩) (n + 1) cap) (.map (some b))) w).grown (.inr (.inr rfl)) ht1.grown); obtain ⟨d0,-,k0,-⟩ := H1.out.cells; obtain ⟨q0,q1,-,-⟩ := (HN1.out ▸ H1.out.row).cell HS.out; have hx1 := H1.out.lt; have hg1 := (H1.out.own g (.inr (.inl rfl))).2) | (go_at_call 90; (with_reducible refine (settle_any ((H1.out.less HN.out).ext (Ext.alloc (Ext.refl _) (.cells #[.int .i64 s.1,.int .i64 s.2] 142))) s LT.out L6.out (HP.out.1) HP.out.2.1 HP.out.2.2.1 HP.out.2.2.2).mono ?_); rintro e w2 ⟨rfl,h2⟩; have H2 := hid h2; clear h2))
    go_returns
    obtain ⟨l2,D2,t2,hh,hf,ha2,hp2,hl2,hm2⟩ := H2.out
    refine ⟨rfl,_,_,l2,D2,t2,⟨hh,hf,ha2,fun e he => HP.out.2.2.2 e (hp2.mem_iff.1 he)⟩,hp2.trans (others_open HG.out.apart HAL.out),?_⟩
    rw [HN1.out]
    have X2 : Ext (w1.setCell ⟨x.b,x.d,none⟩ (.slice (some ⟨g,0,none⟩) n cap)) _ := Ext.alloc (Ext.refl _) (.cells #[.int .i64 s.1,.int .i64 s.2] 142)
    have M2 : Mvp (Own x (.slice (some ⟨g,0,none⟩) (n + 1) cap) (.map (some b))) (Own x (.slice (some ⟨g,0,none⟩) n cap) (.map (some b))) w _ := ((M1.out.set (g := x.b) (.inl rfl) x.d (.slice (some ⟨g,0,none⟩) n cap)).ext X2).owns fun k hk => hk
    exact M2.trans hm2
  · have i4 : decide (i < n) = false := by simpa using hin
    have HE := hid (show i = n by omega)
    clear hin hil
    go_enter Tryz.func51,Tryz.ntmps51
    go_wp2_with (at_delete; refine wpList_delete_own _ rfl _ _ 73 3 rfl 3 law Tryz.underlying73 _ b _ D rfl ho _ _ rfl (Go.Maps.keyOf_int_mk Tryz.underlying3 hwf.lit) ?_; intro w1 ho1 ht1; have H1 := hid (HI.out.mapped ho1 ht1.grown); have M1 := hid ((Mvp.refl (Own x (.slice (some ⟨g,0,none⟩) (n + 1) cap) (.map (some b))) w).grown (.inr (.inr rfl)) ht1.grown); obtain ⟨d0,-,k0,-⟩ := H1.out.cells; obtain ⟨q0,q1,-,-⟩ := (HN1.out ▸ H1.out.row).cell HS.out; have hx1 := H1.out.lt; have hg1 := (H1.out.own g (.inr (.inl rfl))).2)
    go_returns
    have hsa : s = a := by have h1 := HS.out; rw [← HE.out,HA.out] at h1; exact (Option.some.inj h1).symm
    subst hsa
    have X2 : Ext (w1.setCell ⟨x.b,x.d,none⟩ (.slice (some ⟨g,0,none⟩) n cap)) _ := Ext.alloc (Ext.refl _) (.cells #[.int .i64 s.1,.int .i64 s.2] 142)
    refine ⟨rfl,_,_,l',_,((H1.out.less HN.out).ext X2),⟨?_,HG.out.full.last HG.out.apart,?_,fun e he => HG.out.wf e (by simp [he])⟩,by rw [others_last HG.out.apart],?_⟩
    · have := HG.out.heap.take n
      rw [List.take_append_of_le_length (by rw [HN.out]; exact Nat.le_refl _),List.take_of_length_le (by rw [HN.out]; exact Nat.le_refl _)] at this
      exact this
    · have := HG.out.apart
      simp only [Apart,List.map_append,List.nodup_append] at this
      exact this.1
    · rw [HN1.out]
      exact ((M1.out.set (g := x.b) (.inl rfl) x.d _).ext X2).owns fun k hk => hk
end
end Ti
end Go.Proofs.YtocicffmajbecaaGreatDoor
namespace Go.Proofs.YtocicffmajbecaaGreatDoor
open Go.RowKit
namespace Ti
open Rw
open Go.Maps (Tidy IsMap Keyed)
def isIn (id : Int) (l : List En) : Bool := l.any fun e => e.1 == id
theorem isIn_iff {id : Int} {l : List En} : isIn id l = true ↔ ∃ e ∈ l,e.1 = id := by simp [isIn]
theorem not_in {id : Int} {l : List En} (h : isIn id l = false) : ∀ e ∈ l,e.1 ≠ id := fun e he e' => by
  rw [isIn_iff.2 ⟨e,he,e'⟩] at h
  cases h
section
variable {base : Nat} {x : Site} {v m : Value} {l : List En} {D : DataW Unit} {w : World}
theorem drop_any (h : Tm base x v m l D w) (hg : Good l D) (hl : l.length ≤ 1000000) {id : Int} (hwf : wf64 id) :
    Calls Tryz.prog 51 #[.pointer (some ⟨x.b,x.d,none⟩),.int .i64 id] w fun e w' => e = .returned (.bool (isIn id l)) ∧ Kept base x v m (others id l) w w' := by
  cases hi : isIn id l with
  | true =>
    obtain ⟨a,ha,rfl⟩ := isIn_iff.1 hi
    obtain ⟨i,hil,e⟩ := List.getElem_of_mem ha
    exact drop_yes h hg hl (by rw [List.getElem?_eq_getElem hil,e])
  | false =>
    refine (drop_no h hg hwf (not_in hi)).mono fun e w' ⟨a,b⟩ => ⟨a,?_⟩
    rw [b,others_self (not_in hi)]
    exact Kept.refl h hg
theorem Tm.push {W w1 : World} {g c : Nat} {s : En} (h : Tm base x v m l D w) (hx : Ext w W)
    (hr : Row 142 w1 base (.slice (some ⟨g,0,none⟩) (l.length + 1) c) (l.length + 1) (l ++ [s])) (ho : v.ownBlock = some g ∨ w.heap.size ≤ g) (hg : W.grownBy w1 v.ownBlock) :
    w1.cell? ⟨x.b,x.d,none⟩ = some v ∧ w1.frozen? ⟨x.b,x.d,none⟩ = false ∧ Tm base x (.slice (some ⟨g,0,none⟩) (l.length + 1) c) m (l ++ [s]) D (w1.setCell ⟨x.b,x.d,none⟩ (.slice (some ⟨g,0,none⟩) (l.length + 1) c)) ∧
      Mvp (Own x v m) (Own x (.slice (some ⟨g,0,none⟩) (l.length + 1) c) m) w (w1.setCell ⟨x.b,x.d,none⟩ (.slice (some ⟨g,0,none⟩) (l.length + 1) c)) := by
  have hb : x.At [v,m] w1 := h.blk.same (by
    rw [hg.block x.b (Nat.lt_of_lt_of_le h.lt hx.size) (fun e => h.far e.symm),hx.below.block x.b h.lt])
  have hm : Places w1 base m D := h.map.keep fun b hb => by
    have := (h.own b (.inr (.inr hb))).2
    rw [hg.block b (Nat.lt_of_lt_of_le this hx.size) (fun e => (h.mapFar hb).2 e.symm),hx.below.block b this]
  have hgx : g ≠ x.b := by
    intro e
    subst e
    obtain ⟨cs,h9,_⟩ := hb
    exact hr.far h9 h.ty rfl
  refine ⟨hb.cell (j := 0) rfl,hb.free _,⟨hb.set (j := 0) (by simp) _,h.ty,?_,?_,h.bx⟩,?_⟩
  · rw [show (l ++ [s]).length = l.length + 1 by simp]
    exact hr.keep fun k hk => Below.heap_setCell _ _ _ _ (by cases hk; simpa using hgx)
  · exact hm.keep fun b hb => Below.heap_setCell _ _ _ _ (by simpa using (h.mapFar hb).1)
  · refine Mvp.set (B := Own x (.slice (some ⟨g,0,none⟩) (l.length + 1) c) m) ⟨hg.os.trans hx.below.os,hg.tape.trans hx.below.tape,hg.output.trans hx.below.output,Nat.le_trans hx.size hg.size,fun k hk hA => ?_,fun k hk => ?_⟩ (.inl rfl) x.d _
    · exact (hg.block k (Nat.lt_of_lt_of_le hk hx.size) (fun e => hA (.inr (.inl e.symm)))).trans (hx.below.block k hk)
    · rcases hk with rfl | hk | hk
      · exact .inl (.inl rfl)
      · cases hk
        rcases ho with h1 | h1
        · exact .inl (.inr (.inl h1))
        · exact .inr h1
      · exact .inl (.inr (.inr hk))
theorem Tm.made (h : Tm base x v (.map none) l D w) : Tm base x v (.map (some w.heap.size)) l (.map []) ((w.setCell ⟨x.b,x.d + 1,none⟩ (.map (some w.heap.size))).alloc (.map #[] 0)) := by
  have hs : (w.setCell ⟨x.b,x.d + 1,none⟩ (.map (some w.heap.size))).heap.size = w.heap.size := by simp [World.setCell]
  have hx := h.lt
  refine ⟨?_,h.ty,?_,.inr ⟨w.heap.size,rfl,Nat.le_trans h.bx (Nat.le_of_lt hx),?_⟩,h.bx⟩
  · have h1 := (Ext.alloc (Ext.refl (w.setCell ⟨x.b,x.d + 1,none⟩ (.map (some w.heap.size)))) (.map #[] 0)).below.block x.b (by rw [hs]; exact hx)
    exact (h.blk.set (j := 1) (by simp) _).same h1
  · refine h.row.keep fun g hg => ?_
    have hgl := (h.own g (.inr (.inl hg))).2
    rw [(Ext.alloc (Ext.refl (w.setCell ⟨x.b,x.d + 1,none⟩ (.map (some w.heap.size)))) (.map #[] 0)).below.block g (by rw [hs]; exact hgl)]
    exact Below.heap_setCell _ _ _ _ (fun e => h.far (by rw [hg]; exact congrArg some e))
  · have := World.ownsMap_made (H := Unit) (w.setCell ⟨x.b,x.d + 1,none⟩ (.map (some w.heap.size))) Tryz.prog 3 (plainElem Tryz.prog 3)
    rw [hs] at this
    exact this
theorem made_mv {u : Value} : Mvp (Own x v (.map none)) (Own x v (.map (some w.heap.size))) w ((w.setCell ⟨x.b,x.d + 1,none⟩ u).alloc (.map #[] 0)) := by
  have h := ((Mvp.refl (Own x v (.map none)) w).set (g := x.b) (.inl rfl) (x.d + 1) u).ext (Ext.alloc (Ext.refl _) (.map #[] 0))
  refine ⟨h.os,h.tape,h.output,h.size,h.block,fun k hk => ?_⟩
  rcases hk with hk | hk | hk
  · exact .inl (.inl hk)
  · exact .inl (.inr (.inl hk))
  · cases hk; exact .inr (Nat.le_refl _)
def put (id until_ : Int) (l : List En) : List En := (id,until_) :: others id l
theorem settle_last {g c b : Nat} {s : En} (h : Tm base x (.slice (some ⟨g,0,none⟩) (l.length + 1) c) (.map (some b)) (l ++ [s]) D w) (hg : Good l D) (hl : l.length ≤ 999999) (hs : ∀ e ∈ l,e.1 ≠ s.1) (hw : wf64 s.1) :
    Calls Tryz.prog 90 #[.pointer (some ⟨x.b,x.d,none⟩),.int .i64 l.length,entV s] w fun e w' => e = .returned (.tuple #[]) ∧ Kept base x (.slice (some ⟨g,0,none⟩) (l.length + 1) c) (.map (some b)) (s :: l) w w' := by
  have e1 : (l ++ [s]).set l.length s = l ++ [s] := by simp
  have hA : Apart (l ++ [s]) := by
    refine Apart.perm (l := s :: l) ?_ (List.perm_append_singleton s l).symm
    simp only [Apart,List.map_cons,List.nodup_cons]
    exact ⟨fun e => by obtain ⟨y,h1,h2⟩ := List.mem_map.1 e; exact hs y h1 h2,hg.apart⟩
  have hW : ∀ e ∈ l ++ [s],wf64 e.1 := fun e he => by
    rcases List.mem_append.1 he with h1 | h1
    · exact hg.wf e h1
    · rw [List.mem_singleton.1 h1]; exact hw
  refine (settle_any h s (by simp) (by simp; omega) (hg.heap.snoc s) (hg.full.snoc (hg.absent hs)) (by rw [e1]; exact hA) (by rw [e1]; exact hW)).mono fun e w' ⟨r,l2,D2,t2,hh,hf,ha2,hp2,hl2,hm2⟩ => ⟨r,_,_,l2,D2,t2,⟨hh,hf,ha2,fun e he => hW e (by rw [e1] at hp2; exact hp2.mem_iff.1 he)⟩,?_,hm2⟩
  rw [e1] at hp2
  exact hp2.trans (List.perm_append_singleton s l)
def SetM (base : Nat) (x : Site) (B : Nat) (id until_ : Int) (l : List En) (v m : Value) (D : DataW Unit) (w : World) (a' : Act) (w' : World) : Prop :=
  ∃ (g c : Nat) (u3 u4 u5 u7 u8 u9 u10 u11 u12 u13 u14 u15 u16 u17 u18 u19 u20 u21 u22 u23 u24 u25 u26 u27 u28 u29 u30 u31 u32 u33 u34 u35 u36 u37 u38 u39 u40 : Value),a' = { tmps := #[.pointer (some ⟨x.b,x.d,none⟩),.int .i64 id,.int .i64 until_,u3,u4,u5,.pointer (some ⟨B,0,none⟩),u7,u8,u9,u10,u11,u12,u13,u14,u15,u16,u17,u18,u19,u20,u21,u22,u23,u24,u25,u26,u27,u28,u29,u30,u31,u32,u33,u34,u35,u36,u37,u38,u39,u40],defers := [] } ∧
    Tm base x (.slice (some ⟨g,0,none⟩) (l.length + 1) c) m (l ++ [(id,until_)]) D w' ∧ Mvp (Own x v m) (Own x (.slice (some ⟨g,0,none⟩) (l.length + 1) c) m) w w' ∧ w'.heap[B]? = some (.cells #[.int .i64 id,.int .i64 until_] 142 (0,0))
set_option maxRecDepth 100000 in
set_option maxHeartbeats 4000000 in
theorem set_any (h : Tm base x v m l D w) (hg : Good l D) (hl : l.length ≤ 999998) {id until_ : Int} (hwf : wf64 id) :
    Calls Tryz.prog 58 #[.pointer (some ⟨x.b,x.d,none⟩),.int .i64 id,.int .i64 until_] w fun e w' => e = .returned (.tuple #[]) ∧ Kept base x v m (put id until_ l) w w' := by
  have CD := hid (drop_any h hg (by omega) hwf)
  have hx0 := h.lt
  have HL := hid hl
  clear h hg hl
  go_enter Tryz.func58,Tryz.ntmps58
  go_wp2_with fail
  refine CD.out.mono ?_
  rintro e w1 ⟨rfl,h1⟩
  obtain ⟨v1,m1,l1,D1,T1,G1,P1,M1⟩ := h1
  have hno : ∀ e ∈ l1,e.1 ≠ id := fun e he => (mem_others.1 (P1.mem_iff.1 he)).2
  have hl1 : l1.length ≤ 999998 := by
    have := P1.length_eq
    have := List.length_filter_le (fun e : En => e.1 != id) l
    have := HL.out
    unfold others at *
    omega
  obtain ⟨-,c1,-,f1⟩ := T1.cells
  have hx1 := T1.lt
  have HP1 := hid P1
  have HM1 := hid M1
  have HNO := hid hno
  have HL1 := hid hl1
  have HG1 := hid G1
  have hmm := @run_makeMap Tryz.prog
  have qT : ∀ (w : World) (r : Option Nat),(binOp .eql 73 (.map r) (.map none)).run Tryz.prog w = .ok (.bool r.isNone) w := fun w r => run_eql_map_nil w _ _ _ r Tryz.underlying73
  clear CD HL P1 M1 hno hl1 G1
  rcases T1.map with ⟨rfl,rfl⟩ | ⟨b,rfl,-,-⟩
  · have T2 := hid T1.made
    have M2 := hid (made_mv (x := x) (v := v1) (w := w1) (u := .map (some w1.heap.size)))
    clear T1
    go_wp2_with fail
    have hB : w1.heap.size + 1 = ((w1.setCell ⟨x.b,x.d + 1,none⟩ (.map (some w1.heap.size))).alloc (.map #[] 0)).heap.size := by simp [World.setCell]
    generalize (w1.setCell ⟨x.b,x.d + 1,none⟩ (.map (some w1.heap.size))).alloc (.map #[] 0) = w2 at *
    generalize w1.heap.size + 1 = B at *
    have G2 := HG1
    have X3 : Ext w2 (w2.alloc (.cells #[.int .i64 id,.int .i64 until_] 142)) := Ext.alloc (Ext.refl w2) _
    have b0 : (w2.alloc (.cells #[.int .i64 id,.int .i64 until_] 142)).heap[B]? = some (.cells #[.int .i64 id,.int .i64 until_] 142 (0,0)) := by rw [hB]; exact heap_alloc_new w2 _
    generalize w2.alloc (.cells #[.int .i64 id,.int .i64 until_] 142) = w3 at *
    have T3 := hid (T2.out.ext X3)
    have k0 : w3.cell? ⟨B,0,none⟩ = some (.int .i64 id) := by simp [World.cell?,b0]
    have k1 : w3.cell? ⟨B,1,none⟩ = some (.int .i64 until_) := by simp [World.cell?,b0]
    have B0 := hid b0
    obtain ⟨c0,-,f0,-⟩ := T3.out.cells
    have hx3 : x.b < w3.heap.size := T3.out.lt
    have hB3 : B < w3.heap.size := lt_blk b0
    have NB : Hid (¬ Own x v1 _ B) := fun e => absurd (T2.out.own _ e).2 (by omega)
    have HB := hid hB
    clear b0 hB c1 f1
    refine wp_meetQ (SetM base x B id until_ l1 v1 (.map (some w1.heap.size)) (.map []) w3) ?_ ?_
    · go_region_law (refine step_push_row Tryz.underlying72 enT (w := w3.drew) rfl (.tmp 26) (.tmp 28) rfl (id,until_) (rest := []) (by rw [List.append_nil]; exact T3.out.row) (by have := HL1.out; omega) (by simp [Act.eval]) (nb := w3.heap.size) (by simp [Act.eval]) (by rfl) (by have := T3.out.bx; simp; omega) (by rfl) ?_; intro g c w4 hr1 ho1 hg1 hs1; clear hs1; obtain ⟨q0,qf,hI,hM⟩ := T3.out.push (s := (id,until_)) (Ext.alloc (Ext.drew (Ext.refl w3)) _) hr1 ho1 hg1)
      all_goals
        exact ⟨g,c,_,_,_,_,_,_,_,_,_,_,_,_,_,_,_,_,_,_,_,_,_,_,_,_,_,_,_,_,_,_,_,_,_,_,_,_,_,rfl,hI,hM,hM.blk B0.out (fun e => NB.out e)⟩
    refine fun a5 w5 => ex_elim fun g => ex_elim fun c => ex8 fun u3 u4 u5 u7 u8 u9 u10 u11 => ex8 fun u12 u13 u14 u15 u16 u17 u18 u19 => ex8 fun u20 u21 u22 u23 u24 u25 u26 u27 => ex8 fun u28 u29 u30 u31 u32 u33 u34 u35 => ex4 fun u36 u37 u38 u39 => ex_elim fun u40 => ?_
    rintro ⟨rfl,tP,mP,b5⟩
    have TP := hid tP
    have MP := hid mP
    clear tP mP c0 f0 k0 k1 hmm qT
    simp only [Exit.then]
    refine ‹∀ (a : Act) (w : World),Code.wp _ _ _ a w → _› _ _ ?_
    obtain ⟨c0,-,-,-⟩ := TP.out.cells
    have k0 : w5.cell? ⟨B,0,none⟩ = some (.int .i64 id) := by simp [World.cell?,b5]
    have k1 : w5.cell? ⟨B,1,none⟩ = some (.int .i64 until_) := by simp [World.cell?,b5]
    have e1 : IntKind.i64.wrap (l1.length : Int) = (l1.length : Int) := IntWalk.i64_in _ (by have := HL1.out; omega)
    have CS := hid (settle_last (TP.out.ext (Ext.drew (Ext.refl _))) G2.out (by have := HL1.out; omega) HNO.out hwf)
    go_wp2_with fail
    refine wp_region_T 8 1 (fun u => u.cell? ⟨x.b,x.d,none⟩ = some (.slice (some ⟨g,0,none⟩) (l1.length + 1) c) ∧ u.cell? ⟨B,0,none⟩ = some (.int .i64 id) ∧ u.cell? ⟨B,1,none⟩ = some (.int .i64 until_)) (by kernel_rfl) (by kernel_rfl) ?_
    have HSS : w5.drew.cell? ⟨x.b,x.d,none⟩ = some (.slice (some ⟨g,0,none⟩) (l1.length + 1) c) ∧ w5.drew.cell? ⟨B,0,none⟩ = some (.int .i64 id) ∧ w5.drew.cell? ⟨B,1,none⟩ = some (.int .i64 until_) := ⟨c0,k0,k1⟩
    refine wpT_tk 0 HSS ?_; (try simp only [nrm])
    refine wpT_tk 1 HSS ?_; (try simp only [nrm])
    refine wpT_tk 2 HSS ?_; (try simp only [nrm])
    refine wpT_tk 3 HSS ?_; (try simp only [nrm])
    refine wpT_tk 4 HSS ?_; (try simp only [nrm])
    refine wpT_tk 5 HSS ?_; (try simp only [nrm])
    refine wpT_tk 6 HSS ?_; (try simp only [nrm])
    refine wpT_tk 7 HSS ?_; (try simp only [nrm])
    refine wpT_done (by kernel_rfl) ?_
    refine wpAny_on 8 (fun K' hK => ?_)
    go_simp
    (with_reducible refine CS.out.mono ?_)
    rintro e w6 ⟨rfl,v6,m6,l6,D6,t6,g6,p6,m6'⟩
    refine hK.out _ _ ?_
    refine wpAny_done (by kernel_rfl) ?_ _
    go_returns
    refine ⟨rfl,v6,m6,l6,D6,t6,g6,p6.trans ((List.Perm.cons _ HP1.out)),?_⟩
    exact HM1.out.trans (M2.out.trans (Mvp.ahead X3 (MP.out.trans (Mvp.ahead (Ext.drew (Ext.refl _)) m6'))))
  · have T2 := hid T1
    have M2 := hid (Mvp.refl (Own x v1 (.map (some b))) w1)
    clear T1
    go_wp2_with fail
    generalize w1 = w2 at *
    obtain ⟨B,hB⟩ : ∃ B,B = w2.heap.size := ⟨_,rfl⟩
    rw [← hB]
    have G2 := HG1
    have X3 : Ext w2 (w2.alloc (.cells #[.int .i64 id,.int .i64 until_] 142)) := Ext.alloc (Ext.refl w2) _
    have b0 : (w2.alloc (.cells #[.int .i64 id,.int .i64 until_] 142)).heap[B]? = some (.cells #[.int .i64 id,.int .i64 until_] 142 (0,0)) := by rw [hB]; exact heap_alloc_new w2 _
    generalize w2.alloc (.cells #[.int .i64 id,.int .i64 until_] 142) = w3 at *
    have T3 := hid (T2.out.ext X3)
    have k0 : w3.cell? ⟨B,0,none⟩ = some (.int .i64 id) := by simp [World.cell?,b0]
    have k1 : w3.cell? ⟨B,1,none⟩ = some (.int .i64 until_) := by simp [World.cell?,b0]
    have B0 := hid b0
    obtain ⟨c0,-,f0,-⟩ := T3.out.cells
    have hx3 : x.b < w3.heap.size := T3.out.lt
    have hB3 : B < w3.heap.size := lt_blk b0
    have NB : Hid (¬ Own x v1 _ B) := fun e => absurd (T2.out.own _ e).2 (by omega)
    have HB := hid hB
    clear b0 hB c1 f1
    refine wp_meetQ (SetM base x B id until_ l1 v1 (.map (some b)) D1 w3) ?_ ?_
    · go_region_law (refine step_push_row Tryz.underlying72 enT (w := w3.drew) rfl (.tmp 26) (.tmp 28) rfl (id,until_) (rest := []) (by rw [List.append_nil]; exact T3.out.row) (by have := HL1.out; omega) (by simp [Act.eval]) (nb := w3.heap.size) (by simp [Act.eval]) (by rfl) (by have := T3.out.bx; simp; omega) (by rfl) ?_; intro g c w4 hr1 ho1 hg1 hs1; clear hs1; obtain ⟨q0,qf,hI,hM⟩ := T3.out.push (s := (id,until_)) (Ext.alloc (Ext.drew (Ext.refl w3)) _) hr1 ho1 hg1)
      all_goals
        exact ⟨g,c,_,_,_,_,_,_,_,_,_,_,_,_,_,_,_,_,_,_,_,_,_,_,_,_,_,_,_,_,_,_,_,_,_,_,_,_,_,rfl,hI,hM,hM.blk B0.out (fun e => NB.out e)⟩
    refine fun a5 w5 => ex_elim fun g => ex_elim fun c => ex8 fun u3 u4 u5 u7 u8 u9 u10 u11 => ex8 fun u12 u13 u14 u15 u16 u17 u18 u19 => ex8 fun u20 u21 u22 u23 u24 u25 u26 u27 => ex8 fun u28 u29 u30 u31 u32 u33 u34 u35 => ex4 fun u36 u37 u38 u39 => ex_elim fun u40 => ?_
    rintro ⟨rfl,tP,mP,b5⟩
    have TP := hid tP
    have MP := hid mP
    clear tP mP c0 f0 k0 k1 hmm qT
    simp only [Exit.then]
    refine ‹∀ (a : Act) (w : World),Code.wp _ _ _ a w → _› _ _ ?_
    obtain ⟨c0,-,-,-⟩ := TP.out.cells
    have k0 : w5.cell? ⟨B,0,none⟩ = some (.int .i64 id) := by simp [World.cell?,b5]
    have k1 : w5.cell? ⟨B,1,none⟩ = some (.int .i64 until_) := by simp [World.cell?,b5]
    have e1 : IntKind.i64.wrap (l1.length : Int) = (l1.length : Int) := IntWalk.i64_in _ (by have := HL1.out; omega)
    have CS := hid (settle_last (TP.out.ext (Ext.drew (Ext.refl _))) G2.out (by have := HL1.out; omega) HNO.out hwf)
    go_wp2_with fail
    refine wp_region_T 8 1 (fun u => u.cell? ⟨x.b,x.d,none⟩ = some (.slice (some ⟨g,0,none⟩) (l1.length + 1) c) ∧ u.cell? ⟨B,0,none⟩ = some (.int .i64 id) ∧ u.cell? ⟨B,1,none⟩ = some (.int .i64 until_)) (by kernel_rfl) (by kernel_rfl) ?_
    have HSS : w5.drew.cell? ⟨x.b,x.d,none⟩ = some (.slice (some ⟨g,0,none⟩) (l1.length + 1) c) ∧ w5.drew.cell? ⟨B,0,none⟩ = some (.int .i64 id) ∧ w5.drew.cell? ⟨B,1,none⟩ = some (.int .i64 until_) := ⟨c0,k0,k1⟩
    refine wpT_tk 0 HSS ?_; (try simp only [nrm])
    refine wpT_tk 1 HSS ?_; (try simp only [nrm])
    refine wpT_tk 2 HSS ?_; (try simp only [nrm])
    refine wpT_tk 3 HSS ?_; (try simp only [nrm])
    refine wpT_tk 4 HSS ?_; (try simp only [nrm])
    refine wpT_tk 5 HSS ?_; (try simp only [nrm])
    refine wpT_tk 6 HSS ?_; (try simp only [nrm])
    refine wpT_tk 7 HSS ?_; (try simp only [nrm])
    refine wpT_done (by kernel_rfl) ?_
    refine wpAny_on 8 (fun K' hK => ?_)
    go_simp
    (with_reducible refine CS.out.mono ?_)
    rintro e w6 ⟨rfl,v6,m6,l6,D6,t6,g6,p6,m6'⟩
    refine hK.out _ _ ?_
    refine wpAny_done (by kernel_rfl) ?_ _
    go_returns
    refine ⟨rfl,v6,m6,l6,D6,t6,g6,p6.trans ((List.Perm.cons _ HP1.out)),?_⟩
    exact HM1.out.trans (M2.out.trans (Mvp.ahead X3 (MP.out.trans (Mvp.ahead (Ext.drew (Ext.refl _)) m6'))))
end
end Ti
end Go.Proofs.YtocicffmajbecaaGreatDoor
namespace Go.Proofs.YtocicffmajbecaaGreatDoor
open Go.RowKit
namespace Ti
open Rw
open Go.Maps (Tidy IsMap Keyed)
def isDue (tick : Int) (l : List En) : List En := l.filter fun e => decide (e.2 ≤ tick)
def sleepOn (tick : Int) (l : List En) : List En := l.filter fun e => !decide (e.2 ≤ tick)
abbrev sortI (l : List Int) : List Int := l.mergeSort fun x y => decide (x ≤ y)
def dueIds (tick : Int) (l : List En) : List Int := sortI ((isDue tick l).map (·.1))
theorem sortI_perm {a b : List Int} (h : a.Perm b) : sortI a = sortI b := by
  have tr : ∀ (x y z : Int),decide (x ≤ y) = true → decide (y ≤ z) = true → decide (x ≤ z) = true := fun x y z h1 h2 => by simp at h1 h2 ⊢; omega
  have tt : ∀ (x y : Int),(decide (x ≤ y) || decide (y ≤ x)) = true := fun x y => by simp; omega
  have s1 := List.pairwise_mergeSort tr tt a
  have s2 := List.pairwise_mergeSort tr tt b
  refine List.Perm.eq_of_pairwise (le := fun x y => decide (x ≤ y) = true) (fun x y _ _ h1 h2 => by simp at h1 h2; omega) s1 s2 ?_
  exact ((List.mergeSort_perm a _).trans h).trans (List.mergeSort_perm b _).symm
structure Taken (tick : Int) (l0 tk l : List En) : Prop where
  perm : (tk ++ l).Perm l0
  due : ∀ e ∈ tk,e.2 ≤ tick
theorem Taken.start (tick : Int) (l : List En) : Taken tick l [] l := ⟨List.Perm.refl _,fun e h => by cases h⟩
theorem Taken.step {tick : Int} {l0 tk l m : List En} {a : En} (H : Taken tick l0 tk l) (hA : Apart l) (ha : a ∈ l) (hd : a.2 ≤ tick) (hm : m.Perm (others a.1 l)) : Taken tick l0 (tk ++ [a]) m := by
  have h1 : l.Perm (a :: others a.1 l) := by
    obtain ⟨i,hi,e⟩ := List.getElem_of_mem ha
    have h2 := List.mem_iff_append.1 ha
    obtain ⟨s,t,rfl⟩ := h2
    have h3 : (s ++ a :: t).Perm (a :: (s ++ t)) := List.perm_middle
    refine h3.trans (List.Perm.cons _ ?_)
    have h4 := (hA.perm h3).tail
    have h5 := others_perm (id := a.1) h3
    have h6 : others a.1 (a :: (s ++ t)) = s ++ t := by
      unfold others
      rw [List.filter_cons,if_neg (by simp)]
      exact others_self h4
    rw [h6] at h5
    exact h5.symm
  refine ⟨?_,fun e he => ?_⟩
  · rw [List.append_assoc]
    refine List.Perm.trans ?_ H.perm
    refine List.Perm.append_left _ ?_
    exact (List.Perm.cons a hm).trans h1.symm
  · rcases List.mem_append.1 he with h | h
    · exact H.due e h
    · rw [List.mem_singleton.1 h]; exact hd
theorem Taken.done {tick : Int} {l0 tk l : List En} (H : Taken tick l0 tk l) (hl : ∀ e ∈ l,tick < e.2) : tk.Perm (isDue tick l0) ∧ l.Perm (sleepOn tick l0) := by
  have h1 : isDue tick (tk ++ l) = tk := by
    unfold isDue
    rw [List.filter_append,List.filter_eq_self.2 (fun e he => by simpa using H.due e he),List.filter_eq_nil_iff.2 (fun e he => by have := hl e he; simp; omega),List.append_nil]
  have h2 : sleepOn tick (tk ++ l) = l := by
    unfold sleepOn
    rw [List.filter_append,List.filter_eq_nil_iff.2 (fun e he => by have := H.due e he; simpa using this),List.filter_eq_self.2 (fun e he => by have := hl e he; simp; omega),List.nil_append]
  exact ⟨h1 ▸ H.perm.filter _,h2 ▸ H.perm.filter _⟩
section
variable {base : Nat} {x : Site} {v m : Value} {l : List En} {D : DataW Unit} {w w' : World}
theorem Tm.beside {b : Option Nat} (h : Tm base x v m l D w) (k : w.grownBy w' b) (hb : ∀ i,b = some i → ¬ Own x v m i) : Tm base x v m l D w' := by
  refine ⟨?_,h.ty,h.row.keep fun g hg => ?_,h.map.keep fun g hg => ?_,h.bx⟩
  · exact h.blk.same (k.block x.b h.lt (fun e => hb x.b e.symm (.inl rfl)))
  · exact k.block g (h.own g (.inr (.inl hg))).2 (fun e => hb g e.symm (.inr (.inl hg)))
  · exact k.block g (h.own g (.inr (.inr hg))).2 (fun e => hb g e.symm (.inr (.inr hg)))
def DueI (base : Nat) (x : Site) (v m : Value) (tick : Int) (l0 : List En) (w : World) (vd : Value) (w' : World) (l : List En) : Prop :=
  ∃ v' m' D tk,Tm base x v' m' l D w' ∧ Good l D ∧ Mvp (Own x v m) (Own x v' m') w w' ∧ Taken tick l0 tk l ∧ w'.ownsRow w.heap.size 3 1 vd tk.length (tk.map fun e => .int .i64 e.1) ∧ ∀ k,vd.ownBlock = some k → ¬ Own x v' m' k
def DueJ (base : Nat) (x : Site) (v m : Value) (tick : Int) (l0 : List En) (w : World) (a' : Act) (w' : World) : Prop :=
  ∃ (vd : Value) (u4 u6 u7 u8 u9 u10 u11 u12 u13 u14 u15 u16 u17 u18 u19 u20 u21 u22 u23 u24 u25 u26 u27 u28 u29 u30 u31 u32 u33 u34 u35 u36 : Value),a' = { tmps := #[.pointer (some ⟨x.b,x.d,none⟩),.int .i64 tick,undef,undef,u4,vd,u6,u7,u8,u9,u10,u11,u12,u13,u14,u15,u16,u17,u18,u19,u20,u21,u22,u23,u24,u25,u26,u27,u28,u29,u30,u31,u32,u33,u34,u35,u36],defers := [] } ∧ ∃ l,DueI base x v m tick l0 w vd w' l
def DuePost (base : Nat) (x : Site) (v m : Value) (tick : Int) (l0 : List En) (w : World) (r : Ending) (w' : World) : Prop :=
  ∃ vd,r = .returned vd ∧ w'.ownsRow w.heap.size 3 1 vd (dueIds tick l0).length ((dueIds tick l0).map fun k => .int .i64 k) ∧
    ∃ v' m' l' D',Tm base x v' m' l' D' w' ∧ Good l' D' ∧ l'.Perm (sleepOn tick l0) ∧ Mvp (Own x v m) (Own x v' m') w w' ∧ ∀ k,vd.ownBlock = some k → ¬ Own x v' m' k
def lenAt (x : Site) (w : World) : Nat := match w.cell? ⟨x.b,x.d,none⟩ with
  | some (.slice _ n _) => n
  | _ => 0
theorem Tm.lenAt (h : Tm base x v m l D w) : lenAt x w = l.length := by
  obtain ⟨p,cap,rfl,-,-,-⟩ := h.row.slice
  unfold Ti.lenAt
  rw [h.cells.1]
theorem isDue_eq {tick : Int} {l0 tk l : List En} (H : Taken tick l0 tk l) (hl : ∀ e ∈ l,tick < e.2) : sortI (tk.map (·.1)) = dueIds tick l0 := sortI_perm ((H.done hl).1.map _)
set_option maxRecDepth 100000 in
set_option maxHeartbeats 8000000 in
theorem due_any {tick : Int} {l0 : List En} (h : Tm base x v m l0 D w) (hg : Good l0 D) (hl : l0.length ≤ 1000000) :
    Calls Tryz.prog 68 #[.pointer (some ⟨x.b,x.d,none⟩),.int .i64 tick] w (DuePost base x v m tick l0 w) := by
  have HL := hid hl
  have HI := hid h
  have HG := hid hg
  clear h hg hl
  obtain ⟨i0,hi,hz0,hz1,hz2⟩ := info_parts infoI
  go_enter Tryz.func68,Tryz.ntmps68
  go_wp2_with fail
  refine wp_goto 0 (DueJ base x v m tick l0 w) (fun _ w' => lenAt x w') rfl ?_ ?_
  · refine fun a' w1 => ex_elim fun vd => ex8 fun u4 u6 u7 u8 u9 u10 u11 u12 => ex8 fun u13 u14 u15 u16 u17 u18 u19 u20 => ex8 fun u21 u22 u23 u24 u25 u26 u27 u28 => ex8 fun u29 u30 u31 u32 u33 u34 u35 u36 => ?_
    rintro ⟨rfl,l,v',m',D,tk,hT,hG,hMV,hTK,hrow,hfar⟩
    have hx := hT.lt
    have CN := hid (next_any hT)
    have T := hid hT
    have G := hid hG
    have MV := hid hMV
    have TK := hid hTK
    have FAR := hid hfar
    clear hT hG hMV hTK hfar
    cases l with
    | nil =>
      have ALL := hid (show ∀ e ∈ ([] : List En),tick < e.2 from fun e he => by cases he)
      have HT := hid (isDue_eq TK.out ALL.out)
      rcases hrow.2 with ⟨rfl,hnil⟩ | ⟨g,cap,cur,rfl,hgb,hgc,hn1,hn2,hn3,hn4⟩
      · have htk : tk = [] := by simpa using hnil
        subst htk
        clear hrow
        go_wp2_with (first | (go_at_call 101; (with_reducible refine CN.out.mono ?_); rintro e w2 ⟨rfl,hw2⟩; rw [hw2]; clear hw2; clear w2; simp only [nextV]) | (go_at_call 102; (with_reducible refine (slices_Sort_int_none none 0 _).mono ?_); rintro e w2 ⟨rfl,hw2⟩; rw [hw2]; clear hw2; clear w2))
        go_returns
        have hd : dueIds tick l0 = [] := by rw [← HT.out]; simp [sortI]
        refine ⟨.slice none 0 0,rfl,by rw [hd]; exact World.ownsRow_nil _ _ _ _,v',m',_,D,T.out,G.out,(TK.out.done ALL.out).2,MV.out,fun k hk => by cases hk⟩
      · have hlen : (tk.map (fun e : En => e.1)).length = tk.length := List.length_map ..
        have HH := holds_of_blockI (ss := tk.map (fun e : En => e.1)) hgc (by rw [List.length_map,← Nat.mul_one tk.length,hn4,List.map_map]; rfl)
        have CS := slices_Sort_int g 0 cap (tk.map (fun e : En => e.1)) w1 HH (lt_blk hgc) (by rw [List.length_map]; have := TK.out.perm.length_eq; have := HL.out; rw [List.length_append] at *; omega)
        rw [hlen] at CS
        have CS := hid CS
        have HC := hid (⟨hgb,hgc,hn1,hn2,hn3⟩ : w.heap.size ≤ g ∧ w1.heap[g]? = some (.cells cur 3 (0,0)) ∧ tk.length ≤ cap ∧ cap ≤ maxLen ∧ cur.size = cap * 1)
        clear hrow hgb hgc hn1 hn2 hn3 hn4 HH
        go_wp2_with (first | (go_at_call 101; (with_reducible refine CN.out.mono ?_); rintro e w2 ⟨rfl,hw2⟩; rw [hw2]; clear hw2; clear w2; simp only [nextV]) | (go_at_call 102; (with_reducible refine CS.out.mono ?_); rintro e w2 ⟨rfl,n2,os2,hw2⟩; have HW2 := hid hw2; clear hw2))
        go_returns
        obtain ⟨hgb,hgc,hn1,hn2,hn3⟩ := HC.out
        have hd : (dueIds tick l0).length = tk.length := by rw [← HT.out]; simp [sortI]
        have hgr : w1.grownBy w2 (some g) := by rw [HW2.out]; exact grownBy_sortedI _
        refine ⟨.slice (some ⟨g,0,none⟩) tk.length cap,rfl,?_,v',m',_,D,T.out.beside hgr (fun i e => by cases e; exact FAR.out g rfl),G.out,(TK.out.done ALL.out).2,MV.out.beside hgr (fun i e => by cases e; exact hgb),FAR.out⟩
        rw [hd,← HT.out,HW2.out]
        have := ownsRow_sortedI (w := w1) (n := n2) (os := os2) (ss := tk.map (fun e : En => e.1)) (ts := sortI (tk.map (fun e : En => e.1))) (by simp [sortI]) hgb hgc (by rw [hlen]; exact hn1) hn2 hn3
        rw [hlen] at this
        exact this
    | cons q rest =>
      by_cases hd : q.2 ≤ tick
      · have hlen : (q :: rest).length ≤ 1000000 := by have := TK.out.perm.length_eq; have := HL.out; rw [List.length_append] at *; omega
        obtain ⟨g,cap,rfl,hgb,hgl,hc1,hc2⟩ := T.out.row.shape (by simp)
        obtain ⟨d0,-,-,-⟩ := T.out.row.cell (i := 0) (p := q) rfl
        simp only [Nat.zero_mul] at d0
        obtain ⟨c0,-,-,-⟩ := T.out.cells
        have i0' : (0 : Int) < ((q :: rest).length : Int) := by rw [List.length_cons]; omega
        have hvd := owns_below hrow
        have HFR : Hid (∀ (o : Obj) (w2 : World) (vd' : Value),(w1.alloc o).grownBy w2 vd.ownBlock → (vd'.ownBlock = vd.ownBlock ∨ vd'.ownBlock = some (w1.alloc o).heap.size) → w2.ownsRow w.heap.size 3 1 vd' (tk.length + 1) ((tk ++ [q]).map fun e => .int .i64 e.1) →
            Tm base x (.slice (some ⟨g,0,none⟩) (q :: rest).length cap) m' (q :: rest) D w2 ∧ Mvp (Own x v m) (Own x (.slice (some ⟨g,0,none⟩) (q :: rest).length cap) m') w w2 ∧ ∀ k,vd'.ownBlock = some k → ¬ Own x (.slice (some ⟨g,0,none⟩) (q :: rest).length cap) m' k) := fun o w2 vd' hgr hloc hown => by
          have X1 : Ext w1 (w1.alloc o) := Ext.alloc (Ext.refl _) o
          refine ⟨(T.out.ext X1).beside hgr (fun i e => FAR.out i e),(MV.out.ext X1).beside hgr (fun i e => (hvd i e).1),fun k hk => ?_⟩
          rcases hloc with h1 | h1
          · exact FAR.out k (h1 ▸ hk)
          · rw [hk] at h1
            intro e
            have h2 := (T.out.own k e).2
            have h3 : k = (w1.alloc o).heap.size := Option.some.inj h1
            simp at h3
            omega
        have htl : tk.length ≤ 1000000 := by have := TK.out.perm.length_eq; have := HL.out; rw [List.length_append] at *; omega
        have hws := MV.out.size
        go_wp2_with (first | (go_at_call 101; (with_reducible refine CN.out.mono ?_); rintro e w2 ⟨rfl,hw2⟩; rw [hw2]; clear hw2; clear w2; simp only [nextV]) | (at_builtin; refine wpList_append_own_at _ rfl _ _ 50 rfl w.heap.size 3 i0 (.int .i64 0) 1 8 Tryz.underlying50 hi hz0 hz1 hz2 rfl (by decide) _ _ _ rfl (hrow.alloc _) ⟨w1.heap.size,0,none⟩ 1 1 [.int .i64 q.1] rfl rfl (cell_one_new _ _ _) (ints_oneCell .i64 [q.1]) (by unfold maxLen; omega) (by omega) (by simp; omega) ?_; intro vd' w2 hown' hgrow hnil hloc; have HO : Hid (w2.ownsRow w.heap.size 3 1 vd' (tk.length + 1) ((tk ++ [q]).map fun e => .int .i64 e.1)) := (by rw [List.map_append]; exact hown'); have H2 := hid (HFR.out _ _ _ hgrow hloc HO.out); clear hnil hloc hgrow hown'; have CD := hid (drop_yes H2.out.1 G.out hlen (i := 0) (a := q) rfl)) | (go_at_call 51; (with_reducible refine CD.out.mono ?_); rintro e w3 ⟨rfl,h3⟩; have H3 := hid h3; clear h3))
        go_step3
        simp only [Exit.then]
        obtain ⟨v3,m3,l3,D3,t3,g3,p3,mv3⟩ := H3.out
        have hb2 := owns_below HO.out
        refine ⟨rfl,⟨vd',_,_,_,_,_,_,_,_,_,_,_,_,_,_,_,_,_,_,_,_,_,_,_,_,_,_,_,_,_,_,_,_,rfl,l3,v3,m3,D3,tk ++ [q],t3,g3,H2.out.2.1.trans mv3,TK.out.step G.out.apart (by simp) hd p3,?_,fun k hk hO => ?_⟩,?_⟩
        · rw [show (tk ++ [q]).length = tk.length + 1 by simp]
          exact owns_keep HO.out fun k hk => mv3.block k (hb2 k hk).2 (H2.out.2.2 k hk)
        · rcases mv3.own k hO with h1 | h1
          · exact H2.out.2.2 k hk h1
          · have := (hb2 k hk).2
            omega
        · rw [t3.lenAt,T.out.lenAt]
          have := p3.length_eq
          rw [this]
          unfold others
          rw [List.filter_cons,if_neg (by simp)]
          have := List.length_filter_le (fun e : En => e.1 != q.1) rest
          simp only [List.length_cons]
          omega
      · have ALL := hid (show ∀ e ∈ (q :: rest),tick < e.2 from fun e he => by
          obtain ⟨i,hi,h1⟩ := List.getElem_of_mem he
          have := G.out.heap.first (a := q) rfl i e (by rw [List.getElem?_eq_getElem hi,h1])
          omega)
        clear hx
        have HT := hid (isDue_eq TK.out ALL.out)
        rcases hrow.2 with ⟨rfl,hnil⟩ | ⟨g,cap,cur,rfl,hgb,hgc,hn1,hn2,hn3,hn4⟩
        · have htk : tk = [] := by simpa using hnil
          subst htk
          clear hrow
          go_wp2_with (first | (go_at_call 101; (with_reducible refine CN.out.mono ?_); rintro e w2 ⟨rfl,hw2⟩; rw [hw2]; clear hw2; clear w2; simp only [nextV]) | (go_at_call 102; (with_reducible refine (slices_Sort_int_none none 0 _).mono ?_); rintro e w2 ⟨rfl,hw2⟩; rw [hw2]; clear hw2; clear w2))
          go_returns
          have hd : dueIds tick l0 = [] := by rw [← HT.out]; simp [sortI]
          refine ⟨.slice none 0 0,rfl,by rw [hd]; exact World.ownsRow_nil _ _ _ _,v',m',_,D,T.out,G.out,(TK.out.done ALL.out).2,MV.out,fun k hk => by cases hk⟩
        · have hlen : (tk.map (fun e : En => e.1)).length = tk.length := List.length_map ..
          have HH := holds_of_blockI (ss := tk.map (fun e : En => e.1)) hgc (by rw [List.length_map,← Nat.mul_one tk.length,hn4,List.map_map]; rfl)
          have CS := slices_Sort_int g 0 cap (tk.map (fun e : En => e.1)) w1 HH (lt_blk hgc) (by rw [List.length_map]; have := TK.out.perm.length_eq; have := HL.out; rw [List.length_append] at *; omega)
          rw [hlen] at CS
          have CS := hid CS
          have HC := hid (⟨hgb,hgc,hn1,hn2,hn3⟩ : w.heap.size ≤ g ∧ w1.heap[g]? = some (.cells cur 3 (0,0)) ∧ tk.length ≤ cap ∧ cap ≤ maxLen ∧ cur.size = cap * 1)
          clear hrow hgb hgc hn1 hn2 hn3 hn4 HH
          go_wp2_with (first | (go_at_call 101; (with_reducible refine CN.out.mono ?_); rintro e w2 ⟨rfl,hw2⟩; rw [hw2]; clear hw2; clear w2; simp only [nextV]) | (go_at_call 102; (with_reducible refine CS.out.mono ?_); rintro e w2 ⟨rfl,n2,os2,hw2⟩; have HW2 := hid hw2; clear hw2))
          go_returns
          obtain ⟨hgb,hgc,hn1,hn2,hn3⟩ := HC.out
          have hd : (dueIds tick l0).length = tk.length := by rw [← HT.out]; simp [sortI]
          have hgr : w1.grownBy w2 (some g) := by rw [HW2.out]; exact grownBy_sortedI _
          refine ⟨.slice (some ⟨g,0,none⟩) tk.length cap,rfl,?_,v',m',_,D,T.out.beside hgr (fun i e => by cases e; exact FAR.out g rfl),G.out,(TK.out.done ALL.out).2,MV.out.beside hgr (fun i e => by cases e; exact hgb),FAR.out⟩
          rw [hd,← HT.out,HW2.out]
          have := ownsRow_sortedI (w := w1) (n := n2) (os := os2) (ss := tk.map (fun e : En => e.1)) (ts := sortI (tk.map (fun e : En => e.1))) (by simp [sortI]) hgb hgc (by rw [hlen]; exact hn1) hn2 hn3
          rw [hlen] at this
          exact this
  · intro start
    have Start := hid start
    clear start
    go_wp2_with fail
    go_step3
    simp only [Exit.then]
    refine ‹∀ (a : Act) (w : World),Code.wp _ _ _ a w → _› _ _ ?_
    exact Start.out _ _ ⟨.slice none 0 0,_,_,_,_,_,_,_,_,_,_,_,_,_,_,_,_,_,_,_,_,_,_,_,_,_,_,_,_,_,_,_,_,rfl,l0,v,m,D,[],HI.out,HG.out,Mvp.refl _ _,Taken.start _ _,World.ownsRow_nil _ _ _ _,fun k hk => by cases hk⟩
end
end Ti
end Go.Proofs.YtocicffmajbecaaGreatDoor
namespace Go.Proofs.YtocicffmajbecaaGreatDoor
open Go.RowKit
namespace Ti
open Rw
theorem Tm.base {base base' : Nat} {x : Site} {v m : Value} {l : List En} {D : DataW Unit} {w : World} (h : Tm base x v m l D w) (hb : base' ≤ base) : Tm base' x v m l D w := by
  refine ⟨h.blk,h.ty,h.row.base hb,?_,Nat.le_trans hb h.bx⟩
  rcases h.map with h1 | ⟨b,h1,h2,h3⟩
  · exact .inl h1
  · exact .inr ⟨b,h1,Nat.le_trans hb h2,h3⟩
def St (w0 : World) (x : Site) (M : List En) (A : Nat → Prop) (w : World) : Prop :=
  Ext w0 w ∧ ∃ v m l D,Tm w0.heap.size x v m l D w ∧ Good l D ∧ l.Perm M ∧ A = Own x v m
theorem put_perm {id u : Int} {l M : List En} (h : l.Perm M) : (put id u l).Perm (put id u M) := List.Perm.cons _ (others_perm h)
theorem isIn_perm {id : Int} {l M : List En} (h : l.Perm M) : isIn id l = isIn id M := by
  rw [Bool.eq_iff_iff,isIn_iff,isIn_iff]
  exact ⟨fun ⟨e,h1,h2⟩ => ⟨e,h.mem_iff.1 h1,h2⟩,fun ⟨e,h1,h2⟩ => ⟨e,h.mem_iff.2 h1,h2⟩⟩
theorem sleepOn_perm {tick : Int} {l M : List En} (h : l.Perm M) : (sleepOn tick l).Perm (sleepOn tick M) := h.filter _
theorem dueIds_perm {tick : Int} {l M : List En} (h : l.Perm M) : dueIds tick l = dueIds tick M := sortI_perm ((h.filter _).map _)
theorem sortI_of {a b : List Int} (h : a.Perm b) (hb : b.Pairwise (· ≤ ·)) : sortI a = b := by
  rw [sortI_perm h]
  have tr : ∀ (x y z : Int),decide (x ≤ y) = true → decide (y ≤ z) = true → decide (x ≤ z) = true := fun x y z h1 h2 => by simp at h1 h2 ⊢; omega
  have tt : ∀ (x y : Int),(decide (x ≤ y) || decide (y ≤ x)) = true := fun x y => by simp; omega
  exact List.Perm.eq_of_pairwise (le := fun x y => decide (x ≤ y) = true) (fun x y _ _ h1 h2 => by simp at h1 h2; omega) (List.pairwise_mergeSort tr tt b) (hb.imp fun h => by simpa using h) (List.mergeSort_perm b _)
theorem mem_dueIds {tick : Int} {M : List En} {k : Int} : k ∈ dueIds tick M ↔ ∃ e ∈ M,e.2 ≤ tick ∧ e.1 = k := by
  unfold dueIds sortI isDue
  rw [List.mem_mergeSort,List.mem_map]
  constructor
  · rintro ⟨e,h1,h2⟩
    obtain ⟨h3,h4⟩ := List.mem_filter.1 h1
    exact ⟨e,h3,by simpa using h4,h2⟩
  · rintro ⟨e,h1,h2,h3⟩
    exact ⟨e,List.mem_filter.2 ⟨h1,by simpa using h2⟩,h3⟩
theorem dueIds_length (tick : Int) (M : List En) : (dueIds tick M).length + (sleepOn tick M).length = M.length := by
  unfold dueIds sortI isDue sleepOn
  rw [List.length_mergeSort,List.length_map]
  induction M with
  | nil => rfl
  | cons a l ih =>
    rw [List.filter_cons,List.filter_cons]
    by_cases h : a.2 ≤ tick
    · simp [h]; omega
    · simp [h]; omega
def IsLeast (z : Int) (M : List En) : Prop := (M = [] ∧ z = 0) ∨ ((∃ e ∈ M,e.2 = z) ∧ ∀ e ∈ M,z ≤ e.2)
theorem IsLeast.one {a b : Int} {M : List En} (h : IsLeast a M) (k : IsLeast b M) : a = b := by
  rcases h with ⟨h1,h2⟩ | ⟨⟨e,h1,h2⟩,h3⟩
  · rcases k with ⟨k1,k2⟩ | ⟨⟨e,k1,k2⟩,k3⟩
    · omega
    · rw [h1] at k1; cases k1
  · rcases k with ⟨k1,k2⟩ | ⟨⟨e',k1,k2⟩,k3⟩
    · rw [k1] at h1; cases h1
    · have := h3 e' k1
      have := k3 e h1
      omega
theorem IsLeast.perm {a : Int} {M N : List En} (h : IsLeast a M) (p : M.Perm N) : IsLeast a N := by
  rcases h with ⟨h1,h2⟩ | ⟨⟨e,h1,h2⟩,h3⟩
  · exact .inl ⟨by rw [h1] at p; exact p.symm.eq_nil,h2⟩
  · exact .inr ⟨⟨e,p.mem_iff.1 h1,h2⟩,fun e he => h3 e (p.mem_iff.2 he)⟩
section
variable {w0 w w' : World} {x : Site} {M : List En} {A B : Nat → Prop}
theorem St.xt (h : St w0 x M A w) : Ext w0 w := h.1
theorem St.apart (h : St w0 x M A w) : Apart M := by
  obtain ⟨_,v,m,l,D,h1,h2,h3,_⟩ := h
  exact h2.apart.perm h3
theorem St.own (h : St w0 x M A w) : ∀ k,A k → w0.heap.size ≤ k ∧ k < w.heap.size := by
  obtain ⟨_,v,m,l,D,h1,_,_,rfl⟩ := h
  exact h1.own
theorem St.lt (h : St w0 x M A w) : x.b < w.heap.size := by
  obtain ⟨_,v,m,l,D,h1,_,_,rfl⟩ := h
  exact h1.lt
theorem St.ext (h : St w0 x M A w) (k : Ext w w') : St w0 x M A w' := by
  obtain ⟨h0,v,m,l,D,h1,h2,h3,h4⟩ := h
  exact ⟨h0.trans k,v,m,l,D,h1.ext k,h2,h3,h4⟩
theorem St.keep {C : Nat → Prop} (h : St w0 x M C w) (k : Mvp A B w w') (hAC : ∀ i,A i → ¬ C i) (hA : ∀ i,A i → w0.heap.size ≤ i) : St w0 x M C w' ∧ ∀ i,B i → ¬ C i := by
  have hlt := fun i hi => (h.own i hi).2
  obtain ⟨h0,v,m,l,D,h1,h2,h3,rfl⟩ := h
  refine ⟨⟨k.xt h0 hA,v,m,l,D,⟨?_,h1.ty,h1.row.keep fun g hg => ?_,h1.map.keep fun g hg => ?_,h1.bx⟩,h2,h3,rfl⟩,fun i hB hC => ?_⟩
  · exact h1.blk.same (k.block x.b h1.lt (fun e => hAC x.b e (.inl rfl)))
  · exact k.block g (h1.own g (.inr (.inl hg))).2 (fun e => hAC g e (.inr (.inl hg)))
  · exact k.block g (h1.own g (.inr (.inr hg))).2 (fun e => hAC g e (.inr (.inr hg)))
  · rcases k.own i hB with h4 | h4
    · exact hAC i h4 hC
    · have := hlt i hC
      omega
theorem St.perm {N : List En} (h : St w0 x M A w) (p : M.Perm N) : St w0 x N A w := by
  obtain ⟨h0,v,m,l,D,h1,h2,h3,h4⟩ := h
  exact ⟨h0,v,m,l,D,h1,h2,h3.trans p,h4⟩
theorem St.of_kept {v m : Value} {N : List En} (h0 : Ext w0 w) (hA : ∀ k,Own x v m k → w0.heap.size ≤ k) (k : Kept w0.heap.size x v m N w w') (p : N.Perm M) : ∃ B,St w0 x M B w' ∧ Mvp (Own x v m) B w w' := by
  obtain ⟨v',m',l',D',h1,h2,h3,h4⟩ := k
  exact ⟨_,⟨h4.xt h0 hA,v',m',l',D',h1,h2,h3.trans p,rfl⟩,h4⟩
theorem st_set (h : St w0 x M A w) (id u : Int) (hl : M.length ≤ 999998) (hw : wf64 id) :
    Calls Tryz.prog 58 #[.pointer (some ⟨x.b,x.d,none⟩),.int .i64 id,.int .i64 u] w fun e w' => e = .returned (.tuple #[]) ∧ ∃ B,St w0 x (put id u M) B w' ∧ Mvp A B w w' := by
  obtain ⟨h0,v,m,l,D,h1,h2,h3,rfl⟩ := h
  exact (set_any h1 h2 (by rw [h3.length_eq]; exact hl) hw).mono fun _ _ ⟨a,b⟩ => ⟨a,St.of_kept h0 (fun k hk => (h1.own k hk).1) b (put_perm h3)⟩
theorem st_drop (h : St w0 x M A w) (id : Int) (hl : M.length ≤ 1000000) (hw : wf64 id) :
    Calls Tryz.prog 51 #[.pointer (some ⟨x.b,x.d,none⟩),.int .i64 id] w fun e w' => e = .returned (.bool (isIn id M)) ∧ ∃ B,St w0 x (others id M) B w' ∧ Mvp A B w w' := by
  obtain ⟨h0,v,m,l,D,h1,h2,h3,rfl⟩ := h
  exact (drop_any h1 h2 (by rw [h3.length_eq]; exact hl) hw).mono fun _ _ ⟨a,b⟩ => ⟨by rw [a,isIn_perm h3],St.of_kept h0 (fun k hk => (h1.own k hk).1) b (others_perm h3)⟩
theorem st_due (h : St w0 x M A w) (tick : Int) (hl : M.length ≤ 1000000) :
    Calls Tryz.prog 68 #[.pointer (some ⟨x.b,x.d,none⟩),.int .i64 tick] w fun e w' => ∃ vd B,e = .returned vd ∧ St w0 x (sleepOn tick M) B w' ∧ Mvp A B w w' ∧
      w'.ownsRow w.heap.size 3 1 vd (dueIds tick M).length ((dueIds tick M).map fun k => .int .i64 k) ∧ ∀ k,vd.ownBlock = some k → ¬ B k := by
  obtain ⟨h0,v,m,l,D,h1,h2,h3,rfl⟩ := h
  refine (due_any h1 h2 (by rw [h3.length_eq]; exact hl)).mono fun e w' ⟨vd,a,b,v',m',l',D',c1,c2,c3,c4,c5⟩ => ?_
  rw [dueIds_perm h3] at b
  exact ⟨vd,_,a,⟨c4.xt h0 (fun k hk => (h1.own k hk).1),v',m',l',D',c1,c2,c3.trans (sleepOn_perm h3),rfl⟩,c4,b,c5⟩
end
end Ti
end Go.Proofs.YtocicffmajbecaaGreatDoor
namespace Go.Proofs.YtocicffmajbecaaGreatDoor
open Go.RowKit
namespace Ti
open Rw
def Res (w0 : World) (ds : List Int) (vd : Value) (A : Nat → Prop) (w : World) : Prop := w.ownsRow w0.heap.size 3 1 vd ds.length (ds.map fun k => .int .i64 k) ∧ ∀ k,vd.ownBlock = some k → ¬ A k
theorem Res.keep {w0 w w' : World} {ds : List Int} {vd : Value} {A B : Nat → Prop} (h : Res w0 ds vd A w) (k : Mvp A B w w') : Res w0 ds vd B w' := by
  have hb := owns_below h.1
  refine ⟨owns_keep h.1 fun g hg => k.block g (hb g hg).2 (h.2 g hg),fun i hi hB => ?_⟩
  rcases k.own i hB with h1 | h1
  · exact h.2 i hi h1
  · have := (hb i hi).2
    omega
theorem Res.ints {w0 w : World} {ds : List Int} {vd : Value} {A : Nat → Prop} (h : Res w0 ds vd A w) : Ints w vd ds := ints_of_owns h.1
theorem Res.ext {w0 w w' : World} {ds : List Int} {vd : Value} {A : Nat → Prop} (h : Res w0 ds vd A w) (k : Ext w w') : Res w0 ds vd A w' := ⟨owns_ext h.1 k,h.2⟩
end Ti
end Go.Proofs.YtocicffmajbecaaGreatDoor
