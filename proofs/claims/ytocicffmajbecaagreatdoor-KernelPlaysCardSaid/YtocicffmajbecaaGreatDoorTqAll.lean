/- The document's own tree: Weight. -/
import Derived.Test.YtocicffmajbecaaGreatDoorRows
import Derived.Test.YtocicffmajbecaaGreatDoorLib
import Derived.Test.YtocicffmajbecaaGreatDoorPush
import Derived.Test.YtocicffmajbecaaGreatDoorMv
import Derived.Test.YtocicffmajbecaaGreatDoorPiece
import Derived.Test.YtocicffmajbecaaGreatDoorNd
import Derived.WalkKit
import Derived.WalkSpells
import Derived.WalkLawsBesides
import Derived.Deep.QuietTactic
import Derived.BigQuiet
import Derived.Deep.RegionHeld3
import Derived.OwnWalk
import Derived.Handy
import Derived.Maps.AppendAt
import Derived.Test.YtocicffmajbecaaGreatDoorNn
import Derived.Test.YtocicffmajbecaaGreatDoorInts
import Derived.Test.YtocicffmajbecaaGreatDoorSd0
import Derived.Deep.LoopGhost
namespace Go.Proofs.YtocicffmajbecaaGreatDoor
open Go.RowKit
theorem blk_cellT {w : World} {b : Nat} {cs : Array Value} {T : TypeId} (h : w.heap[b]? = some (.cells cs T (0,0))) (j : Nat) : w.cell? ⟨b,j,none⟩ = cs[j]? := by simp [World.cell?,h]
def ndc (n : Nd) : List Value := [.int .i64 n.id,.int .i64 n.par,.int .i64 n.wt,.int .i64 n.pass,.bool n.thr,.bool n.rdy,.int .i64 n.now]
theorem ndc_length (n : Nd) : (ndc n).length = 7 := rfl
theorem ndc_one : ∀ (l : List Nd),∀ u ∈ l.flatMap ndc,u.oneCell' = true := fun l u hu => by
  obtain ⟨x,_,hx⟩ := List.mem_flatMap.1 hu
  simp only [ndc,List.mem_cons,List.not_mem_nil,or_false] at hx
  rcases hx with rfl | rfl | rfl | rfl | rfl | rfl | rfl <;> rfl
def NRow (w : World) (base : Nat) (v : Value) (l : List Nd) : Prop := w.ownsRow base 113 7 v l.length (l.flatMap ndc)
theorem NRow.lt {w : World} {base : Nat} {v : Value} {l : List Nd} (h : NRow w base v l) : ∀ g,v.ownBlock = some g → base ≤ g ∧ g < w.heap.size := World.ownsRow.lt h
theorem NRow.keep {w w' : World} {base : Nat} {v : Value} {l : List Nd} (h : NRow w base v l) (k : ∀ g,v.ownBlock = some g → w'.heap[g]? = w.heap[g]?) : NRow w' base v l := by
  refine ⟨h.1,?_⟩
  rcases h.2 with h | ⟨g,cap,cur,e1,e2,e3,r⟩
  · exact .inl h
  · exact .inr ⟨g,cap,cur,e1,e2,by rw [k g (by rw [e1]; rfl)]; exact e3,r⟩
theorem NRow.ext {w w' : World} {base : Nat} {v : Value} {l : List Nd} (h : NRow w base v l) (k : Ext w w') : NRow w' base v l := h.keep fun g hg => k.below.block g (h.lt g hg).2
theorem NRow.base {w : World} {base base' : Nat} {v : Value} {l : List Nd} (h : NRow w base v l) (hb : base' ≤ base) : NRow w base' v l := by
  refine ⟨h.1,?_⟩
  rcases h.2 with h | ⟨g,cap,cur,e1,e2,r⟩
  · exact .inl h
  · exact .inr ⟨g,cap,cur,e1,by omega,r⟩
theorem NRow.far {w : World} {base b : Nat} {v : Value} {l : List Nd} {cs : Array Value} {T : TypeId} (h : NRow w base v l) (hb : w.heap[b]? = some (.cells cs T (0,0))) (hT : T ≠ 113) : v.ownBlock ≠ some b := by
  intro hg
  rcases h.2 with ⟨rfl,_⟩ | ⟨g',cap,cur,rfl,e2,e3,r⟩
  · cases hg
  · simp only [Value.ownBlock,Option.some.injEq] at hg
    subst hg
    rw [hb] at e3
    injection (Option.some.inj e3) with _ h
    exact hT h
theorem NRow.slice {w : World} {base : Nat} {v : Value} {l : List Nd} (h : NRow w base v l) : ∃ p cap,v = .slice p l.length cap ∧ l.length ≤ cap ∧ cap ≤ maxLen ∧ (p = none → l = [] ∧ cap = 0) ∧ (∀ a,p = some a → ∃ g,a = ⟨g,0,none⟩ ∧ base ≤ g ∧ g < w.heap.size) := by
  rcases h.2 with ⟨rfl,h0⟩ | ⟨g,cap,cur,rfl,e2,e3,e4,e5,_⟩
  · exact ⟨none,0,by rw [h0],by omega,by unfold maxLen; omega,fun _ => ⟨List.eq_nil_of_length_eq_zero h0,rfl⟩,fun _ h => by cases h⟩
  · exact ⟨_,cap,rfl,e4,e5,(fun h => by cases h),fun a ha => by cases ha; exact ⟨g,rfl,e2,lt_blk e3⟩⟩
theorem NRow.cellAt {w : World} {base g cap : Nat} {l : List Nd} (h : NRow w base (.slice (some ⟨g,0,none⟩) l.length cap) l) {i j : Nat} {n : Nd} (hi : l[i]? = some n) (hj : j < 7) : w.cell? ⟨g,i * 7 + j,none⟩ = (ndc n)[j]? := by
  rcases h.2 with ⟨h,_⟩ | ⟨g',cap',cur,e1,e2,e3,e4,e5,e6,e7⟩
  · cases h
  injection e1 with e1 _ e8
  injection e1 with e1
  injection e1 with e1
  subst e1 e8
  have hil := (List.getElem?_eq_some_iff.1 hi).1
  have f0 := flat_get ndc_length l i n j hi hj
  rw [← e7,List.getElem?_take,if_pos (by omega)] at f0
  simp only [World.cell?,e3]
  simpa using f0
theorem NRow.free {w : World} {base g cap j : Nat} {l : List Nd} (h : NRow w base (.slice (some ⟨g,0,none⟩) l.length cap) l) : w.frozen? ⟨g,j,none⟩ = false := by
  rcases h.2 with ⟨h,_⟩ | ⟨g',cap',cur,e1,e2,e3,e4,e5,e6,e7⟩
  · cases h
  injection e1 with e1 _ e8
  injection e1 with e1
  injection e1 with e1
  subst e1 e8
  simp [World.frozen?,e3]
theorem NRow.node {w : World} {base g cap : Nat} {l : List Nd} (h : NRow w base (.slice (some ⟨g,0,none⟩) l.length cap) l) {i : Nat} {n : Nd} (hi : l[i]? = some n) :
    w.cell? ⟨g,i * 7,none⟩ = some (.int .i64 n.id) ∧ w.cell? ⟨g,i * 7 + 1,none⟩ = some (.int .i64 n.par) ∧ w.cell? ⟨g,i * 7 + 2,none⟩ = some (.int .i64 n.wt) ∧ w.cell? ⟨g,i * 7 + 3,none⟩ = some (.int .i64 n.pass) ∧
    w.cell? ⟨g,i * 7 + 4,none⟩ = some (.bool n.thr) ∧ w.cell? ⟨g,i * 7 + 5,none⟩ = some (.bool n.rdy) ∧ w.cell? ⟨g,i * 7 + 6,none⟩ = some (.int .i64 n.now) :=
  ⟨h.cellAt (j := 0) hi (by omega),h.cellAt (j := 1) hi (by omega),h.cellAt (j := 2) hi (by omega),h.cellAt (j := 3) hi (by omega),h.cellAt (j := 4) hi (by omega),h.cellAt (j := 5) hi (by omega),h.cellAt (j := 6) hi (by omega)⟩
structure Tq (base x : Nat) (v : Value) (l : List Nd) (w : World) : Prop where
  blk : w.heap[x]? = some (.cells #[v] 111 (0,0))
  row : NRow w base v l
theorem Tq.ext {base x : Nat} {v : Value} {l : List Nd} {w w' : World} (h : Tq base x v l w) (k : Ext w w') : Tq base x v l w' :=
  ⟨by rw [k.below.block x (lt_blk h.blk)]; exact h.blk,h.row.ext k⟩
theorem Tq.lt {base x : Nat} {v : Value} {l : List Nd} {w : World} (h : Tq base x v l w) : x < w.heap.size := lt_blk h.blk
theorem Tq.cell {base x : Nat} {v : Value} {l : List Nd} {w : World} (h : Tq base x v l w) : w.cell? ⟨x,0,none⟩ = some v := by simp [World.cell?,h.blk]
theorem Tq.free {base x : Nat} {v : Value} {l : List Nd} {w : World} (h : Tq base x v l w) : w.frozen? ⟨x,0,none⟩ = false := by simp [World.frozen?,h.blk]
theorem Tq.far {base x : Nat} {v : Value} {l : List Nd} {w : World} (h : Tq base x v l w) : v.ownBlock ≠ some x := h.row.far h.blk (by decide)
theorem Tq.lay {base x : Nat} {v v' : Value} {l' : List Nd} {w : World} (h : w.heap[x]? = some (.cells #[v] 111 (0,0))) (hr : NRow w base v' l') : Tq base x v' l' (w.setCell ⟨x,0,none⟩ v') := by
  refine ⟨by rw [set_same h]; rfl,hr.keep fun g hg => ?_⟩
  have hne : g ≠ x := by
    intro e
    subst e
    exact hr.far h (by decide) hg
  exact Below.heap_setCell _ _ _ _ (by simpa using hne)
def idxT (l : List Nd) (id : Int) : Nat := l.findIdx (fun n => n.id == id)
def atV (l : List Nd) (id : Int) : Int := if idxT l id < l.length then (idxT l id : Int) else -1
theorem idxT_is {l : List Nd} {id : Int} {k : Nat} (hk : k < l.length) (hid : l[k].id = id) (hb : ∀ i (hi : i < k),(l[i]'(by omega)).id ≠ id) : idxT l id = k := by
  unfold idxT
  rw [List.findIdx_eq hk]
  exact ⟨by simp [hid],fun j hj => by simp [hb j hj]⟩
theorem idxT_none {l : List Nd} {id : Int} (hb : ∀ i (hi : i < l.length),l[i].id ≠ id) : ¬ idxT l id < l.length := by
  intro h
  have := List.findIdx_getElem (p := fun n : Nd => n.id == id) (w := h)
  simp only [beq_iff_eq] at this
  exact hb _ h this
set_option maxRecDepth 100000 in
set_option maxHeartbeats 2000000 in
theorem tat_any {base x : Nat} {v : Value} {l : List Nd} {w : World} (h : Tq base x v l w) (id : Int) :
    Calls Tryz.prog 66 #[.pointer (some ⟨x,0,none⟩),.int .i64 id] w (Yields w (.int .i64 (atV l id))) := by
  obtain ⟨p,cap,rfl,hc1,hc2,hp0,hp1⟩ := h.row.slice
  unfold maxLen at hc2
  have H := hid h
  have HP := hid hp1
  have HN := hid hp0
  have hx := h.lt
  have c0 := h.cell
  clear h hp0 hp1
  go_enter Tryz.func66,Tryz.ntmps66
  go_wp2
  go_loopw [5] (fun v5 wr => Ext w wr ∧ ∃ k : Nat,v5 = .int .i64 k ∧ k ≤ l.length ∧ Hid (∀ i (hi : i < k) (hl : i < l.length),l[i].id ≠ id)) (fun v5 _ => (l.length - (intOf v5).toNat))
  case atStart => exact ⟨Ext.refl _,0,rfl,Nat.zero_le _,fun i hi => absurd hi (Nat.not_lt_zero i)⟩
  case round =>
    obtain ⟨X,k,rfl,hk,hno⟩ := hrel
    have d0 := X.cell c0
    by_cases hlt : k < l.length
    · obtain ⟨a,rfl⟩ : ∃ a,p = some a := by
        cases p with
        | none => exact absurd (HN.out rfl).1 (by intro e; rw [e] at hlt; simp at hlt)
        | some a => exact ⟨a,rfl⟩
      obtain ⟨g,rfl,hg,hgl⟩ := HP.out a rfl
      obtain ⟨n,hn⟩ : ∃ n,l[k]? = some n := ⟨l[k],List.getElem?_eq_getElem hlt⟩
      have hn' : l[k] = n := by rw [List.getElem?_eq_getElem hlt] at hn; exact Option.some.inj hn
      obtain ⟨e0,-⟩ := H.out.row.node hn
      have f0 := X.cell e0
      clear e0
      have HQ := hid hn'
      have i1 : (k : Int) < l.length := by omega
      clear hn hn'
      by_cases hid0 : n.id = id
      · have q0 : (n.id == id) = true := by simpa using hid0
        have HI : Hid (idxT l id = k) := idxT_is hlt (by rw [HQ.out]; exact hid0) (fun i hi => hno.out i hi (by omega))
        clear hid0
        go_wp2
        go_returns
        exact ⟨by simp [atV,HI.out,hlt],X⟩
      · have q0 : (n.id == id) = false := by simpa using hid0
        have HI : Hid (l[k].id ≠ id) := by rw [HQ.out]; exact hid0
        clear hid0
        go_wp2
        go_roundw
        case rel => exact ⟨X,k + 1,by go_num,by omega,fun i hi hl => by
          by_cases e : i = k
          · subst e; exact HI.out
          · exact hno.out i (by omega) hl⟩
        case measure => simp [intOf]; omega
    · have HI : Hid (¬ idxT l id < l.length) := idxT_none (fun i hi => hno.out i (by omega) hi)
      go_wp2
      go_returns
      exact ⟨by simp [atV,HI.out],X⟩
end Go.Proofs.YtocicffmajbecaaGreatDoor
namespace Go.Proofs.YtocicffmajbecaaGreatDoor
open Go.RowKit
theorem any_snoc {α : Type} (l : List α) (f : α → Bool) (k : Nat) (h : k < l.length) (ht : (l.take k).any f = false) (hf : f l[k] = false) : (l.take (k + 1)).any f = false := by
  rw [List.take_succ_eq_append_getElem h,List.any_append,ht]; simp [hf]
theorem any_there {α : Type} (l : List α) (f : α → Bool) (k : Nat) (h : k < l.length) (hf : f l[k] = true) : l.any f = true := List.any_eq_true.2 ⟨l[k],List.getElem_mem h,hf⟩
set_option maxRecDepth 100000 in
set_option maxHeartbeats 2000000 in
theorem tsome_any {base x : Nat} {v : Value} {l : List Nd} {w : World} (h : Tq base x v l w) (id : Int) :
    Calls Tryz.prog 71 #[.pointer (some ⟨x,0,none⟩),.int .i64 id] w (Yields w (.bool (someT l id))) := by
  obtain ⟨p,cap,rfl,hc1,hc2,hp0,hp1⟩ := h.row.slice
  unfold maxLen at hc2
  have H := hid h
  have HP := hid hp1
  have HN := hid hp0
  have hx := h.lt
  have c0 := h.cell
  clear h hp0 hp1
  go_enter Tryz.func71,Tryz.ntmps71
  go_wp2
  go_loopw [5] (fun v5 wr => Ext w wr ∧ ∃ k : Nat,v5 = .int .i64 k ∧ k ≤ l.length ∧ Hid ((l.take k).any (fun n => n.par == id && n.rdy) = false)) (fun v5 _ => (l.length - (intOf v5).toNat))
  case atStart => exact ⟨Ext.refl _,0,rfl,Nat.zero_le _,by simp [Hid]⟩
  case round =>
    obtain ⟨X,k,rfl,hk,hno⟩ := hrel
    have d0 := X.cell c0
    by_cases hlt : k < l.length
    · obtain ⟨a,rfl⟩ : ∃ a,p = some a := by
        cases p with
        | none => exact absurd (HN.out rfl).1 (by intro e; rw [e] at hlt; simp at hlt)
        | some a => exact ⟨a,rfl⟩
      obtain ⟨g,rfl,hg,hgl⟩ := HP.out a rfl
      have hn : l[k]? = some l[k] := List.getElem?_eq_getElem hlt
      obtain ⟨-,e1,-,-,-,e5,-⟩ := H.out.row.node hn
      have f1 := X.cell e1
      have f5 := X.cell e5
      clear e1 e5
      have HT := hid (any_there l (fun n => n.par == id && n.rdy) k hlt)
      have HS := hid (any_snoc l (fun n => n.par == id && n.rdy) k hlt hno.out)
      have i1 : (k : Int) < l.length := by omega
      clear hn
      generalize l[k] = n at *
      cases q0 : n.par == id
      · go_wp2
        go_roundw
        case rel => exact ⟨X,k + 1,by go_num,by omega,HS.out (by simp [q0])⟩
        case measure => simp [intOf]; omega
      · cases q1 : n.rdy
        · rw [q1] at f5
          go_wp2
          go_roundw
          case rel => exact ⟨X,k + 1,by go_num,by omega,HS.out (by simp [q1])⟩
          case measure => simp [intOf]; omega
        · rw [q1] at f5
          have HR : Hid (someT l id = true) := HT.out (by simp [q0,q1])
          go_wp2
          go_returns
          exact ⟨by rw [HR.out]; rfl,X⟩
    · have HR : Hid (someT l id = false) := by
        have := hno.out
        rwa [List.take_of_length_le (by omega)] at this
      go_wp2
      go_returns
      exact ⟨by rw [HR.out]; rfl,X⟩
def parAt (l : List Nd) (k : Int) : Int := match l[k.toNat]? with
  | some n => n.par
  | none => -1
def TSteps (l : List Nd) : Nat → Int → Prop
  | 0,k => k < 0
  | n + 1,k => 0 ≤ k ∧ TSteps l n (atV l (parAt l k))
theorem atV_bounds (l : List Nd) (id : Int) : -1 ≤ atV l id ∧ atV l id < l.length := by
  unfold atV; split <;> omega
set_option maxRecDepth 100000 in
set_option maxHeartbeats 2000000 in
theorem tdeep_any {base x : Nat} {v : Value} {l : List Nd} {w : World} (h : Tq base x v l w) (id : Int) (n : Nat) (hn : n ≤ 1000) (hs : TSteps l n (atV l id)) :
    Calls Tryz.prog 48 #[.pointer (some ⟨x,0,none⟩),.int .i64 id] w (Yields w (.int .i64 n)) := by
  obtain ⟨p,cap,rfl,hc1,hc2,hp0,hp1⟩ := h.row.slice
  unfold maxLen at hc2
  have H := hid h
  have HP := hid hp1
  have HN := hid hp0
  have hx := h.lt
  have c0 := h.cell
  have HS := hid hs
  clear h hp0 hp1 hs
  go_enter Tryz.func48,Tryz.ntmps48
  go_wp2_with (go_at_call 66; refine (tat_any (H.out.ext ext_by) _).yields ?_; intro p0)
  go_loopw [5,6] (fun v5 v6 wr => Ext w wr ∧ ∃ (m : Nat) (k : Int),v5 = .int .i64 m ∧ v6 = .int .i64 k ∧ m ≤ n ∧ -1 ≤ k ∧ k < l.length ∧ Hid (TSteps l (n - m) k)) (fun v5 _ _ => (n - (intOf v5).toNat))
  case atStart => exact ⟨ext_by,0,_,rfl,rfl,Nat.zero_le _,(atV_bounds l id).1,(atV_bounds l id).2,HS.out⟩
  case round =>
    obtain ⟨X,m,k,rfl,rfl,hm,hk1,hk2,hst⟩ := hrel
    have d0 := X.cell c0
    by_cases hk : 0 ≤ k
    · obtain ⟨a,rfl⟩ : ∃ a,p = some a := by
        cases p with
        | none => exact absurd (HN.out rfl).1 (by intro e; rw [e] at hk2; simp at hk2; omega)
        | some a => exact ⟨a,rfl⟩
      obtain ⟨g,rfl,hg,hgl⟩ := HP.out a rfl
      obtain ⟨j,rfl⟩ : ∃ j : Nat,k = j := ⟨k.toNat,by omega⟩
      have hlt : j < l.length := by omega
      have hn' : l[j]? = some l[j] := List.getElem?_eq_getElem hlt
      obtain ⟨-,e1,-⟩ := H.out.row.node hn'
      have f1 := X.cell e1
      clear e1
      have HM : Hid (m + 1 ≤ n ∧ TSteps l (n - (m + 1)) (atV l l[j].par)) := by
        have := hst.out
        obtain ⟨q,hq⟩ : ∃ q,n - m = q + 1 := by
          cases hnm : n - m with
          | zero => rw [hnm] at this; exact absurd this (by simp only [TSteps]; omega)
          | succ q => exact ⟨q,rfl⟩
        rw [hq] at this
        have h2 := this.2
        simp only [parAt,Int.toNat_natCast,hn'] at h2
        exact ⟨by omega,by rw [show n - (m + 1) = q by omega]; exact h2⟩
      clear hn'
      generalize l[j] = nd at *
      go_wp2_with (go_at_call 66; refine (tat_any (H.out.ext ext_by) _).yields ?_; intro p1)
      go_roundw
      case rel => exact ⟨ext_by,m + 1,_,by go_num,rfl,HM.out.1,(atV_bounds l _).1,(atV_bounds l _).2,HM.out.2⟩
      case measure => have := HM.out.1; simp [intOf]; omega
    · have HE : Hid (m = n) := by
        have := hst.out
        cases hnm : n - m with
        | zero => unfold Hid; omega
        | succ q => rw [hnm] at this; exact absurd this.1 hk
      go_wp2
      go_returns
      exact ⟨by rw [HE.out]; rfl,X⟩
end Go.Proofs.YtocicffmajbecaaGreatDoor
namespace Go.Proofs.YtocicffmajbecaaGreatDoor
open Go.RowKit
theorem infoNd : (Tryz.prog.info? 113).map (fun i => (i.zero,i.size,i.bytes)) = some (some (.agg #[.int .i64 0,.int .i64 0,.int .i64 0,.int .i64 0,.bool false,.bool false,.int .i64 0]),7,48) := by kernel_rfl
set_option maxHeartbeats 1000000 in
theorem tnew_any (w : World) : Calls Tryz.prog 39 #[] w fun e w' => ∃ v,e = .returned (.pointer (some ⟨w.heap.size + 1,0,none⟩)) ∧ Tq w.heap.size (w.heap.size + 1) v [⟨0,-1,1,0,false,false,0⟩] w' ∧ Ext w w' := by
  go_enter Tryz.func39,Tryz.ntmps39
  go_wp2
  go_returns
  refine ⟨.slice (some ⟨w.heap.size,0,none⟩) 1 1,rfl,⟨?_,?_⟩,ext_by⟩
  · have := heap_alloc_new (w.alloc (.cells #[.int .i64 0,.int .i64 (-1),.int .i64 1,.int .i64 0,.bool false,.bool false,.int .i64 0] 113 (0,0))) (.cells #[.slice (some ⟨w.heap.size,0,none⟩) 1 1] 111 (0,0))
    rwa [World.size_alloc] at this
  · refine ⟨rfl,.inr ⟨w.heap.size,1,_,rfl,Nat.le_refl _,block_ext' (Ext.alloc (Ext.refl _) _) (heap_alloc_new w _),Nat.le_refl _,by unfold maxLen; omega,rfl,rfl⟩⟩
set_option maxRecDepth 100000 in
set_option maxHeartbeats 2000000 in
theorem tnodes_any {base x : Nat} {v : Value} {l : List Nd} {w : World} (h : Tq base x v l w) (hl : l.length ≤ 1000) :
    Calls Tryz.prog 33 #[.pointer (some ⟨x,0,none⟩)] w fun e w' => ∃ v',e = .returned v' ∧ ARow w' w.heap.size v' (l.map Nd.nn) ∧ Ext w w' := by
  obtain ⟨p,cap,rfl,hc1,hc2,hp0,hp1⟩ := h.row.slice
  unfold maxLen at hc2
  have H := hid h
  have HP := hid hp1
  have HN := hid hp0
  have hx := h.lt
  have c0 := h.cell
  clear h hp0 hp1
  go_enter Tryz.func33,Tryz.ntmps33
  go_wp2
  go_loopw [3,4] (fun v3 v4 wr => Ext w wr ∧ ∃ k : Nat,v4 = .int .i64 k ∧ k ≤ l.length ∧ Hid (wr.ownsRow w.heap.size 101 6 v3 k (((l.take k).map Nd.nn).flatMap nnc))) (fun _ v4 _ => (l.length - (intOf v4).toNat))
  case atStart => exact ⟨Ext.refl _,0,rfl,Nat.zero_le _,World.ownsRow_nil _ _ _ _⟩
  case round =>
    obtain ⟨X,k,rfl,hk,hno⟩ := hrel
    have d0 := X.cell c0
    by_cases hlt : k < l.length
    · obtain ⟨a,rfl⟩ : ∃ a,p = some a := by
        cases p with
        | none => exact absurd (HN.out rfl).1 (by intro e; rw [e] at hlt; simp at hlt)
        | some a => exact ⟨a,rfl⟩
      obtain ⟨g,rfl,hg,hgl⟩ := HP.out a rfl
      have hn : l[k]? = some l[k] := List.getElem?_eq_getElem hlt
      obtain ⟨e0,e1,e2,e3,e4,e5,-⟩ := H.out.row.node hn
      have f0 := X.cell e0
      have f1 := X.cell e1
      have f2 := X.cell e2
      have f3 := X.cell e3
      have f4 := X.cell e4
      have f5 := X.cell e5
      clear e0 e1 e2 e3 e4 e5
      have HT : Hid (((l.take (k + 1)).map Nd.nn).flatMap nnc = ((l.take k).map Nd.nn).flatMap nnc ++ nnc l[k].nn) := by
        unfold Hid
        rw [List.take_succ_eq_append_getElem hlt,List.map_append,List.flatMap_append]; simp
      have i1 : (k : Int) < l.length := by omega
      have HX := hid X
      clear hn
      generalize l[k] = n at *
      have hgr : g < wr.heap.size := by have := X.size; omega
      go_wp2_with (at_builtin; refine wpList_push_own rfl (.tmp 14) (.tmp 23) 62 101 (.agg #[.int .i64 0,.int .i64 0,.int .i64 0,.int .i64 0,.bool false,.bool false]) 6 40 rfl Tryz.underlying62 infoNn rfl (by decide) hno.out (news := nnc n.nn) rfl (by intro u hu; simp only [nnc,List.mem_cons,List.not_mem_nil,or_false] at hu; rcases hu with rfl | rfl | rfl | rfl | rfl | rfl <;> rfl) (by unfold maxLen; omega) (by omega) HX.out.size rfl rfl rfl ?_; intro p1 c1 w1 ho1 hb1)
      go_roundw
      case rel => exact ⟨⟨Below.trans HX.out.below hb1⟩,k + 1,by go_num,by omega,by rw [HT.out]; exact ho1⟩
      case measure => simp [intOf]; omega
    · obtain rfl : k = l.length := by omega
      have hr := hno.out
      rw [List.take_length] at hr
      have HR := hid hr
      clear hr
      go_wp2
      go_returns
      exact ⟨_,rfl,by unfold ARow; rw [List.length_map]; exact HR.out,X⟩
end Go.Proofs.YtocicffmajbecaaGreatDoor
namespace Go.Proofs.YtocicffmajbecaaGreatDoor
open Go.RowKit
set_option linter.unusedSimpArgs false
theorem wp_append_sl {P : Program} {o : Oper} {a : Act} {w : World} {K : Act → World → Prop} {Q : Exit → Act → World → Prop} (s x : Operand) (t T : TypeId) (z : Value) (n by' : Nat)
    (ho : o.op = .call { callee := .builtin .append,args := #[s,x],argTypes := #[t,t] }) (ht : P.underlying t = some (.slice T)) (hi : (P.info? T).map (fun i => (i.zero,i.size,i.bytes)) = some (some z,n,by')) (hz : z.cells.size = n) (hn : 0 < n)
    {base m : Nat} {v : Value} {xs : List Value} (hown : w.ownsRow base T n v m xs) {ad : Addr} {m2 c2 : Nat} {news : List Value} (hs : a.eval s = v) (hx : a.eval x = .slice (some ad) m2 c2) (hl : news.length = m2 * n)
    (hnews : ∀ j u,news[j]? = some u → w.cell? (ad.add j) = some u) (h1 : ∀ u ∈ news,u.oneCell' = true) (b1 : m + m2 ≤ maxLen) (b2 : (m + m2) * by' ≤ 140737488355328) (hbase : base ≤ w.heap.size)
    (k : ∀ v' w',w'.ownsRow base T n v' (m + m2) (xs ++ news) → Below base w w' → K (a.put o.dst v') w') : o.wp P a w K Q := by
  obtain ⟨i0,hi,hz0,hz1,hz2⟩ := info_parts hi
  refine wp_append_own _ s x t ho base T i0 z n by' ht hi hz0 hz1 hz2 hz hn v m xs hs hown ad m2 c2 news hx hl hnews h1 b1 b2 hbase fun v' w' h2 h3 _ => ?_
  refine k v' w' h2 ⟨h3.os,h3.tape,h3.output,h3.size,fun i hi => h3.block i (by omega) fun e => ?_⟩
  have := (World.ownsRow.lt hown i e.symm).1
  omega
theorem owns_shape {w : World} {base T n m : Nat} {v : Value} {xs : List Value} (h : w.ownsRow base T n v m xs) : ∃ p c,v = .slice p m c := by
  rcases h.2 with ⟨rfl,rfl⟩ | ⟨g,cap,cur,rfl,_⟩
  · exact ⟨none,0,rfl⟩
  · exact ⟨_,cap,rfl⟩
theorem NRow.src {w : World} {base g cap : Nat} {l : List Nd} (h : NRow w base (.slice (some ⟨g,0,none⟩) l.length cap) l) (a : Nat) (m r : List Nd) (hm : l.drop a = m ++ r) : ∀ j u,(m.flatMap ndc)[j]? = some u → w.cell? ((⟨g,a * 7,none⟩ : Addr).add j) = some u := by
  intro j u hj
  rcases h.2 with ⟨h,_⟩ | ⟨g',cap',cur,e1,e2,e3,e4,e5,e6,e7⟩
  · cases h
  injection e1 with e1 _ e8
  injection e1 with e1
  injection e1 with e1
  subst e1 e8
  have hjl := (List.getElem?_eq_some_iff.1 hj).1
  have hml := flat_length ndc_length m
  have hal : a ≤ l.length := by
    apply Decidable.byContradiction
    intro hc
    rw [List.drop_eq_nil_of_le (by omega)] at hm
    have : m = [] := (List.append_eq_nil_iff.1 hm.symm).1
    subst this
    simp at hjl
  have hll : l.length = a + (m.length + r.length) := by
    have := congrArg List.length hm
    rw [List.length_drop,List.length_append] at this
    omega
  have hfl : l.flatMap ndc = (l.take a).flatMap ndc ++ (m.flatMap ndc ++ r.flatMap ndc) := by
    rw [← List.flatMap_append,← hm,← List.flatMap_append,List.take_append_drop]
  have hta : ((l.take a).flatMap ndc).length = a * 7 := by rw [flat_length ndc_length,List.length_take,Nat.min_eq_left hal]
  have key : (l.flatMap ndc)[a * 7 + j]? = some u := by
    rw [hfl,List.getElem?_append_right (by omega),hta,show a * 7 + j - a * 7 = j by omega,List.getElem?_append_left hjl]
    exact hj
  rw [add_add]
  rw [← e7,List.getElem?_take,if_pos (by omega)] at key
  simp only [World.cell?,e3]
  simpa using key
theorem ndc_oneAll (m : List Nd) : ∀ u ∈ m.flatMap ndc,u.oneCell' = true := ndc_one m
def InsPost (base x : Nat) (v : Value) (l : List Nd) (z : World) (a' : Act) (y : World) : Prop :=
  ∃ (v' : Value) (u1 u2 u3 u4 u5 u6 u7 u8 u9 u10 u11 u12 u13 u14 u15 u16 u17 u18 u19 u20 u21 u22 u23 u24 u25 u26 u27 u28 u29 u30 u31 u32 u33 u34 u35 u36 u37 u38 u39 u40 u41 u42 u43 u44 u45 u46 u47 u48 u49 u50 u51 u52 u53 u54 u55 u56 u57 u58 u59 u60 u61 u62 u63 u64 u65 u66 u67 u68 u69 u70 u71 u72 u73 u74 u75 u76 u77 u78 u79 u80 u81 u82 u83 u84 u85 u86 u87 u88 u89 u90 u91 u92 u93 u94 u95 u96 u97 u98 u99 u100 u101 u102 u103 u104 u105 u106 u107 u108 u109 u110 u111 u112 u113 u114 u115 u116 : Value),a' = { tmps := #[.pointer (some ⟨x,0,none⟩),u1,u2,u3,u4,u5,u6,u7,u8,u9,u10,u11,u12,u13,u14,u15,u16,u17,u18,u19,u20,u21,u22,u23,u24,u25,u26,u27,u28,u29,u30,u31,u32,u33,u34,u35,u36,u37,u38,u39,u40,u41,u42,u43,u44,u45,u46,u47,u48,u49,u50,u51,u52,u53,u54,u55,u56,u57,u58,u59,u60,u61,u62,u63,u64,u65,u66,u67,u68,u69,u70,u71,u72,u73,u74,u75,u76,u77,u78,u79,u80,u81,u82,u83,u84,u85,u86,u87,u88,u89,u90,u91,u92,u93,u94,u95,u96,u97,u98,u99,u100,u101,u102,u103,u104,u105,u106,u107,u108,u109,u110,u111,u112,u113,u114,u115,u116],defers := [] } ∧ Tq base x v' l y ∧ Mv x v v' z y
set_option maxRecDepth 100000 in
set_option maxHeartbeats 4000000 in
theorem tinsA {base x g cap A k : Nat} {l : List Nd} {d : Nd} {z : World} (h : Tq base x (.slice (some ⟨g,0,none⟩) l.length cap) l z) (hb : base ≤ z.heap.size) (hA : z.heap[A]? = some (.cells #[.int .i64 d.id,.int .i64 d.par,.int .i64 d.wt,.int .i64 d.pass,.bool d.thr,.bool d.rdy,.int .i64 d.now] 113 (0,0))) (hk : k ≤ l.length) (hl : l.length ≤ 1000) (hck : cap = k) (u1 u2 u3 u4 u5 u6 u7 u8 u9 u10 u11 u14 u15 u16 u17 u18 u19 u20 u21 u22 u23 u24 u25 u26 u27 u28 u29 u30 u31 u32 u33 u34 u35 u36 u37 u38 u39 u40 u41 u42 u43 u44 u45 u46 u47 u48 u49 u50 u51 u52 u53 u54 u55 u56 u57 u58 u59 u60 u61 u62 u63 u64 u65 u66 u67 u68 u69 u70 u71 u72 u73 u74 u75 u76 u77 u78 u79 u80 u81 u82 u83 u84 u85 u86 u87 u88 u89 u90 u91 u92 u93 u94 u95 u96 u97 u98 u99 u100 u101 u102 u103 u104 u105 u106 u107 u108 u109 u110 u111 u112 u113 u114 u115 u116 : Value) :
    (bodyAt Tryz.f40 [1,1,1,1,1,1,0]).wp Tryz.prog (Ends (InsPost base x (.slice (some ⟨g,0,none⟩) l.length cap) (l.take k ++ d :: l.drop k) z)) ({ tmps := #[.pointer (some ⟨x,0,none⟩),u1,u2,u3,u4,u5,u6,u7,u8,u9,u10,u11,.pointer (some ⟨A,0,none⟩),.int .i64 k,u14,u15,u16,u17,u18,u19,u20,u21,u22,u23,u24,u25,u26,u27,u28,u29,u30,u31,u32,u33,u34,u35,u36,u37,u38,u39,u40,u41,u42,u43,u44,u45,u46,u47,u48,u49,u50,u51,u52,u53,u54,u55,u56,u57,u58,u59,u60,u61,u62,u63,u64,u65,u66,u67,u68,u69,u70,u71,u72,u73,u74,u75,u76,u77,u78,u79,u80,u81,u82,u83,u84,u85,u86,u87,u88,u89,u90,u91,u92,u93,u94,u95,u96,u97,u98,u99,u100,u101,u102,u103,u104,u105,u106,u107,u108,u109,u110,u111,u112,u113,u114,u115,u116],defers := [] }) z := by
  have hcl := h.row.slice
  have hcap : l.length ≤ cap := by obtain ⟨p,c,e,h1,-⟩ := hcl; injection e with _ _ e; omega
  have hcm : cap ≤ 9223372036854775807 := by obtain ⟨p,c,e,-,h1,-⟩ := hcl; injection e with _ _ e; unfold maxLen at h1; omega
  clear hcl
  have HG := hid (And.intro hk (And.intro hl (And.intro hb hcap)))
  have i1 : (k : Int) ≤ l.length := by omega
  have i2 : k ≤ cap := by omega
  have HCK := hid hck
  have q16 : (cap = k) = True := eq_true hck
  clear hck
  unfold bodyAt Tryz.f40
  simp only [codeAt]
  refine wp_region_T 20 1 (fun u => u.cell? ⟨x,0,none⟩ = some (.slice (some ⟨g,0,none⟩) l.length cap) ∧ u.cell? ⟨A,0,none⟩ = some (.int .i64 d.id) ∧ u.cell? ⟨A,1,none⟩ = some (.int .i64 d.par) ∧ u.cell? ⟨A,2,none⟩ = some (.int .i64 d.wt) ∧ u.cell? ⟨A,3,none⟩ = some (.int .i64 d.pass) ∧ u.cell? ⟨A,4,none⟩ = some (.bool d.thr) ∧ u.cell? ⟨A,5,none⟩ = some (.bool d.rdy) ∧ u.cell? ⟨A,6,none⟩ = some (.int .i64 d.now)) (by kernel_rfl) (by kernel_rfl) ?_
  have HM0 : Hid (Mv x (.slice (some ⟨g,0,none⟩) l.length cap) (.slice (some ⟨g,0,none⟩) l.length cap) z z.drew) := Mv.of_ext (Ext.drew (Ext.refl z))
  have HT0 := hid (h.ext (Ext.drew (Ext.refl z)))
  have hA0 : z.drew.heap[A]? = some (.cells #[.int .i64 d.id,.int .i64 d.par,.int .i64 d.wt,.int .i64 d.pass,.bool d.thr,.bool d.rdy,.int .i64 d.now] 113 (0,0)) := hA
  have HA0 := hid hA0
  have HZ : Hid (z.drew.heap.size = z.heap.size) := rfl
  clear h hA hb hl
  generalize z.drew = z0 at *
  have HSF : Hid (∀ u,Ext z0 u → u.cell? ⟨x,0,none⟩ = some (.slice (some ⟨g,0,none⟩) l.length cap) ∧ u.cell? ⟨A,0,none⟩ = some (.int .i64 d.id) ∧ u.cell? ⟨A,1,none⟩ = some (.int .i64 d.par) ∧ u.cell? ⟨A,2,none⟩ = some (.int .i64 d.wt) ∧ u.cell? ⟨A,3,none⟩ = some (.int .i64 d.pass) ∧ u.cell? ⟨A,4,none⟩ = some (.bool d.thr) ∧ u.cell? ⟨A,5,none⟩ = some (.bool d.rdy) ∧ u.cell? ⟨A,6,none⟩ = some (.int .i64 d.now)) := fun u hu => ⟨hu.cell HT0.out.cell,hu.cell (blk_cellT HA0.out 0),hu.cell (blk_cellT HA0.out 1),hu.cell (blk_cellT HA0.out 2),hu.cell (blk_cellT HA0.out 3),hu.cell (blk_cellT HA0.out 4),hu.cell (blk_cellT HA0.out 5),hu.cell (blk_cellT HA0.out 6)⟩
  clear hA0
  have HSS := HSF.out z0 (Ext.refl _)
  refine wpT_tk 0 HSS ?_; (try simp only [nrm])
  refine wpT_tk 1 HSS ?_; (try simp only [nrm])
  refine wpT_tk 2 HSS ?_; (try simp only [nrm])
  refine wpT_tk 3 HSS ?_; (try simp only [nrm])
  refine wpT_tk 4 HSS ?_; (try simp only [nrm])
  refine wpT_tk 5 HSS ?_; (try simp only [nrm])
  refine wpT_tk 6 HSS ?_; (try simp only [nrm])
  refine wpT_tk 8 HSS ?_; (try simp only [nrm])
  refine wpT_tk 11 HSS ?_; (try simp only [nrm])
  refine wpT_tk 12 HSS ?_; (try simp only [nrm])
  refine wpT_tk 13 HSS ?_; (try simp only [nrm])
  refine wpT_tk 14 HSS ?_; (try simp only [nrm])
  refine wpT_tk 15 HSS ?_; (try simp only [nrm])
  refine wpT_tk 16 HSS ?_; (try simp only [nrm])
  refine wpT_two 7 9 rfl rfl (by kernel_rfl) (by rfl) (by rfl) (fun K' hK => ?_) (fun K' hK => ?_)
  · skip
    refine wp_append_sl (.const (.slice none 0 0)) (.tmp 103) 109 113 (.agg #[.int .i64 0,.int .i64 0,.int .i64 0,.int .i64 0,.bool false,.bool false,.int .i64 0]) 7 48 rfl Tryz.underlying109 infoNd rfl (by decide) (World.ownsRow_nil _ z0.heap.size _ _) (news := ((l.take k).flatMap ndc)) rfl rfl (by rw [flat_length ndc_length,List.length_take,Nat.min_eq_left HG.out.1]) (by intro j u hj; have := NRow.src (HT0.out.ext (Ext.refl z0)).row 0 (l.take k) (l.drop k) (by simp) j u hj; simpa using this) (ndc_oneAll _) (by unfold maxLen; have := HG.out; omega) (by have := HG.out; omega) (Nat.le_refl _) ?_
    intro r1 v1 ho1 hb1
    have HX1 : Hid (Ext z0 v1) := (Ext.refl z0).trans ⟨hb1⟩
    simp only [List.nil_append,Nat.zero_add] at ho1
    have HO1 := hid (owns_base ho1 (Ext.refl z0).size)
    have HBE := hid hb1
    clear ho1 hb1
    refine hK.out _ _ (HSF.out _ HX1.out) ?_
    clear hK K' HSS
    have HSS := HSF.out _ HX1.out
    (try simp only [nrm])
    refine wpT_on 9 (fun K' hK => ?_)
    go_simp
    have HX2 : Hid (Ext z0 (v1.alloc (.cells #[.int .i64 d.id,.int .i64 d.par,.int .i64 d.wt,.int .i64 d.pass,.bool d.thr,.bool d.rdy,.int .i64 d.now] 113 (0,0)))) := HX1.out.alloc _
    refine hK.out _ _ (HSF.out _ HX2.out) ?_
    clear hK K' HSS
    have HSS := HSF.out _ HX2.out
    (try simp only [nrm])
    have HO2 := hid (owns_ext HO1.out (Ext.alloc (Ext.refl v1) (.cells #[.int .i64 d.id,.int .i64 d.par,.int .i64 d.wt,.int .i64 d.pass,.bool d.thr,.bool d.rdy,.int .i64 d.now] 113 (0,0))))
    have HB2 : Hid ((v1.alloc (.cells #[.int .i64 d.id,.int .i64 d.par,.int .i64 d.wt,.int .i64 d.pass,.bool d.thr,.bool d.rdy,.int .i64 d.now] 113 (0,0))).heap[v1.heap.size]? = some (.cells #[.int .i64 d.id,.int .i64 d.par,.int .i64 d.wt,.int .i64 d.pass,.bool d.thr,.bool d.rdy,.int .i64 d.now] 113 (0,0))) := heap_alloc_new v1 _
    clear HO1 HX1 HBE
    generalize v1.alloc (.cells #[.int .i64 d.id,.int .i64 d.par,.int .i64 d.wt,.int .i64 d.pass,.bool d.thr,.bool d.rdy,.int .i64 d.now] 113 (0,0)) = v2 at *
    generalize v1.heap.size = B at *
    clear v1
    refine wpT_on 10 (fun K' hK => ?_)
    refine wp_append_sl (.tmp 104) (.tmp 106) 109 113 (.agg #[.int .i64 0,.int .i64 0,.int .i64 0,.int .i64 0,.bool false,.bool false,.int .i64 0]) 7 48 rfl Tryz.underlying109 infoNd rfl (by decide) HO2.out (news := ndc d) rfl rfl rfl (by intro j u hj; rw [add_add,Nat.zero_add,blk_cellT HB2.out j]; simpa [ndc] using hj) (by have := ndc_one [d]; simpa using this) (by unfold maxLen; have := HG.out; omega) (by have := HG.out; omega) HX2.out.size ?_
    intro r3 v3 ho3 hb3
    have HX3 : Hid (Ext z0 v3) := ⟨Below.trans HX2.out.below hb3⟩
    have HO3 := hid ho3
    clear ho3 hb3
    refine hK.out _ _ (HSF.out _ HX3.out) ?_
    clear hK K' HSS HX2 HO2 HB2
    have HSS := HSF.out _ HX3.out
    (try simp only [nrm])
    refine wpT_on 17 (fun K' hK => ?_)
    have HDR : Hid (l.drop k = []) := List.drop_eq_nil_of_le (by have := HG.out; have := HCK.out; omega)
    clear q16
    refine wp_append_sl (.tmp 107) (.tmp 113) 109 113 (.agg #[.int .i64 0,.int .i64 0,.int .i64 0,.int .i64 0,.bool false,.bool false,.int .i64 0]) 7 48 rfl Tryz.underlying109 infoNd rfl (by decide) HO3.out (news := (l.drop k).flatMap ndc) rfl rfl (by rw [flat_length ndc_length,List.length_drop]) (by intro j u hj; rw [HDR.out] at hj; simp at hj) (ndc_oneAll _) (by unfold maxLen; have := HG.out; omega) (by have := HG.out; omega) HX3.out.size ?_
    intro r4 v4 ho4 hb4
    obtain ⟨p4,c4,rfl⟩ := owns_shape ho4
    have HX4 : Hid (Ext z0 v4) := ⟨Below.trans HX3.out.below hb4⟩
    have HO4 := hid ho4
    clear ho4 hb4
    refine hK.out _ _ (HSF.out _ HX4.out) ?_
    clear hK K' HSS HX3 HO3
    have HSS := HSF.out _ HX4.out
    (try simp only [nrm])
    refine wpT_tk 18 HSS ?_; (try simp only [nrm])
    refine wpT_tk 19 HSS ?_; (try simp only [nrm])
    refine wpT_done (by kernel_rfl) ?_
    refine wpAny_on 20 (fun K' hK => ?_)
    have g0 := HSS.1
    have f0 := (HT0.out.ext HX4.out).free
    clear HSS
    go_simp
    refine hK.out _ _ ?_
    (try simp only [nrm])
    refine wpAny_done (by kernel_rfl) ?_ _
    have hrow : NRow v4 z0.heap.size (.slice p4 (k + 1 + (l.length - k)) c4) (l.take k ++ d :: l.drop k) := by
      have h4 := HO4.out
      unfold NRow
      rw [List.flatMap_append,List.flatMap_cons,show (l.take k ++ d :: l.drop k).length = k + 1 + (l.length - k) by rw [List.length_append,List.length_cons,List.length_take,List.length_drop,Nat.min_eq_left HG.out.1]; omega]
      rw [List.append_assoc] at h4
      exact h4
    have hm := (Mv.of_ext (x := x) (v := .slice (some ⟨g,0,none⟩) l.length cap) HX4.out).setX 0 (.slice p4 (k + 1 + (l.length - k)) c4)
    have hm2 : Mv x (.slice (some ⟨g,0,none⟩) l.length cap) (.slice p4 (k + 1 + (l.length - k)) c4) z0 (v4.setCell ⟨x,0,none⟩ (.slice p4 (k + 1 + (l.length - k)) c4)) := ⟨hm.os,hm.tape,hm.output,hm.size,hm.block,fun i hi => .inr (hrow.lt i hi).1⟩
    exact ⟨rfl,_,_,_,_,_,_,_,_,_,_,_,_,_,_,_,_,_,_,_,_,_,_,_,_,_,_,_,_,_,_,_,_,_,_,_,_,_,_,_,_,_,_,_,_,_,_,_,_,_,_,_,_,_,_,_,_,_,_,_,_,_,_,_,_,_,_,_,_,_,_,_,_,_,_,_,_,_,_,_,_,_,_,_,_,_,_,_,_,_,_,_,_,_,_,_,_,_,_,_,_,_,_,_,_,_,_,_,_,_,_,_,_,_,_,_,_,_,rfl,Tq.lay (HT0.out.ext HX4.out).blk (hrow.base (by rw [HZ.out]; exact HG.out.2.2.1)),HM0.out.trans hm2⟩
  · skip
    go_simp
    have HX1 : Hid (Ext z0 (z0.alloc (.cells #[.int .i64 d.id,.int .i64 d.par,.int .i64 d.wt,.int .i64 d.pass,.bool d.thr,.bool d.rdy,.int .i64 d.now] 113 (0,0)))) := (Ext.refl z0).alloc _
    have HB1 : Hid ((z0.alloc (.cells #[.int .i64 d.id,.int .i64 d.par,.int .i64 d.wt,.int .i64 d.pass,.bool d.thr,.bool d.rdy,.int .i64 d.now] 113 (0,0))).heap[z0.heap.size]? = some (.cells #[.int .i64 d.id,.int .i64 d.par,.int .i64 d.wt,.int .i64 d.pass,.bool d.thr,.bool d.rdy,.int .i64 d.now] 113 (0,0))) := heap_alloc_new z0 _
    refine hK.out _ _ (HSF.out _ HX1.out) ?_
    clear hK K' HSS
    have HSS := HSF.out _ HX1.out
    (try simp only [nrm])
    obtain ⟨B,hB⟩ : ∃ B,B = z0.heap.size := ⟨_,rfl⟩
    rw [← hB] at HB1
    rw [← hB]
    clear hB
    generalize z0.alloc (.cells #[.int .i64 d.id,.int .i64 d.par,.int .i64 d.wt,.int .i64 d.pass,.bool d.thr,.bool d.rdy,.int .i64 d.now] 113 (0,0)) = y1 at *
    refine wpT_on 7 (fun K' hK => ?_)
    have HXY := HX1
    clear HX1
    refine wp_append_sl (.const (.slice none 0 0)) (.tmp 103) 109 113 (.agg #[.int .i64 0,.int .i64 0,.int .i64 0,.int .i64 0,.bool false,.bool false,.int .i64 0]) 7 48 rfl Tryz.underlying109 infoNd rfl (by decide) (World.ownsRow_nil _ y1.heap.size _ _) (news := ((l.take k).flatMap ndc)) rfl rfl (by rw [flat_length ndc_length,List.length_take,Nat.min_eq_left HG.out.1]) (by intro j u hj; have := NRow.src (HT0.out.ext HXY.out).row 0 (l.take k) (l.drop k) (by simp) j u hj; simpa using this) (ndc_oneAll _) (by unfold maxLen; have := HG.out; omega) (by have := HG.out; omega) (Nat.le_refl _) ?_
    intro r1 v1 ho1 hb1
    have HX1 : Hid (Ext z0 v1) := HXY.out.trans ⟨hb1⟩
    simp only [List.nil_append,Nat.zero_add] at ho1
    have HO1 := hid (owns_base ho1 HXY.out.size)
    have HBE := hid hb1
    clear ho1 hb1
    refine hK.out _ _ (HSF.out _ HX1.out) ?_
    clear hK K' HSS
    have HSS := HSF.out _ HX1.out
    (try simp only [nrm])
    have HB2 : Hid (v1.heap[B]? = some (.cells #[.int .i64 d.id,.int .i64 d.par,.int .i64 d.wt,.int .i64 d.pass,.bool d.thr,.bool d.rdy,.int .i64 d.now] 113 (0,0))) := block_ext' ⟨HBE.out⟩ HB1.out
    clear HB1 HBE HXY
    refine wpT_on 10 (fun K' hK => ?_)
    refine wp_append_sl (.tmp 104) (.tmp 106) 109 113 (.agg #[.int .i64 0,.int .i64 0,.int .i64 0,.int .i64 0,.bool false,.bool false,.int .i64 0]) 7 48 rfl Tryz.underlying109 infoNd rfl (by decide) HO1.out (news := ndc d) rfl rfl rfl (by intro j u hj; rw [add_add,Nat.zero_add,blk_cellT HB2.out j]; simpa [ndc] using hj) (by have := ndc_one [d]; simpa using this) (by unfold maxLen; have := HG.out; omega) (by have := HG.out; omega) HX1.out.size ?_
    intro r3 v3 ho3 hb3
    have HX3 : Hid (Ext z0 v3) := ⟨Below.trans HX1.out.below hb3⟩
    have HO3 := hid ho3
    clear ho3 hb3
    refine hK.out _ _ (HSF.out _ HX3.out) ?_
    clear hK K' HSS HX1 HO1 HB2
    have HSS := HSF.out _ HX3.out
    (try simp only [nrm])
    refine wpT_on 17 (fun K' hK => ?_)
    have HDR : Hid (l.drop k = []) := List.drop_eq_nil_of_le (by have := HG.out; have := HCK.out; omega)
    clear q16
    refine wp_append_sl (.tmp 107) (.tmp 113) 109 113 (.agg #[.int .i64 0,.int .i64 0,.int .i64 0,.int .i64 0,.bool false,.bool false,.int .i64 0]) 7 48 rfl Tryz.underlying109 infoNd rfl (by decide) HO3.out (news := (l.drop k).flatMap ndc) rfl rfl (by rw [flat_length ndc_length,List.length_drop]) (by intro j u hj; rw [HDR.out] at hj; simp at hj) (ndc_oneAll _) (by unfold maxLen; have := HG.out; omega) (by have := HG.out; omega) HX3.out.size ?_
    intro r4 v4 ho4 hb4
    obtain ⟨p4,c4,rfl⟩ := owns_shape ho4
    have HX4 : Hid (Ext z0 v4) := ⟨Below.trans HX3.out.below hb4⟩
    have HO4 := hid ho4
    clear ho4 hb4
    refine hK.out _ _ (HSF.out _ HX4.out) ?_
    clear hK K' HSS HX3 HO3
    have HSS := HSF.out _ HX4.out
    (try simp only [nrm])
    refine wpT_tk 18 HSS ?_; (try simp only [nrm])
    refine wpT_tk 19 HSS ?_; (try simp only [nrm])
    refine wpT_done (by kernel_rfl) ?_
    refine wpAny_on 20 (fun K' hK => ?_)
    have g0 := HSS.1
    have f0 := (HT0.out.ext HX4.out).free
    clear HSS
    go_simp
    refine hK.out _ _ ?_
    (try simp only [nrm])
    refine wpAny_done (by kernel_rfl) ?_ _
    have hrow : NRow v4 z0.heap.size (.slice p4 (k + 1 + (l.length - k)) c4) (l.take k ++ d :: l.drop k) := by
      have h4 := HO4.out
      unfold NRow
      rw [List.flatMap_append,List.flatMap_cons,show (l.take k ++ d :: l.drop k).length = k + 1 + (l.length - k) by rw [List.length_append,List.length_cons,List.length_take,List.length_drop,Nat.min_eq_left HG.out.1]; omega]
      rw [List.append_assoc] at h4
      exact h4
    have hm := (Mv.of_ext (x := x) (v := .slice (some ⟨g,0,none⟩) l.length cap) HX4.out).setX 0 (.slice p4 (k + 1 + (l.length - k)) c4)
    have hm2 : Mv x (.slice (some ⟨g,0,none⟩) l.length cap) (.slice p4 (k + 1 + (l.length - k)) c4) z0 (v4.setCell ⟨x,0,none⟩ (.slice p4 (k + 1 + (l.length - k)) c4)) := ⟨hm.os,hm.tape,hm.output,hm.size,hm.block,fun i hi => .inr (hrow.lt i hi).1⟩
    exact ⟨rfl,_,_,_,_,_,_,_,_,_,_,_,_,_,_,_,_,_,_,_,_,_,_,_,_,_,_,_,_,_,_,_,_,_,_,_,_,_,_,_,_,_,_,_,_,_,_,_,_,_,_,_,_,_,_,_,_,_,_,_,_,_,_,_,_,_,_,_,_,_,_,_,_,_,_,_,_,_,_,_,_,_,_,_,_,_,_,_,_,_,_,_,_,_,_,_,_,_,_,_,_,_,_,_,_,_,_,_,_,_,_,_,_,_,_,_,_,_,rfl,Tq.lay (HT0.out.ext HX4.out).blk (hrow.base (by rw [HZ.out]; exact HG.out.2.2.1)),HM0.out.trans hm2⟩
set_option maxRecDepth 100000 in
set_option maxHeartbeats 4000000 in
theorem tinsB {base x g cap A k : Nat} {l : List Nd} {d : Nd} {z : World} (h : Tq base x (.slice (some ⟨g,0,none⟩) l.length cap) l z) (hb : base ≤ z.heap.size) (hA : z.heap[A]? = some (.cells #[.int .i64 d.id,.int .i64 d.par,.int .i64 d.wt,.int .i64 d.pass,.bool d.thr,.bool d.rdy,.int .i64 d.now] 113 (0,0))) (hk : k ≤ l.length) (hl : l.length ≤ 1000) (hck : ¬ cap = k) (u1 u2 u3 u4 u5 u6 u7 u8 u9 u10 u11 u14 u15 u16 u17 u18 u19 u20 u21 u22 u23 u24 u25 u26 u27 u28 u29 u30 u31 u32 u33 u34 u35 u36 u37 u38 u39 u40 u41 u42 u43 u44 u45 u46 u47 u48 u49 u50 u51 u52 u53 u54 u55 u56 u57 u58 u59 u60 u61 u62 u63 u64 u65 u66 u67 u68 u69 u70 u71 u72 u73 u74 u75 u76 u77 u78 u79 u80 u81 u82 u83 u84 u85 u86 u87 u88 u89 u90 u91 u92 u93 u94 u95 u96 u97 u98 u99 u100 u101 u102 u103 u104 u105 u106 u107 u108 u109 u110 u111 u112 u113 u114 u115 u116 : Value) :
    (bodyAt Tryz.f40 [1,1,1,1,1,1,0]).wp Tryz.prog (Ends (InsPost base x (.slice (some ⟨g,0,none⟩) l.length cap) (l.take k ++ d :: l.drop k) z)) ({ tmps := #[.pointer (some ⟨x,0,none⟩),u1,u2,u3,u4,u5,u6,u7,u8,u9,u10,u11,.pointer (some ⟨A,0,none⟩),.int .i64 k,u14,u15,u16,u17,u18,u19,u20,u21,u22,u23,u24,u25,u26,u27,u28,u29,u30,u31,u32,u33,u34,u35,u36,u37,u38,u39,u40,u41,u42,u43,u44,u45,u46,u47,u48,u49,u50,u51,u52,u53,u54,u55,u56,u57,u58,u59,u60,u61,u62,u63,u64,u65,u66,u67,u68,u69,u70,u71,u72,u73,u74,u75,u76,u77,u78,u79,u80,u81,u82,u83,u84,u85,u86,u87,u88,u89,u90,u91,u92,u93,u94,u95,u96,u97,u98,u99,u100,u101,u102,u103,u104,u105,u106,u107,u108,u109,u110,u111,u112,u113,u114,u115,u116],defers := [] }) z := by
  have hcl := h.row.slice
  have hcap : l.length ≤ cap := by obtain ⟨p,c,e,h1,-⟩ := hcl; injection e with _ _ e; omega
  have hcm : cap ≤ 9223372036854775807 := by obtain ⟨p,c,e,-,h1,-⟩ := hcl; injection e with _ _ e; unfold maxLen at h1; omega
  clear hcl
  have HG := hid (And.intro hk (And.intro hl (And.intro hb hcap)))
  have i1 : (k : Int) ≤ l.length := by omega
  have i2 : k ≤ cap := by omega
  have HCK := hid hck
  have q16 : (cap = k) = False := eq_false hck
  clear hck
  unfold bodyAt Tryz.f40
  simp only [codeAt]
  refine wp_region_T 20 1 (fun u => u.cell? ⟨x,0,none⟩ = some (.slice (some ⟨g,0,none⟩) l.length cap) ∧ u.cell? ⟨A,0,none⟩ = some (.int .i64 d.id) ∧ u.cell? ⟨A,1,none⟩ = some (.int .i64 d.par) ∧ u.cell? ⟨A,2,none⟩ = some (.int .i64 d.wt) ∧ u.cell? ⟨A,3,none⟩ = some (.int .i64 d.pass) ∧ u.cell? ⟨A,4,none⟩ = some (.bool d.thr) ∧ u.cell? ⟨A,5,none⟩ = some (.bool d.rdy) ∧ u.cell? ⟨A,6,none⟩ = some (.int .i64 d.now)) (by kernel_rfl) (by kernel_rfl) ?_
  have HM0 : Hid (Mv x (.slice (some ⟨g,0,none⟩) l.length cap) (.slice (some ⟨g,0,none⟩) l.length cap) z z.drew) := Mv.of_ext (Ext.drew (Ext.refl z))
  have HT0 := hid (h.ext (Ext.drew (Ext.refl z)))
  have hA0 : z.drew.heap[A]? = some (.cells #[.int .i64 d.id,.int .i64 d.par,.int .i64 d.wt,.int .i64 d.pass,.bool d.thr,.bool d.rdy,.int .i64 d.now] 113 (0,0)) := hA
  have HA0 := hid hA0
  have HZ : Hid (z.drew.heap.size = z.heap.size) := rfl
  clear h hA hb hl
  generalize z.drew = z0 at *
  have HSF : Hid (∀ u,Ext z0 u → u.cell? ⟨x,0,none⟩ = some (.slice (some ⟨g,0,none⟩) l.length cap) ∧ u.cell? ⟨A,0,none⟩ = some (.int .i64 d.id) ∧ u.cell? ⟨A,1,none⟩ = some (.int .i64 d.par) ∧ u.cell? ⟨A,2,none⟩ = some (.int .i64 d.wt) ∧ u.cell? ⟨A,3,none⟩ = some (.int .i64 d.pass) ∧ u.cell? ⟨A,4,none⟩ = some (.bool d.thr) ∧ u.cell? ⟨A,5,none⟩ = some (.bool d.rdy) ∧ u.cell? ⟨A,6,none⟩ = some (.int .i64 d.now)) := fun u hu => ⟨hu.cell HT0.out.cell,hu.cell (blk_cellT HA0.out 0),hu.cell (blk_cellT HA0.out 1),hu.cell (blk_cellT HA0.out 2),hu.cell (blk_cellT HA0.out 3),hu.cell (blk_cellT HA0.out 4),hu.cell (blk_cellT HA0.out 5),hu.cell (blk_cellT HA0.out 6)⟩
  clear hA0
  have HSS := HSF.out z0 (Ext.refl _)
  refine wpT_tk 0 HSS ?_; (try simp only [nrm])
  refine wpT_tk 1 HSS ?_; (try simp only [nrm])
  refine wpT_tk 2 HSS ?_; (try simp only [nrm])
  refine wpT_tk 3 HSS ?_; (try simp only [nrm])
  refine wpT_tk 4 HSS ?_; (try simp only [nrm])
  refine wpT_tk 5 HSS ?_; (try simp only [nrm])
  refine wpT_tk 6 HSS ?_; (try simp only [nrm])
  refine wpT_tk 8 HSS ?_; (try simp only [nrm])
  refine wpT_tk 11 HSS ?_; (try simp only [nrm])
  refine wpT_tk 12 HSS ?_; (try simp only [nrm])
  refine wpT_tk 13 HSS ?_; (try simp only [nrm])
  refine wpT_tk 14 HSS ?_; (try simp only [nrm])
  refine wpT_tk 15 HSS ?_; (try simp only [nrm])
  refine wpT_tk 16 HSS ?_; (try simp only [nrm])
  refine wpT_two 7 9 rfl rfl (by kernel_rfl) (by rfl) (by rfl) (fun K' hK => ?_) (fun K' hK => ?_)
  · skip
    refine wp_append_sl (.const (.slice none 0 0)) (.tmp 103) 109 113 (.agg #[.int .i64 0,.int .i64 0,.int .i64 0,.int .i64 0,.bool false,.bool false,.int .i64 0]) 7 48 rfl Tryz.underlying109 infoNd rfl (by decide) (World.ownsRow_nil _ z0.heap.size _ _) (news := ((l.take k).flatMap ndc)) rfl rfl (by rw [flat_length ndc_length,List.length_take,Nat.min_eq_left HG.out.1]) (by intro j u hj; have := NRow.src (HT0.out.ext (Ext.refl z0)).row 0 (l.take k) (l.drop k) (by simp) j u hj; simpa using this) (ndc_oneAll _) (by unfold maxLen; have := HG.out; omega) (by have := HG.out; omega) (Nat.le_refl _) ?_
    intro r1 v1 ho1 hb1
    have HX1 : Hid (Ext z0 v1) := (Ext.refl z0).trans ⟨hb1⟩
    simp only [List.nil_append,Nat.zero_add] at ho1
    have HO1 := hid (owns_base ho1 (Ext.refl z0).size)
    have HBE := hid hb1
    clear ho1 hb1
    refine hK.out _ _ (HSF.out _ HX1.out) ?_
    clear hK K' HSS
    have HSS := HSF.out _ HX1.out
    (try simp only [nrm])
    refine wpT_on 9 (fun K' hK => ?_)
    go_simp
    have HX2 : Hid (Ext z0 (v1.alloc (.cells #[.int .i64 d.id,.int .i64 d.par,.int .i64 d.wt,.int .i64 d.pass,.bool d.thr,.bool d.rdy,.int .i64 d.now] 113 (0,0)))) := HX1.out.alloc _
    refine hK.out _ _ (HSF.out _ HX2.out) ?_
    clear hK K' HSS
    have HSS := HSF.out _ HX2.out
    (try simp only [nrm])
    have HO2 := hid (owns_ext HO1.out (Ext.alloc (Ext.refl v1) (.cells #[.int .i64 d.id,.int .i64 d.par,.int .i64 d.wt,.int .i64 d.pass,.bool d.thr,.bool d.rdy,.int .i64 d.now] 113 (0,0))))
    have HB2 : Hid ((v1.alloc (.cells #[.int .i64 d.id,.int .i64 d.par,.int .i64 d.wt,.int .i64 d.pass,.bool d.thr,.bool d.rdy,.int .i64 d.now] 113 (0,0))).heap[v1.heap.size]? = some (.cells #[.int .i64 d.id,.int .i64 d.par,.int .i64 d.wt,.int .i64 d.pass,.bool d.thr,.bool d.rdy,.int .i64 d.now] 113 (0,0))) := heap_alloc_new v1 _
    clear HO1 HX1 HBE
    generalize v1.alloc (.cells #[.int .i64 d.id,.int .i64 d.par,.int .i64 d.wt,.int .i64 d.pass,.bool d.thr,.bool d.rdy,.int .i64 d.now] 113 (0,0)) = v2 at *
    generalize v1.heap.size = B at *
    clear v1
    refine wpT_on 10 (fun K' hK => ?_)
    refine wp_append_sl (.tmp 104) (.tmp 106) 109 113 (.agg #[.int .i64 0,.int .i64 0,.int .i64 0,.int .i64 0,.bool false,.bool false,.int .i64 0]) 7 48 rfl Tryz.underlying109 infoNd rfl (by decide) HO2.out (news := ndc d) rfl rfl rfl (by intro j u hj; rw [add_add,Nat.zero_add,blk_cellT HB2.out j]; simpa [ndc] using hj) (by have := ndc_one [d]; simpa using this) (by unfold maxLen; have := HG.out; omega) (by have := HG.out; omega) HX2.out.size ?_
    intro r3 v3 ho3 hb3
    have HX3 : Hid (Ext z0 v3) := ⟨Below.trans HX2.out.below hb3⟩
    have HO3 := hid ho3
    clear ho3 hb3
    refine hK.out _ _ (HSF.out _ HX3.out) ?_
    clear hK K' HSS HX2 HO2 HB2
    have HSS := HSF.out _ HX3.out
    (try simp only [nrm])
    refine wpT_on 17 (fun K' hK => ?_)
    refine wp_append_sl (.tmp 107) (.tmp 113) 109 113 (.agg #[.int .i64 0,.int .i64 0,.int .i64 0,.int .i64 0,.bool false,.bool false,.int .i64 0]) 7 48 rfl Tryz.underlying109 infoNd rfl (by decide) HO3.out (news := (l.drop k).flatMap ndc) rfl rfl (by rw [flat_length ndc_length,List.length_drop]) (NRow.src (HT0.out.ext HX3.out).row k (l.drop k) [] (by simp)) (ndc_oneAll _) (by unfold maxLen; have := HG.out; omega) (by have := HG.out; omega) HX3.out.size ?_
    intro r4 v4 ho4 hb4
    obtain ⟨p4,c4,rfl⟩ := owns_shape ho4
    have HX4 : Hid (Ext z0 v4) := ⟨Below.trans HX3.out.below hb4⟩
    have HO4 := hid ho4
    clear ho4 hb4
    refine hK.out _ _ (HSF.out _ HX4.out) ?_
    clear hK K' HSS HX3 HO3
    have HSS := HSF.out _ HX4.out
    (try simp only [nrm])
    refine wpT_tk 18 HSS ?_; (try simp only [nrm])
    refine wpT_tk 19 HSS ?_; (try simp only [nrm])
    refine wpT_done (by kernel_rfl) ?_
    refine wpAny_on 20 (fun K' hK => ?_)
    have g0 := HSS.1
    have f0 := (HT0.out.ext HX4.out).free
    clear HSS
    go_simp
    refine hK.out _ _ ?_
    (try simp only [nrm])
    refine wpAny_done (by kernel_rfl) ?_ _
    have hrow : NRow v4 z0.heap.size (.slice p4 (k + 1 + (l.length - k)) c4) (l.take k ++ d :: l.drop k) := by
      have h4 := HO4.out
      unfold NRow
      rw [List.flatMap_append,List.flatMap_cons,show (l.take k ++ d :: l.drop k).length = k + 1 + (l.length - k) by rw [List.length_append,List.length_cons,List.length_take,List.length_drop,Nat.min_eq_left HG.out.1]; omega]
      rw [List.append_assoc] at h4
      exact h4
    have hm := (Mv.of_ext (x := x) (v := .slice (some ⟨g,0,none⟩) l.length cap) HX4.out).setX 0 (.slice p4 (k + 1 + (l.length - k)) c4)
    have hm2 : Mv x (.slice (some ⟨g,0,none⟩) l.length cap) (.slice p4 (k + 1 + (l.length - k)) c4) z0 (v4.setCell ⟨x,0,none⟩ (.slice p4 (k + 1 + (l.length - k)) c4)) := ⟨hm.os,hm.tape,hm.output,hm.size,hm.block,fun i hi => .inr (hrow.lt i hi).1⟩
    exact ⟨rfl,_,_,_,_,_,_,_,_,_,_,_,_,_,_,_,_,_,_,_,_,_,_,_,_,_,_,_,_,_,_,_,_,_,_,_,_,_,_,_,_,_,_,_,_,_,_,_,_,_,_,_,_,_,_,_,_,_,_,_,_,_,_,_,_,_,_,_,_,_,_,_,_,_,_,_,_,_,_,_,_,_,_,_,_,_,_,_,_,_,_,_,_,_,_,_,_,_,_,_,_,_,_,_,_,_,_,_,_,_,_,_,_,_,_,_,_,_,rfl,Tq.lay (HT0.out.ext HX4.out).blk (hrow.base (by rw [HZ.out]; exact HG.out.2.2.1)),HM0.out.trans hm2⟩
  · skip
    go_simp
    have HX1 : Hid (Ext z0 (z0.alloc (.cells #[.int .i64 d.id,.int .i64 d.par,.int .i64 d.wt,.int .i64 d.pass,.bool d.thr,.bool d.rdy,.int .i64 d.now] 113 (0,0)))) := (Ext.refl z0).alloc _
    have HB1 : Hid ((z0.alloc (.cells #[.int .i64 d.id,.int .i64 d.par,.int .i64 d.wt,.int .i64 d.pass,.bool d.thr,.bool d.rdy,.int .i64 d.now] 113 (0,0))).heap[z0.heap.size]? = some (.cells #[.int .i64 d.id,.int .i64 d.par,.int .i64 d.wt,.int .i64 d.pass,.bool d.thr,.bool d.rdy,.int .i64 d.now] 113 (0,0))) := heap_alloc_new z0 _
    refine hK.out _ _ (HSF.out _ HX1.out) ?_
    clear hK K' HSS
    have HSS := HSF.out _ HX1.out
    (try simp only [nrm])
    obtain ⟨B,hB⟩ : ∃ B,B = z0.heap.size := ⟨_,rfl⟩
    rw [← hB] at HB1
    rw [← hB]
    clear hB
    generalize z0.alloc (.cells #[.int .i64 d.id,.int .i64 d.par,.int .i64 d.wt,.int .i64 d.pass,.bool d.thr,.bool d.rdy,.int .i64 d.now] 113 (0,0)) = y1 at *
    refine wpT_on 7 (fun K' hK => ?_)
    have HXY := HX1
    clear HX1
    refine wp_append_sl (.const (.slice none 0 0)) (.tmp 103) 109 113 (.agg #[.int .i64 0,.int .i64 0,.int .i64 0,.int .i64 0,.bool false,.bool false,.int .i64 0]) 7 48 rfl Tryz.underlying109 infoNd rfl (by decide) (World.ownsRow_nil _ y1.heap.size _ _) (news := ((l.take k).flatMap ndc)) rfl rfl (by rw [flat_length ndc_length,List.length_take,Nat.min_eq_left HG.out.1]) (by intro j u hj; have := NRow.src (HT0.out.ext HXY.out).row 0 (l.take k) (l.drop k) (by simp) j u hj; simpa using this) (ndc_oneAll _) (by unfold maxLen; have := HG.out; omega) (by have := HG.out; omega) (Nat.le_refl _) ?_
    intro r1 v1 ho1 hb1
    have HX1 : Hid (Ext z0 v1) := HXY.out.trans ⟨hb1⟩
    simp only [List.nil_append,Nat.zero_add] at ho1
    have HO1 := hid (owns_base ho1 HXY.out.size)
    have HBE := hid hb1
    clear ho1 hb1
    refine hK.out _ _ (HSF.out _ HX1.out) ?_
    clear hK K' HSS
    have HSS := HSF.out _ HX1.out
    (try simp only [nrm])
    have HB2 : Hid (v1.heap[B]? = some (.cells #[.int .i64 d.id,.int .i64 d.par,.int .i64 d.wt,.int .i64 d.pass,.bool d.thr,.bool d.rdy,.int .i64 d.now] 113 (0,0))) := block_ext' ⟨HBE.out⟩ HB1.out
    clear HB1 HBE HXY
    refine wpT_on 10 (fun K' hK => ?_)
    refine wp_append_sl (.tmp 104) (.tmp 106) 109 113 (.agg #[.int .i64 0,.int .i64 0,.int .i64 0,.int .i64 0,.bool false,.bool false,.int .i64 0]) 7 48 rfl Tryz.underlying109 infoNd rfl (by decide) HO1.out (news := ndc d) rfl rfl rfl (by intro j u hj; rw [add_add,Nat.zero_add,blk_cellT HB2.out j]; simpa [ndc] using hj) (by have := ndc_one [d]; simpa using this) (by unfold maxLen; have := HG.out; omega) (by have := HG.out; omega) HX1.out.size ?_
    intro r3 v3 ho3 hb3
    have HX3 : Hid (Ext z0 v3) := ⟨Below.trans HX1.out.below hb3⟩
    have HO3 := hid ho3
    clear ho3 hb3
    refine hK.out _ _ (HSF.out _ HX3.out) ?_
    clear hK K' HSS HX1 HO1 HB2
    have HSS := HSF.out _ HX3.out
    (try simp only [nrm])
    refine wpT_on 17 (fun K' hK => ?_)
    refine wp_append_sl (.tmp 107) (.tmp 113) 109 113 (.agg #[.int .i64 0,.int .i64 0,.int .i64 0,.int .i64 0,.bool false,.bool false,.int .i64 0]) 7 48 rfl Tryz.underlying109 infoNd rfl (by decide) HO3.out (news := (l.drop k).flatMap ndc) rfl rfl (by rw [flat_length ndc_length,List.length_drop]) (NRow.src (HT0.out.ext HX3.out).row k (l.drop k) [] (by simp)) (ndc_oneAll _) (by unfold maxLen; have := HG.out; omega) (by have := HG.out; omega) HX3.out.size ?_
    intro r4 v4 ho4 hb4
    obtain ⟨p4,c4,rfl⟩ := owns_shape ho4
    have HX4 : Hid (Ext z0 v4) := ⟨Below.trans HX3.out.below hb4⟩
    have HO4 := hid ho4
    clear ho4 hb4
    refine hK.out _ _ (HSF.out _ HX4.out) ?_
    clear hK K' HSS HX3 HO3
    have HSS := HSF.out _ HX4.out
    (try simp only [nrm])
    refine wpT_tk 18 HSS ?_; (try simp only [nrm])
    refine wpT_tk 19 HSS ?_; (try simp only [nrm])
    refine wpT_done (by kernel_rfl) ?_
    refine wpAny_on 20 (fun K' hK => ?_)
    have g0 := HSS.1
    have f0 := (HT0.out.ext HX4.out).free
    clear HSS
    go_simp
    refine hK.out _ _ ?_
    (try simp only [nrm])
    refine wpAny_done (by kernel_rfl) ?_ _
    have hrow : NRow v4 z0.heap.size (.slice p4 (k + 1 + (l.length - k)) c4) (l.take k ++ d :: l.drop k) := by
      have h4 := HO4.out
      unfold NRow
      rw [List.flatMap_append,List.flatMap_cons,show (l.take k ++ d :: l.drop k).length = k + 1 + (l.length - k) by rw [List.length_append,List.length_cons,List.length_take,List.length_drop,Nat.min_eq_left HG.out.1]; omega]
      rw [List.append_assoc] at h4
      exact h4
    have hm := (Mv.of_ext (x := x) (v := .slice (some ⟨g,0,none⟩) l.length cap) HX4.out).setX 0 (.slice p4 (k + 1 + (l.length - k)) c4)
    have hm2 : Mv x (.slice (some ⟨g,0,none⟩) l.length cap) (.slice p4 (k + 1 + (l.length - k)) c4) z0 (v4.setCell ⟨x,0,none⟩ (.slice p4 (k + 1 + (l.length - k)) c4)) := ⟨hm.os,hm.tape,hm.output,hm.size,hm.block,fun i hi => .inr (hrow.lt i hi).1⟩
    exact ⟨rfl,_,_,_,_,_,_,_,_,_,_,_,_,_,_,_,_,_,_,_,_,_,_,_,_,_,_,_,_,_,_,_,_,_,_,_,_,_,_,_,_,_,_,_,_,_,_,_,_,_,_,_,_,_,_,_,_,_,_,_,_,_,_,_,_,_,_,_,_,_,_,_,_,_,_,_,_,_,_,_,_,_,_,_,_,_,_,_,_,_,_,_,_,_,_,_,_,_,_,_,_,_,_,_,_,_,_,_,_,_,_,_,_,_,_,_,_,_,rfl,Tq.lay (HT0.out.ext HX4.out).blk (hrow.base (by rw [HZ.out]; exact HG.out.2.2.1)),HM0.out.trans hm2⟩
end Go.Proofs.YtocicffmajbecaaGreatDoor
namespace Go.Proofs.YtocicffmajbecaaGreatDoor
open Go.RowKit
set_option linter.unusedSimpArgs false
theorem tat_to {base x : Nat} {v : Value} {l : List Nd} {w : World} {id r : Int} (e : atV l id = r) (h : Tq base x v l w) :
    Calls Tryz.prog 66 #[.pointer (some ⟨x,0,none⟩),.int .i64 id] w (Yields w (.int .i64 r)) := e ▸ tat_any h id
theorem placeT_is {l : List Nd} {id : Int} {k : Nat} (hk : k < l.length) (hid : ¬ l[k].id < id) (hb : ∀ i (_ : i < k) (hl : i < l.length),l[i].id < id) : placeT l id = k := by
  unfold placeT
  rw [List.findIdx_eq hk]
  exact ⟨by simp; omega,fun j hj => by simp [hb j hj (by omega)]⟩
theorem placeT_end {l : List Nd} {id : Int} (hb : ∀ i (hl : i < l.length),l[i].id < id) : placeT l id = l.length := by
  unfold placeT
  rw [List.findIdx_eq_length]
  intro y hy
  obtain ⟨i,hi,rfl⟩ := List.mem_iff_getElem.1 hy
  simp [hb i hi]
def grpB (l : List Nd) (id : Int) : Bool := match l[idxT l id]? with
  | some n => !n.thr
  | none => false
def nowOf (l : List Nd) (id : Int) : Int := match l[idxT l id]? with
  | some n => n.now
  | none => 0
def hasB (l : List Nd) (id : Int) : Bool := decide (idxT l id < l.length)
def addE (l : List Nd) (dn : Nat) (parent id wt : Int) (thr : Bool) : Int :=
  if isW wt = false ∨ id < 1 then 10 else if grpB l parent = false then 13 else if hasB l id = true then 20 else if thr = false ∧ 4 < (dn : Int) + 1 then 12 else if 60 ≤ l.length then 14 else 0
def addT (l : List Nd) (dn : Nat) (parent id wt : Int) (thr : Bool) : List Nd :=
  if addE l dn parent id wt thr = 0 then insT ⟨id,parent,wt,nowOf l parent,thr,false,0⟩ l else l
def TGoes (base x : Nat) (v : Value) (r : Int) (l' : List Nd) (w : World) (e : Ending) (w' : World) : Prop := e = .returned (.int .i64 r) ∧ ∃ v',Tq base x v' l' w' ∧ Mv x v v' w w'
theorem TGoes.still {base x : Nat} {v : Value} {l : List Nd} {w w' : World} {r : Int} {e : Ending} (h : Tq base x v l w) (he : e = .returned (.int .i64 r)) (k : Ext w w') : TGoes base x v r l w e w' := ⟨he,v,h.ext k,Mv.of_ext k⟩
set_option maxRecDepth 100000 in
set_option maxHeartbeats 400000 in
theorem tadd10 {base x : Nat} {v : Value} {l : List Nd} {w : World} {parent id wt : Int} {thr : Bool} (h : Tq base x v l w) {ap : Int} (hp : atV l parent = ap) (hw : isW wt = false ∨ id < 1) :
    Calls Tryz.prog 40 #[.pointer (some ⟨x,0,none⟩),.int .i64 parent,.int .i64 id,.int .i64 wt,.bool thr] w (TGoes base x v 10 l w) := by
  have H := hid h
  have HP := hid hp
  clear h hp
  cases hq : isW wt
  · have HW := hid hq
    clear hw hq
    go_enter Tryz.func40,Tryz.ntmps40
    go_wp2_with (first | (go_at_call 66; (with_reducible refine (tat_to HP.out (H.out.ext ext_by)).yields ?_); intro q1) | (go_at_call 45; (with_reducible refine (risW_to HW.out _).yields ?_); intro q2))
    all_goals first | (exfalso; omega) | (go_returns; exact TGoes.still H.out (by simp) ext_by)
  · have HW := hid hq
    have hid1 : id < 1 := by rcases hw with h | h; · rw [hq] at h; cases h
                             · exact h
    clear hw hq
    go_enter Tryz.func40,Tryz.ntmps40
    go_wp2_with (first | (go_at_call 66; (with_reducible refine (tat_to HP.out (H.out.ext ext_by)).yields ?_); intro q1) | (go_at_call 45; (with_reducible refine (risW_to HW.out _).yields ?_); intro q2))
    all_goals first | (exfalso; omega) | (go_returns; exact TGoes.still H.out (by simp) ext_by)
set_option maxRecDepth 100000 in
set_option maxHeartbeats 400000 in
theorem tadd13a {base x : Nat} {v : Value} {l : List Nd} {w : World} {parent id wt : Int} {thr : Bool} (h : Tq base x v l w) (hw : isW wt = true) (hi : 1 ≤ id) (hp : atV l parent = -1) :
    Calls Tryz.prog 40 #[.pointer (some ⟨x,0,none⟩),.int .i64 parent,.int .i64 id,.int .i64 wt,.bool thr] w (TGoes base x v 13 l w) := by
  have H := hid h
  have HP := hid hp
  have HW := hid hw
  clear h hp hw
  go_enter Tryz.func40,Tryz.ntmps40
  go_wp2_with (first | (go_at_call 66; (with_reducible refine (tat_to HP.out (H.out.ext ext_by)).yields ?_); intro q1) | (go_at_call 45; (with_reducible refine (risW_to HW.out _).yields ?_); intro q2))
  all_goals first | (exfalso; omega) | (go_returns; exact TGoes.still H.out (by simp) ext_by)
set_option maxRecDepth 100000 in
set_option maxHeartbeats 400000 in
theorem tadd13b {base x : Nat} {v : Value} {l : List Nd} {w : World} {parent id wt : Int} {thr : Bool} (h : Tq base x v l w) {pi : Nat} {pn : Nd} (hw : isW wt = true) (hi : 1 ≤ id) (hp : atV l parent = (pi : Int)) (hn : l[pi]? = some pn) (ht : pn.thr = true) :
    Calls Tryz.prog 40 #[.pointer (some ⟨x,0,none⟩),.int .i64 parent,.int .i64 id,.int .i64 wt,.bool thr] w (TGoes base x v 13 l w) := by
  obtain ⟨p,cap,rfl,hc1,hc2,hp0,hp1⟩ := h.row.slice
  obtain ⟨a,rfl⟩ : ∃ a,p = some a := by
    cases p with
    | none => have e := (hp0 rfl).1; rw [e] at hn; simp at hn
    | some a => exact ⟨a,rfl⟩
  obtain ⟨g,rfl,hg,hgl⟩ := hp1 a rfl
  unfold maxLen at hc2
  have hpl : (pi : Int) < l.length := by have := (List.getElem?_eq_some_iff.1 hn).1; omega
  have hx := h.lt
  have c0 := h.cell
  obtain ⟨-,-,-,-,e4,-,e6⟩ := h.row.node hn
  clear hp0 hp1 hn
  have H := hid h
  have HP := hid hp
  have HW := hid hw
  clear h hp hw
  rw [ht] at e4
  go_enter Tryz.func40,Tryz.ntmps40
  go_wp2_with (first | (go_at_call 66; (with_reducible refine (tat_to HP.out (H.out.ext ext_by)).yields ?_); intro q1) | (go_at_call 45; (with_reducible refine (risW_to HW.out _).yields ?_); intro q2))
  all_goals first | (exfalso; omega) | (go_returns; exact TGoes.still H.out (by simp) ext_by)
set_option maxRecDepth 100000 in
set_option maxHeartbeats 400000 in
theorem tadd20 {base x : Nat} {v : Value} {l : List Nd} {w : World} {parent id wt : Int} {thr : Bool} (h : Tq base x v l w) {pi : Nat} {pn : Nd} {ai : Int} (hw : isW wt = true) (hi : 1 ≤ id) (hp : atV l parent = (pi : Int)) (hn : l[pi]? = some pn) (ht : pn.thr = false) (ha : atV l id = ai) (hai : 0 ≤ ai) :
    Calls Tryz.prog 40 #[.pointer (some ⟨x,0,none⟩),.int .i64 parent,.int .i64 id,.int .i64 wt,.bool thr] w (TGoes base x v 20 l w) := by
  obtain ⟨p,cap,rfl,hc1,hc2,hp0,hp1⟩ := h.row.slice
  obtain ⟨a,rfl⟩ : ∃ a,p = some a := by
    cases p with
    | none => have e := (hp0 rfl).1; rw [e] at hn; simp at hn
    | some a => exact ⟨a,rfl⟩
  obtain ⟨g,rfl,hg,hgl⟩ := hp1 a rfl
  unfold maxLen at hc2
  have hpl : (pi : Int) < l.length := by have := (List.getElem?_eq_some_iff.1 hn).1; omega
  have hx := h.lt
  have c0 := h.cell
  obtain ⟨-,-,-,-,e4,-,e6⟩ := h.row.node hn
  clear hp0 hp1 hn
  have H := hid h
  have HP := hid hp
  have HW := hid hw
  clear h hp hw
  rw [ht] at e4
  have HA := hid ha
  clear ha
  go_enter Tryz.func40,Tryz.ntmps40
  go_wp2_with (first | (go_at_call 66; (with_reducible refine (tat_to HA.out (H.out.ext ext_by)).yields ?_); intro q1) | (go_at_call 66; (with_reducible refine (tat_to HP.out (H.out.ext ext_by)).yields ?_); intro q1) | (go_at_call 45; (with_reducible refine (risW_to HW.out _).yields ?_); intro q2))
  all_goals first | (exfalso; omega) | (go_returns; exact TGoes.still H.out (by simp) ext_by)
set_option maxRecDepth 100000 in
set_option maxHeartbeats 400000 in
theorem tadd12 {base x : Nat} {v : Value} {l : List Nd} {w : World} {parent id wt : Int} {thr : Bool} {dn : Nat} (h : Tq base x v l w) {pi : Nat} {pn : Nd} (hw : isW wt = true) (hi : 1 ≤ id) (hp : atV l parent = (pi : Int)) (hn : l[pi]? = some pn) (ht : pn.thr = false) (ha : atV l id = -1) (hthr : thr = false) (hd : dn ≤ 900) (hs : TSteps l dn (atV l parent)) (h4 : 4 < (dn : Int) + 1) :
    Calls Tryz.prog 40 #[.pointer (some ⟨x,0,none⟩),.int .i64 parent,.int .i64 id,.int .i64 wt,.bool thr] w (TGoes base x v 12 l w) := by
  have HD := hid (And.intro hd hs)
  clear hs
  obtain ⟨p,cap,rfl,hc1,hc2,hp0,hp1⟩ := h.row.slice
  obtain ⟨a,rfl⟩ : ∃ a,p = some a := by
    cases p with
    | none => have e := (hp0 rfl).1; rw [e] at hn; simp at hn
    | some a => exact ⟨a,rfl⟩
  obtain ⟨g,rfl,hg,hgl⟩ := hp1 a rfl
  unfold maxLen at hc2
  have hpl : (pi : Int) < l.length := by have := (List.getElem?_eq_some_iff.1 hn).1; omega
  have hx := h.lt
  have c0 := h.cell
  obtain ⟨-,-,-,-,e4,-,e6⟩ := h.row.node hn
  clear hp0 hp1 hn
  have H := hid h
  have HP := hid hp
  have HW := hid hw
  clear h hp hw
  rw [ht] at e4
  have HA := hid ha
  clear ha
  subst hthr
  go_enter Tryz.func40,Tryz.ntmps40
  go_wp2_with (first | (go_at_call 66; (with_reducible refine (tat_to HA.out (H.out.ext ext_by)).yields ?_); intro q1) | (go_at_call 66; (with_reducible refine (tat_to HP.out (H.out.ext ext_by)).yields ?_); intro q1) | (go_at_call 45; (with_reducible refine (risW_to HW.out _).yields ?_); intro q2) | (go_at_call 48; (with_reducible refine (tdeep_any (H.out.ext ext_by) _ dn (by have := HD.out; omega) HD.out.2).yields ?_); intro q3))
  all_goals first | (exfalso; omega) | (go_returns; exact TGoes.still H.out (by simp) ext_by)
set_option maxRecDepth 100000 in
set_option maxHeartbeats 400000 in
theorem tadd14a {base x : Nat} {v : Value} {l : List Nd} {w : World} {parent id wt : Int} {thr : Bool} {dn : Nat} (h : Tq base x v l w) {pi : Nat} {pn : Nd} (hw : isW wt = true) (hi : 1 ≤ id) (hp : atV l parent = (pi : Int)) (hn : l[pi]? = some pn) (ht : pn.thr = false) (ha : atV l id = -1) (hthr : thr = false) (hd : dn ≤ 900) (hs : TSteps l dn (atV l parent)) (h4 : (dn : Int) + 1 ≤ 4) (hl : 60 ≤ l.length) :
    Calls Tryz.prog 40 #[.pointer (some ⟨x,0,none⟩),.int .i64 parent,.int .i64 id,.int .i64 wt,.bool thr] w (TGoes base x v 14 l w) := by
  have HD := hid (And.intro hd hs)
  clear hs
  obtain ⟨p,cap,rfl,hc1,hc2,hp0,hp1⟩ := h.row.slice
  obtain ⟨a,rfl⟩ : ∃ a,p = some a := by
    cases p with
    | none => have e := (hp0 rfl).1; rw [e] at hn; simp at hn
    | some a => exact ⟨a,rfl⟩
  obtain ⟨g,rfl,hg,hgl⟩ := hp1 a rfl
  unfold maxLen at hc2
  have hpl : (pi : Int) < l.length := by have := (List.getElem?_eq_some_iff.1 hn).1; omega
  have hx := h.lt
  have c0 := h.cell
  obtain ⟨-,-,-,-,e4,-,e6⟩ := h.row.node hn
  clear hp0 hp1 hn
  have H := hid h
  have HP := hid hp
  have HW := hid hw
  clear h hp hw
  rw [ht] at e4
  have HA := hid ha
  clear ha
  subst hthr
  go_enter Tryz.func40,Tryz.ntmps40
  go_wp2_with (first | (go_at_call 66; (with_reducible refine (tat_to HA.out (H.out.ext ext_by)).yields ?_); intro q1) | (go_at_call 66; (with_reducible refine (tat_to HP.out (H.out.ext ext_by)).yields ?_); intro q1) | (go_at_call 45; (with_reducible refine (risW_to HW.out _).yields ?_); intro q2) | (go_at_call 48; (with_reducible refine (tdeep_any (H.out.ext ext_by) _ dn (by have := HD.out; omega) HD.out.2).yields ?_); intro q3))
  all_goals first | (exfalso; omega) | (go_returns; exact TGoes.still H.out (by simp) ext_by)
set_option maxRecDepth 100000 in
set_option maxHeartbeats 400000 in
theorem tadd14b {base x : Nat} {v : Value} {l : List Nd} {w : World} {parent id wt : Int} {thr : Bool} {dn : Nat} (h : Tq base x v l w) {pi : Nat} {pn : Nd} (hw : isW wt = true) (hi : 1 ≤ id) (hp : atV l parent = (pi : Int)) (hn : l[pi]? = some pn) (ht : pn.thr = false) (ha : atV l id = -1) (hthr : thr = true) (hd : dn ≤ 900) (hs : TSteps l dn (atV l parent))  (hl : 60 ≤ l.length) :
    Calls Tryz.prog 40 #[.pointer (some ⟨x,0,none⟩),.int .i64 parent,.int .i64 id,.int .i64 wt,.bool thr] w (TGoes base x v 14 l w) := by
  have HD := hid (And.intro hd hs)
  clear hs
  obtain ⟨p,cap,rfl,hc1,hc2,hp0,hp1⟩ := h.row.slice
  obtain ⟨a,rfl⟩ : ∃ a,p = some a := by
    cases p with
    | none => have e := (hp0 rfl).1; rw [e] at hn; simp at hn
    | some a => exact ⟨a,rfl⟩
  obtain ⟨g,rfl,hg,hgl⟩ := hp1 a rfl
  unfold maxLen at hc2
  have hpl : (pi : Int) < l.length := by have := (List.getElem?_eq_some_iff.1 hn).1; omega
  have hx := h.lt
  have c0 := h.cell
  obtain ⟨-,-,-,-,e4,-,e6⟩ := h.row.node hn
  clear hp0 hp1 hn
  have H := hid h
  have HP := hid hp
  have HW := hid hw
  clear h hp hw
  rw [ht] at e4
  have HA := hid ha
  clear ha
  subst hthr
  go_enter Tryz.func40,Tryz.ntmps40
  go_wp2_with (first | (go_at_call 66; (with_reducible refine (tat_to HA.out (H.out.ext ext_by)).yields ?_); intro q1) | (go_at_call 66; (with_reducible refine (tat_to HP.out (H.out.ext ext_by)).yields ?_); intro q1) | (go_at_call 45; (with_reducible refine (risW_to HW.out _).yields ?_); intro q2) | (go_at_call 48; (with_reducible refine (tdeep_any (H.out.ext ext_by) _ dn (by have := HD.out; omega) HD.out.2).yields ?_); intro q3))
  all_goals first | (exfalso; omega) | (go_returns; exact TGoes.still H.out (by simp) ext_by)
def TPlPost (x A k : Nat) (z : World) (a' : Act) (y : World) : Prop := ∃ (u1 u2 u3 u4 u5 u6 u7 u8 u9 u10 u11 u14 u15 u16 u17 u18 u19 u20 u21 u22 u23 u24 u25 u26 u27 u28 u29 u30 u31 u32 u33 u34 u35 u36 u37 u38 u39 u40 u41 u42 u43 u44 u45 u46 u47 u48 u49 u50 u51 u52 u53 u54 u55 u56 u57 u58 u59 u60 u61 u62 u63 u64 u65 u66 u67 u68 u69 u70 u71 u72 u73 u74 u75 u76 u77 u78 u79 u80 u81 u82 u83 u84 u85 u86 u87 u88 u89 u90 u91 u92 u93 u94 u95 u96 u97 u98 u99 u100 u101 u102 u103 u104 u105 u106 u107 u108 u109 u110 u111 u112 u113 u114 u115 u116 : Value),a' = { tmps := #[.pointer (some ⟨x,0,none⟩),u1,u2,u3,u4,u5,u6,u7,u8,u9,u10,u11,.pointer (some ⟨A,0,none⟩),.int .i64 k,u14,u15,u16,u17,u18,u19,u20,u21,u22,u23,u24,u25,u26,u27,u28,u29,u30,u31,u32,u33,u34,u35,u36,u37,u38,u39,u40,u41,u42,u43,u44,u45,u46,u47,u48,u49,u50,u51,u52,u53,u54,u55,u56,u57,u58,u59,u60,u61,u62,u63,u64,u65,u66,u67,u68,u69,u70,u71,u72,u73,u74,u75,u76,u77,u78,u79,u80,u81,u82,u83,u84,u85,u86,u87,u88,u89,u90,u91,u92,u93,u94,u95,u96,u97,u98,u99,u100,u101,u102,u103,u104,u105,u106,u107,u108,u109,u110,u111,u112,u113,u114,u115,u116],defers := [] } ∧ Ext z y
set_option maxRecDepth 100000 in
set_option maxHeartbeats 400000 in
theorem tadd0a {base x : Nat} {v : Value} {l : List Nd} {w : World} {parent id wt : Int} {thr : Bool} {dn : Nat} (h : Tq base x v l w) {pi : Nat} {pn : Nd} (hb0 : base ≤ w.heap.size) (hw : isW wt = true) (hi : 1 ≤ id) (hp : atV l parent = (pi : Int)) (hn : l[pi]? = some pn) (ht : pn.thr = false) (ha : atV l id = -1) (hthr : thr = false) (hd : dn ≤ 900) (hs : TSteps l dn (atV l parent)) (h4 : (dn : Int) + 1 ≤ 4) (hl : l.length < 60) :
    Calls Tryz.prog 40 #[.pointer (some ⟨x,0,none⟩),.int .i64 parent,.int .i64 id,.int .i64 wt,.bool thr] w (TGoes base x v 0 (insT ⟨id,parent,wt,pn.now,thr,false,0⟩ l) w) := by
  have HD := hid (And.intro hd hs)
  clear hs
  obtain ⟨p,cap,rfl,hc1,hc2,hp0,hp1⟩ := h.row.slice
  obtain ⟨a,rfl⟩ : ∃ a,p = some a := by
    cases p with
    | none => have e := (hp0 rfl).1; rw [e] at hn; simp at hn
    | some a => exact ⟨a,rfl⟩
  obtain ⟨g,rfl,hg,hgl⟩ := hp1 a rfl
  unfold maxLen at hc2
  have hpl : (pi : Int) < l.length := by have := (List.getElem?_eq_some_iff.1 hn).1; omega
  have hx := h.lt
  have c0 := h.cell
  obtain ⟨-,-,-,-,e4,-,e6⟩ := h.row.node hn
  clear hp0 hp1 hn
  have H := hid h
  have HP := hid hp
  have HW := hid hw
  clear h hp hw
  rw [ht] at e4
  have HA := hid ha
  clear ha
  subst hthr
  have HB0 := hid hb0
  clear hb0
  go_enter Tryz.func40,Tryz.ntmps40
  go_upto_region 12 with (first | (go_at_call 66; (with_reducible refine (tat_to HA.out (H.out.ext ext_by)).yields ?_); intro q1) | (go_at_call 66; (with_reducible refine (tat_to HP.out (H.out.ext ext_by)).yields ?_); intro q1) | (go_at_call 45; (with_reducible refine (risW_to HW.out _).yields ?_); intro q2) | (go_at_call 48; (with_reducible refine (tdeep_any (H.out.ext ext_by) _ dn (by have := HD.out; omega) HD.out.2).yields ?_); intro q3))
  all_goals first | (exfalso; omega) | skip
  refine wp_forget (fun u => Ext w u) ext_by ?_
  rintro W1 hX1
  have HX1 := hid hX1
  have d0 := hX1.cell c0
  have d6 := hX1.cell e6
  have hgl1 : g < W1.heap.size := by have := hX1.size; omega
  clear hX1 c0 e4 e6
  go_upto_block 1 with (fail)
  have HB : Hid ((W1.alloc (.cells #[.int .i64 id,.int .i64 parent,.int .i64 wt,.int .i64 pn.now,.bool false,.bool false,.int .i64 0] 113 (0,0))).heap[W1.heap.size]? = some (.cells #[.int .i64 id,.int .i64 parent,.int .i64 wt,.int .i64 pn.now,.bool false,.bool false,.int .i64 0] 113 (0,0))) := heap_alloc_new W1 _
  have HX2 : Hid (Ext w (W1.alloc (.cells #[.int .i64 id,.int .i64 parent,.int .i64 wt,.int .i64 pn.now,.bool false,.bool false,.int .i64 0] 113 (0,0)))) := HX1.out.alloc _
  clear d0 d6 hgl1 HX1
  generalize W1.alloc (.cells #[.int .i64 id,.int .i64 parent,.int .i64 wt,.int .i64 pn.now,.bool false,.bool false,.int .i64 0] 113 (0,0)) = W2 at *
  generalize W1.heap.size = A at *
  clear W1
  refine wp_meet (TPlPost x A (placeT l id) W2) ?_ ?_
  · have d0 := HX2.out.cell H.out.cell
    go_wp2
    go_loopw [13] (fun v13 wr => Ext W2 wr ∧ ∃ k : Nat,v13 = .int .i64 k ∧ k ≤ l.length ∧ Hid (∀ i (_ : i < k) (hl : i < l.length),l[i].id < id)) (fun v13 _ => (l.length - (intOf v13).toNat))
    case atStart => exact ⟨Ext.refl _,0,rfl,Nat.zero_le _,fun i hi => absurd hi (Nat.not_lt_zero i)⟩
    case round =>
      obtain ⟨X,k,rfl,hk,hlow⟩ := hrel
      have b0 := X.cell d0
      by_cases hlt : k < l.length
      · have hn : l[k]? = some l[k] := List.getElem?_eq_getElem hlt
        obtain ⟨e0,-⟩ := H.out.row.node hn
        have f0 := X.cell (HX2.out.cell e0)
        have i1 : (k : Int) < l.length := by omega
        have HPL := hid (@placeT_is l id k hlt)
        have HLO : Hid (l[k].id < id → ∀ i (_ : i < k + 1) (hl : i < l.length),l[i].id < id) := fun h i hi hl => by
          by_cases e : i = k
          · subst e; exact h
          · exact hlow.out i (by omega) hl
        clear hn e0
        generalize l[k] = nd at *
        by_cases hc : nd.id < id
        · go_wp2
          go_roundw
          case rel => exact ⟨X,k + 1,by go_num,by omega,HLO.out hc⟩
          case measure => simp [intOf]; omega
        · have HE := hid (HPL.out hc hlow.out)
          go_wp2
          rw [HE.out]
          exact ⟨_,_,_,_,_,_,_,_,_,_,_,_,_,_,_,_,_,_,_,_,_,_,_,_,_,_,_,_,_,_,_,_,_,_,_,_,_,_,_,_,_,_,_,_,_,_,_,_,_,_,_,_,_,_,_,_,_,_,_,_,_,_,_,_,_,_,_,_,_,_,_,_,_,_,_,_,_,_,_,_,_,_,_,_,_,_,_,_,_,_,_,_,_,_,_,_,_,_,_,_,_,_,_,_,_,_,_,_,_,_,_,_,_,_,rfl,X⟩
      · have HE : Hid (placeT l id = k) := by
          rw [Hid,placeT_end (fun i hi => hlow.out i (by omega) hi)]; omega
        go_wp2
        rw [HE.out]
        exact ⟨_,_,_,_,_,_,_,_,_,_,_,_,_,_,_,_,_,_,_,_,_,_,_,_,_,_,_,_,_,_,_,_,_,_,_,_,_,_,_,_,_,_,_,_,_,_,_,_,_,_,_,_,_,_,_,_,_,_,_,_,_,_,_,_,_,_,_,_,_,_,_,_,_,_,_,_,_,_,_,_,_,_,_,_,_,_,_,_,_,_,_,_,_,_,_,_,_,_,_,_,_,_,_,_,_,_,_,_,_,_,_,_,_,_,rfl,X⟩
  · refine fun a' y => ex8 fun u1 u2 u3 u4 u5 u6 u7 u8 => ex8 fun u9 u10 u11 u14 u15 u16 u17 u18 => ex8 fun u19 u20 u21 u22 u23 u24 u25 u26 => ex8 fun u27 u28 u29 u30 u31 u32 u33 u34 => ex8 fun u35 u36 u37 u38 u39 u40 u41 u42 => ex8 fun u43 u44 u45 u46 u47 u48 u49 u50 => ex8 fun u51 u52 u53 u54 u55 u56 u57 u58 => ex8 fun u59 u60 u61 u62 u63 u64 u65 u66 => ex8 fun u67 u68 u69 u70 u71 u72 u73 u74 => ex8 fun u75 u76 u77 u78 u79 u80 u81 u82 => ex8 fun u83 u84 u85 u86 u87 u88 u89 u90 => ex8 fun u91 u92 u93 u94 u95 u96 u97 u98 => ex8 fun u99 u100 u101 u102 u103 u104 u105 u106 => ex8 fun u107 u108 u109 u110 u111 u112 u113 u114 => ex2 fun u115 u116 => ?_
    rintro ⟨rfl,hX3⟩
    have HT3 := hid (H.out.ext (HX2.out.trans hX3))
    have HX3 := hid (HX2.out.trans hX3)
    have HB3 := hid (block_ext' hX3 HB.out)
    clear hX3 HX2 HB
    go_upto_region 16 with (fail)
    by_cases hck : cap = placeT l id
    · refine wp_meet (InsPost base x (.slice (some ⟨g,0,none⟩) l.length cap) (insT ⟨id,parent,wt,pn.now,false,false,0⟩ l) y) (tinsA (d := ⟨id,parent,wt,pn.now,false,false,0⟩) HT3.out (by have := HX3.out.size; have := HB0.out; omega) HB3.out (placeT_le l id) (by omega) hck _ _ _ _ _ _ _ _ _ _ _ _ _ _ _ _ _ _ _ _ _ _ _ _ _ _ _ _ _ _ _ _ _ _ _ _ _ _ _ _ _ _ _ _ _ _ _ _ _ _ _ _ _ _ _ _ _ _ _ _ _ _ _ _ _ _ _ _ _ _ _ _ _ _ _ _ _ _ _ _ _ _ _ _ _ _ _ _ _ _ _ _ _ _ _ _ _ _ _ _ _ _ _ _ _ _ _ _ _ _ _ _ _ _) ?_
      refine fun a' y2 => ex_elim fun v' => ex8 fun u1 u2 u3 u4 u5 u6 u7 u8 => ex8 fun u9 u10 u11 u12 u13 u14 u15 u16 => ex8 fun u17 u18 u19 u20 u21 u22 u23 u24 => ex8 fun u25 u26 u27 u28 u29 u30 u31 u32 => ex8 fun u33 u34 u35 u36 u37 u38 u39 u40 => ex8 fun u41 u42 u43 u44 u45 u46 u47 u48 => ex8 fun u49 u50 u51 u52 u53 u54 u55 u56 => ex8 fun u57 u58 u59 u60 u61 u62 u63 u64 => ex8 fun u65 u66 u67 u68 u69 u70 u71 u72 => ex8 fun u73 u74 u75 u76 u77 u78 u79 u80 => ex8 fun u81 u82 u83 u84 u85 u86 u87 u88 => ex8 fun u89 u90 u91 u92 u93 u94 u95 u96 => ex8 fun u97 u98 u99 u100 u101 u102 u103 u104 => ex8 fun u105 u106 u107 u108 u109 u110 u111 u112 => ex4 fun u113 u114 u115 u116 => ?_
      rintro ⟨rfl,hT,hM⟩
      have HTT := hid hT
      have HMM := hid ((Mv.of_ext HX3.out).trans hM)
      clear hT hM
      go_wp2
      go_returns
      exact ⟨by simp,v',HTT.out,HMM.out⟩
    · refine wp_meet (InsPost base x (.slice (some ⟨g,0,none⟩) l.length cap) (insT ⟨id,parent,wt,pn.now,false,false,0⟩ l) y) (tinsB (d := ⟨id,parent,wt,pn.now,false,false,0⟩) HT3.out (by have := HX3.out.size; have := HB0.out; omega) HB3.out (placeT_le l id) (by omega) hck _ _ _ _ _ _ _ _ _ _ _ _ _ _ _ _ _ _ _ _ _ _ _ _ _ _ _ _ _ _ _ _ _ _ _ _ _ _ _ _ _ _ _ _ _ _ _ _ _ _ _ _ _ _ _ _ _ _ _ _ _ _ _ _ _ _ _ _ _ _ _ _ _ _ _ _ _ _ _ _ _ _ _ _ _ _ _ _ _ _ _ _ _ _ _ _ _ _ _ _ _ _ _ _ _ _ _ _ _ _ _ _ _ _) ?_
      refine fun a' y2 => ex_elim fun v' => ex8 fun u1 u2 u3 u4 u5 u6 u7 u8 => ex8 fun u9 u10 u11 u12 u13 u14 u15 u16 => ex8 fun u17 u18 u19 u20 u21 u22 u23 u24 => ex8 fun u25 u26 u27 u28 u29 u30 u31 u32 => ex8 fun u33 u34 u35 u36 u37 u38 u39 u40 => ex8 fun u41 u42 u43 u44 u45 u46 u47 u48 => ex8 fun u49 u50 u51 u52 u53 u54 u55 u56 => ex8 fun u57 u58 u59 u60 u61 u62 u63 u64 => ex8 fun u65 u66 u67 u68 u69 u70 u71 u72 => ex8 fun u73 u74 u75 u76 u77 u78 u79 u80 => ex8 fun u81 u82 u83 u84 u85 u86 u87 u88 => ex8 fun u89 u90 u91 u92 u93 u94 u95 u96 => ex8 fun u97 u98 u99 u100 u101 u102 u103 u104 => ex8 fun u105 u106 u107 u108 u109 u110 u111 u112 => ex4 fun u113 u114 u115 u116 => ?_
      rintro ⟨rfl,hT,hM⟩
      have HTT := hid hT
      have HMM := hid ((Mv.of_ext HX3.out).trans hM)
      clear hT hM
      go_wp2
      go_returns
      exact ⟨by simp,v',HTT.out,HMM.out⟩
set_option maxRecDepth 100000 in
set_option maxHeartbeats 400000 in
theorem tadd0b {base x : Nat} {v : Value} {l : List Nd} {w : World} {parent id wt : Int} {thr : Bool} {dn : Nat} (h : Tq base x v l w) {pi : Nat} {pn : Nd} (hb0 : base ≤ w.heap.size) (hw : isW wt = true) (hi : 1 ≤ id) (hp : atV l parent = (pi : Int)) (hn : l[pi]? = some pn) (ht : pn.thr = false) (ha : atV l id = -1) (hthr : thr = true) (hd : dn ≤ 900) (hs : TSteps l dn (atV l parent))  (hl : l.length < 60) :
    Calls Tryz.prog 40 #[.pointer (some ⟨x,0,none⟩),.int .i64 parent,.int .i64 id,.int .i64 wt,.bool thr] w (TGoes base x v 0 (insT ⟨id,parent,wt,pn.now,thr,false,0⟩ l) w) := by
  have HD := hid (And.intro hd hs)
  clear hs
  obtain ⟨p,cap,rfl,hc1,hc2,hp0,hp1⟩ := h.row.slice
  obtain ⟨a,rfl⟩ : ∃ a,p = some a := by
    cases p with
    | none => have e := (hp0 rfl).1; rw [e] at hn; simp at hn
    | some a => exact ⟨a,rfl⟩
  obtain ⟨g,rfl,hg,hgl⟩ := hp1 a rfl
  unfold maxLen at hc2
  have hpl : (pi : Int) < l.length := by have := (List.getElem?_eq_some_iff.1 hn).1; omega
  have hx := h.lt
  have c0 := h.cell
  obtain ⟨-,-,-,-,e4,-,e6⟩ := h.row.node hn
  clear hp0 hp1 hn
  have H := hid h
  have HP := hid hp
  have HW := hid hw
  clear h hp hw
  rw [ht] at e4
  have HA := hid ha
  clear ha
  subst hthr
  have HB0 := hid hb0
  clear hb0
  go_enter Tryz.func40,Tryz.ntmps40
  go_upto_region 12 with (first | (go_at_call 66; (with_reducible refine (tat_to HA.out (H.out.ext ext_by)).yields ?_); intro q1) | (go_at_call 66; (with_reducible refine (tat_to HP.out (H.out.ext ext_by)).yields ?_); intro q1) | (go_at_call 45; (with_reducible refine (risW_to HW.out _).yields ?_); intro q2) | (go_at_call 48; (with_reducible refine (tdeep_any (H.out.ext ext_by) _ dn (by have := HD.out; omega) HD.out.2).yields ?_); intro q3))
  all_goals first | (exfalso; omega) | skip
  refine wp_forget (fun u => Ext w u) ext_by ?_
  rintro W1 hX1
  have HX1 := hid hX1
  have d0 := hX1.cell c0
  have d6 := hX1.cell e6
  have hgl1 : g < W1.heap.size := by have := hX1.size; omega
  clear hX1 c0 e4 e6
  go_upto_block 1 with (fail)
  have HB : Hid ((W1.alloc (.cells #[.int .i64 id,.int .i64 parent,.int .i64 wt,.int .i64 pn.now,.bool true,.bool false,.int .i64 0] 113 (0,0))).heap[W1.heap.size]? = some (.cells #[.int .i64 id,.int .i64 parent,.int .i64 wt,.int .i64 pn.now,.bool true,.bool false,.int .i64 0] 113 (0,0))) := heap_alloc_new W1 _
  have HX2 : Hid (Ext w (W1.alloc (.cells #[.int .i64 id,.int .i64 parent,.int .i64 wt,.int .i64 pn.now,.bool true,.bool false,.int .i64 0] 113 (0,0)))) := HX1.out.alloc _
  clear d0 d6 hgl1 HX1
  generalize W1.alloc (.cells #[.int .i64 id,.int .i64 parent,.int .i64 wt,.int .i64 pn.now,.bool true,.bool false,.int .i64 0] 113 (0,0)) = W2 at *
  generalize W1.heap.size = A at *
  clear W1
  refine wp_meet (TPlPost x A (placeT l id) W2) ?_ ?_
  · have d0 := HX2.out.cell H.out.cell
    go_wp2
    go_loopw [13] (fun v13 wr => Ext W2 wr ∧ ∃ k : Nat,v13 = .int .i64 k ∧ k ≤ l.length ∧ Hid (∀ i (_ : i < k) (hl : i < l.length),l[i].id < id)) (fun v13 _ => (l.length - (intOf v13).toNat))
    case atStart => exact ⟨Ext.refl _,0,rfl,Nat.zero_le _,fun i hi => absurd hi (Nat.not_lt_zero i)⟩
    case round =>
      obtain ⟨X,k,rfl,hk,hlow⟩ := hrel
      have b0 := X.cell d0
      by_cases hlt : k < l.length
      · have hn : l[k]? = some l[k] := List.getElem?_eq_getElem hlt
        obtain ⟨e0,-⟩ := H.out.row.node hn
        have f0 := X.cell (HX2.out.cell e0)
        have i1 : (k : Int) < l.length := by omega
        have HPL := hid (@placeT_is l id k hlt)
        have HLO : Hid (l[k].id < id → ∀ i (_ : i < k + 1) (hl : i < l.length),l[i].id < id) := fun h i hi hl => by
          by_cases e : i = k
          · subst e; exact h
          · exact hlow.out i (by omega) hl
        clear hn e0
        generalize l[k] = nd at *
        by_cases hc : nd.id < id
        · go_wp2
          go_roundw
          case rel => exact ⟨X,k + 1,by go_num,by omega,HLO.out hc⟩
          case measure => simp [intOf]; omega
        · have HE := hid (HPL.out hc hlow.out)
          go_wp2
          rw [HE.out]
          exact ⟨_,_,_,_,_,_,_,_,_,_,_,_,_,_,_,_,_,_,_,_,_,_,_,_,_,_,_,_,_,_,_,_,_,_,_,_,_,_,_,_,_,_,_,_,_,_,_,_,_,_,_,_,_,_,_,_,_,_,_,_,_,_,_,_,_,_,_,_,_,_,_,_,_,_,_,_,_,_,_,_,_,_,_,_,_,_,_,_,_,_,_,_,_,_,_,_,_,_,_,_,_,_,_,_,_,_,_,_,_,_,_,_,_,_,rfl,X⟩
      · have HE : Hid (placeT l id = k) := by
          rw [Hid,placeT_end (fun i hi => hlow.out i (by omega) hi)]; omega
        go_wp2
        rw [HE.out]
        exact ⟨_,_,_,_,_,_,_,_,_,_,_,_,_,_,_,_,_,_,_,_,_,_,_,_,_,_,_,_,_,_,_,_,_,_,_,_,_,_,_,_,_,_,_,_,_,_,_,_,_,_,_,_,_,_,_,_,_,_,_,_,_,_,_,_,_,_,_,_,_,_,_,_,_,_,_,_,_,_,_,_,_,_,_,_,_,_,_,_,_,_,_,_,_,_,_,_,_,_,_,_,_,_,_,_,_,_,_,_,_,_,_,_,_,_,rfl,X⟩
  · refine fun a' y => ex8 fun u1 u2 u3 u4 u5 u6 u7 u8 => ex8 fun u9 u10 u11 u14 u15 u16 u17 u18 => ex8 fun u19 u20 u21 u22 u23 u24 u25 u26 => ex8 fun u27 u28 u29 u30 u31 u32 u33 u34 => ex8 fun u35 u36 u37 u38 u39 u40 u41 u42 => ex8 fun u43 u44 u45 u46 u47 u48 u49 u50 => ex8 fun u51 u52 u53 u54 u55 u56 u57 u58 => ex8 fun u59 u60 u61 u62 u63 u64 u65 u66 => ex8 fun u67 u68 u69 u70 u71 u72 u73 u74 => ex8 fun u75 u76 u77 u78 u79 u80 u81 u82 => ex8 fun u83 u84 u85 u86 u87 u88 u89 u90 => ex8 fun u91 u92 u93 u94 u95 u96 u97 u98 => ex8 fun u99 u100 u101 u102 u103 u104 u105 u106 => ex8 fun u107 u108 u109 u110 u111 u112 u113 u114 => ex2 fun u115 u116 => ?_
    rintro ⟨rfl,hX3⟩
    have HT3 := hid (H.out.ext (HX2.out.trans hX3))
    have HX3 := hid (HX2.out.trans hX3)
    have HB3 := hid (block_ext' hX3 HB.out)
    clear hX3 HX2 HB
    go_upto_region 16 with (fail)
    by_cases hck : cap = placeT l id
    · refine wp_meet (InsPost base x (.slice (some ⟨g,0,none⟩) l.length cap) (insT ⟨id,parent,wt,pn.now,true,false,0⟩ l) y) (tinsA (d := ⟨id,parent,wt,pn.now,true,false,0⟩) HT3.out (by have := HX3.out.size; have := HB0.out; omega) HB3.out (placeT_le l id) (by omega) hck _ _ _ _ _ _ _ _ _ _ _ _ _ _ _ _ _ _ _ _ _ _ _ _ _ _ _ _ _ _ _ _ _ _ _ _ _ _ _ _ _ _ _ _ _ _ _ _ _ _ _ _ _ _ _ _ _ _ _ _ _ _ _ _ _ _ _ _ _ _ _ _ _ _ _ _ _ _ _ _ _ _ _ _ _ _ _ _ _ _ _ _ _ _ _ _ _ _ _ _ _ _ _ _ _ _ _ _ _ _ _ _ _ _) ?_
      refine fun a' y2 => ex_elim fun v' => ex8 fun u1 u2 u3 u4 u5 u6 u7 u8 => ex8 fun u9 u10 u11 u12 u13 u14 u15 u16 => ex8 fun u17 u18 u19 u20 u21 u22 u23 u24 => ex8 fun u25 u26 u27 u28 u29 u30 u31 u32 => ex8 fun u33 u34 u35 u36 u37 u38 u39 u40 => ex8 fun u41 u42 u43 u44 u45 u46 u47 u48 => ex8 fun u49 u50 u51 u52 u53 u54 u55 u56 => ex8 fun u57 u58 u59 u60 u61 u62 u63 u64 => ex8 fun u65 u66 u67 u68 u69 u70 u71 u72 => ex8 fun u73 u74 u75 u76 u77 u78 u79 u80 => ex8 fun u81 u82 u83 u84 u85 u86 u87 u88 => ex8 fun u89 u90 u91 u92 u93 u94 u95 u96 => ex8 fun u97 u98 u99 u100 u101 u102 u103 u104 => ex8 fun u105 u106 u107 u108 u109 u110 u111 u112 => ex4 fun u113 u114 u115 u116 => ?_
      rintro ⟨rfl,hT,hM⟩
      have HTT := hid hT
      have HMM := hid ((Mv.of_ext HX3.out).trans hM)
      clear hT hM
      go_wp2
      go_returns
      exact ⟨by simp,v',HTT.out,HMM.out⟩
    · refine wp_meet (InsPost base x (.slice (some ⟨g,0,none⟩) l.length cap) (insT ⟨id,parent,wt,pn.now,true,false,0⟩ l) y) (tinsB (d := ⟨id,parent,wt,pn.now,true,false,0⟩) HT3.out (by have := HX3.out.size; have := HB0.out; omega) HB3.out (placeT_le l id) (by omega) hck _ _ _ _ _ _ _ _ _ _ _ _ _ _ _ _ _ _ _ _ _ _ _ _ _ _ _ _ _ _ _ _ _ _ _ _ _ _ _ _ _ _ _ _ _ _ _ _ _ _ _ _ _ _ _ _ _ _ _ _ _ _ _ _ _ _ _ _ _ _ _ _ _ _ _ _ _ _ _ _ _ _ _ _ _ _ _ _ _ _ _ _ _ _ _ _ _ _ _ _ _ _ _ _ _ _ _ _ _ _ _ _ _ _) ?_
      refine fun a' y2 => ex_elim fun v' => ex8 fun u1 u2 u3 u4 u5 u6 u7 u8 => ex8 fun u9 u10 u11 u12 u13 u14 u15 u16 => ex8 fun u17 u18 u19 u20 u21 u22 u23 u24 => ex8 fun u25 u26 u27 u28 u29 u30 u31 u32 => ex8 fun u33 u34 u35 u36 u37 u38 u39 u40 => ex8 fun u41 u42 u43 u44 u45 u46 u47 u48 => ex8 fun u49 u50 u51 u52 u53 u54 u55 u56 => ex8 fun u57 u58 u59 u60 u61 u62 u63 u64 => ex8 fun u65 u66 u67 u68 u69 u70 u71 u72 => ex8 fun u73 u74 u75 u76 u77 u78 u79 u80 => ex8 fun u81 u82 u83 u84 u85 u86 u87 u88 => ex8 fun u89 u90 u91 u92 u93 u94 u95 u96 => ex8 fun u97 u98 u99 u100 u101 u102 u103 u104 => ex8 fun u105 u106 u107 u108 u109 u110 u111 u112 => ex4 fun u113 u114 u115 u116 => ?_
      rintro ⟨rfl,hT,hM⟩
      have HTT := hid hT
      have HMM := hid ((Mv.of_ext HX3.out).trans hM)
      clear hT hM
      go_wp2
      go_returns
      exact ⟨by simp,v',HTT.out,HMM.out⟩
end Go.Proofs.YtocicffmajbecaaGreatDoor
namespace Go.Proofs.YtocicffmajbecaaGreatDoor
open Go.RowKit
set_option linter.unusedSimpArgs false
theorem flat_set1 {α : Type} {f : α → List Value} {n : Nat} (hf : ∀ x,(f x).length = n) : ∀ (l : List α) (i j : Nat) (x y : α) (u : Value),l[i]? = some x → f y = (f x).set j u → j < n → (l.set i y).flatMap f = (l.flatMap f).set (i * n + j) u
  | [],_,_,_,_,_,h,_,_ => by simp at h
  | a :: l,0,j,x,y,u,h,hy,hj => by
    simp at h; subst h
    rw [List.set_cons_zero,List.flatMap_cons,List.flatMap_cons,hy,Nat.zero_mul,Nat.zero_add,List.set_append_left _ _ (by rw [hf]; exact hj)]
  | a :: l,i + 1,j,x,y,u,h,hy,hj => by
    rw [List.set_cons_succ,List.flatMap_cons,List.flatMap_cons,flat_set1 hf l i j x y u (by simpa using h) hy hj,List.set_append_right _ _ (by rw [hf,Nat.add_mul]; omega),hf]
    congr 2
    rw [Nat.add_mul]; omega
theorem NRow.setAt {w : World} {base g cap : Nat} {l : List Nd} (h : NRow w base (.slice (some ⟨g,0,none⟩) l.length cap) l) {i j : Nat} {n n' : Nd} {u : Value} (hi : l[i]? = some n) (hj : j < 7) (hn : ndc n' = (ndc n).set j u) :
    NRow (w.setCell ⟨g,i * 7 + j,none⟩ u) base (.slice (some ⟨g,0,none⟩) (l.set i n').length cap) (l.set i n') := by
  rcases h.2 with ⟨h,_⟩ | ⟨g',cap',cur,e1,e2,e3,e4,e5,e6,e7⟩
  · cases h
  injection e1 with e1 _ e8
  injection e1 with e1
  injection e1 with e1
  subst e1 e8
  have hil := (List.getElem?_eq_some_iff.1 hi).1
  refine ⟨by rw [flat_length ndc_length],.inr ⟨g,cap,_,rfl,e2,set_same e3 (i * 7 + j) u,by rw [List.length_set]; exact e4,e5,by simpa using e6,?_⟩⟩
  rw [List.length_set,flat_set1 ndc_length l i j n n' u hi hn hj,← e7]
  rw [Array.toList_setIfInBounds,List.take_set]
theorem Tq.setAt {base x g cap : Nat} {l : List Nd} {w : World} (h : Tq base x (.slice (some ⟨g,0,none⟩) l.length cap) l w) {i j : Nat} {n n' : Nd} {u : Value} (hi : l[i]? = some n) (hj : j < 7) (hn : ndc n' = (ndc n).set j u) :
    Tq base x (.slice (some ⟨g,0,none⟩) (l.set i n').length cap) (l.set i n') (w.setCell ⟨g,i * 7 + j,none⟩ u) := by
  have hne : x ≠ g := fun e => h.far (by rw [e]; rfl)
  refine ⟨?_,h.row.setAt hi hj hn⟩
  rw [Below.heap_setCell _ _ _ _ (by simpa using hne),List.length_set]
  exact h.blk
def skelT (l : List Nd) : List (Int × Int) := l.map fun n => (n.id,n.par)
theorem skel_len {l m : List Nd} (h : skelT l = skelT m) : l.length = m.length := by
  have := congrArg List.length h; simpa [skelT] using this
theorem skel_get {l m : List Nd} (h : skelT l = skelT m) (i : Nat) : (l[i]?).map (fun n => (n.id,n.par)) = (m[i]?).map (fun n => (n.id,n.par)) := by
  have := congrArg (fun q => q[i]?) h
  simpa [skelT,List.getElem?_map] using this
theorem idxT_skel (l : List Nd) (id : Int) : idxT l id = (skelT l).findIdx (fun p => p.1 == id) := by
  unfold idxT skelT
  rw [List.findIdx_map]
  rfl
theorem atV_skel {l m : List Nd} (h : skelT l = skelT m) (id : Int) : atV l id = atV m id := by
  unfold atV
  rw [idxT_skel,idxT_skel,h,skel_len h]
theorem parAt_skel {l m : List Nd} (h : skelT l = skelT m) (k : Int) : parAt l k = parAt m k := by
  have := skel_get h k.toNat
  unfold parAt
  cases h1 : l[k.toNat]? <;> cases h2 : m[k.toNat]? <;> simp_all
theorem steps_skel {l m : List Nd} (h : skelT l = skelT m) : ∀ (n : Nat) (k : Int),TSteps l n k ↔ TSteps m n k
  | 0,k => Iff.rfl
  | n + 1,k => by
    simp only [TSteps]
    rw [parAt_skel h,atV_skel h,steps_skel h n]
theorem skel_set {l : List Nd} {k : Nat} {n n' : Nd} (hk : l[k]? = some n) (h1 : n'.id = n.id) (h2 : n'.par = n.par) : skelT (l.set k n') = skelT l := by
  unfold skelT
  rw [List.map_set]
  refine List.ext_getElem? fun i => ?_
  rw [List.getElem?_set]
  split
  · rename_i e
    subst e
    have hl := (List.getElem?_eq_some_iff.1 hk).1
    rw [List.length_map,if_pos hl,List.getElem?_map,hk]
    simp [h1,h2]
  · rfl
def nowAt (l : List Nd) (k : Int) : Int := match l[k.toNat]? with
  | some n => n.now
  | none => 0
def idAt' (l : List Nd) (k : Int) : Int := match l[k.toNat]? with
  | some n => n.id
  | none => 0
def rdyN (l : List Nd) (n : Nd) (r : Bool) : Nd := { n with pass := if r = true ∧ 0 ≤ atV l n.par then max n.pass (nowAt l (atV l n.par)) else n.pass,rdy := r }
def goT (r : Bool) : Nat → List Nd → Int → List Nd
  | 0,l,_ => l
  | f + 1,l,k => match l[k.toNat]? with
    | some n => if k < 0 ∨ n.rdy = r then l else
        if atV l n.par < 0 ∨ (r = false ∧ someT (l.set k.toNat (rdyN l n r)) (idAt' l (atV l n.par)) = true) then l.set k.toNat (rdyN l n r) else goT r f (l.set k.toNat (rdyN l n r)) (atV l n.par)
    | none => l
end Go.Proofs.YtocicffmajbecaaGreatDoor
namespace Go.Proofs.YtocicffmajbecaaGreatDoor
open Go.RowKit
set_option linter.unusedSimpArgs false
theorem wpList_append_sl {P : Program} {ops : Array Oper} {rest : List Oper} {o : Oper} {a : Act} {w : World} {Q : Exit → Act → World → Prop} (hgd : o.guard = none) (s x : Operand) (t T : TypeId) (z : Value) (n by' : Nat)
    (ho : o.op = .call { callee := .builtin .append,args := #[s,x],argTypes := #[t,t] }) (ht : P.underlying t = some (.slice T)) (hi : (P.info? T).map (fun i => (i.zero,i.size,i.bytes)) = some (some z,n,by')) (hz : z.cells.size = n) (hn : 0 < n)
    {base m : Nat} {v : Value} {xs : List Value} (hown : w.ownsRow base T n v m xs) {ad : Addr} {m2 c2 : Nat} {news : List Value} (hs : a.eval s = v) (hx : a.eval x = .slice (some ad) m2 c2) (hl : news.length = m2 * n)
    (hnews : ∀ j u,news[j]? = some u → w.cell? (ad.add j) = some u) (h1 : ∀ u ∈ news,u.oneCell' = true) (b1 : m + m2 ≤ maxLen) (b2 : (m + m2) * by' ≤ 140737488355328) (hbase : base ≤ w.heap.size)
    (k : ∀ p c w',w'.ownsRow base T n (.slice p (m + m2) c) (m + m2) (xs ++ news) → Below base w w' → wpList P ops Q rest (a.put o.dst (.slice p (m + m2) c)) w') : wpList P ops Q (o :: rest) a w :=
  wpList_plain hgd fun _ hK => wp_append_sl s x t T z n by' ho ht hi hz hn hown hs hx hl hnews h1 b1 b2 hbase fun v' w' h2 h3 => by
    obtain ⟨p,c,rfl⟩ := owns_shape h2
    exact hK _ _ (k p c w' h2 h3)
theorem Tq.copied {base x : Nat} {v : Value} {l : List Nd} {w w1 : World} {p : Option Addr} {c : Nat} (h : Tq base x v l w) (hb : base ≤ w.heap.size) (ho : w1.ownsRow w.heap.size 113 7 (.slice p (0 + l.length) c) (0 + l.length) ([] ++ l.flatMap ndc)) (hk : Below w.heap.size w w1) (hl : 0 < l.length) :
    ∃ g2,p = some ⟨g2,0,none⟩ ∧ Tq base x (.slice p l.length c) l (w1.setCell ⟨x,0,none⟩ (.slice p l.length c)) ∧ Mv x v (.slice p l.length c) w (w1.setCell ⟨x,0,none⟩ (.slice p l.length c)) := by
  rw [List.nil_append,Nat.zero_add] at ho
  have hr : NRow w1 w.heap.size (.slice p l.length c) l := ho
  have hm := (Mv.of_ext (x := x) (v := v) (⟨hk⟩ : Ext w w1)).setX 0 (.slice p l.length c)
  have hx : w1.heap[x]? = some (.cells #[v] 111 (0,0)) := by rw [hk.block x h.lt]; exact h.blk
  rcases ho.2 with ⟨_,h0⟩ | ⟨g2,c2,cur,e,-⟩
  · omega
  · injection e with e1 e2 e3
    exact ⟨g2,e1,Tq.lay hx (hr.base hb),⟨hm.os,hm.tape,hm.output,hm.size,hm.block,fun i hi => .inr (hr.lt i hi).1⟩⟩
def MxPost (base x g cap : Nat) (k pk : Int) (l : List Nd) (z : World) (u1 u2 u3 u4 u5 u6 u9 u10 u11 u12 u13 u14 u15 u16 u17 u18 u19 u20 u21 u22 u23 u24 u25 u26 u27 u28 u29 u30 u31 u32 u33 u34 u35 u36 u37 u38 u39 u40 u41 u42 u43 u44 u45 u46 u47 u48 u49 u50 u51 u52 u53 u54 u55 u56 u57 u58 u59 u60 u61 u62 u63 u64 u91 u92 u93 u94 u95 u96 u97 u98 u99 u100 u101 u102 u103 u104 u105 u106 u107 u108 u109 u110 u111 u112 u113 u114 u115 u116 u117 u118 u119 : Value) (a' : Act) (y : World) : Prop :=
  ∃ (u65 u66 u67 u68 u69 u70 u71 u72 u73 u74 u75 u76 u77 u78 u79 u80 u81 u82 u83 u84 u85 u86 u87 u88 u89 u90 : Value),a' = { tmps := #[.pointer (some ⟨x,0,none⟩),u1,u2,u3,u4,u5,u6,.int .i64 k,.int .i64 pk,u9,u10,u11,u12,u13,u14,u15,u16,u17,u18,u19,u20,u21,u22,u23,u24,u25,u26,u27,u28,u29,u30,u31,u32,u33,u34,u35,u36,u37,u38,u39,u40,u41,u42,u43,u44,u45,u46,u47,u48,u49,u50,u51,u52,u53,u54,u55,u56,u57,u58,u59,u60,u61,u62,u63,u64,u65,u66,u67,u68,u69,u70,u71,u72,u73,u74,u75,u76,u77,u78,u79,u80,u81,u82,u83,u84,u85,u86,u87,u88,u89,u90,u91,u92,u93,u94,u95,u96,u97,u98,u99,u100,u101,u102,u103,u104,u105,u106,u107,u108,u109,u110,u111,u112,u113,u114,u115,u116,u117,u118,u119],defers := [] } ∧ Tq base x (.slice (some ⟨g,0,none⟩) l.length cap) l y ∧ Mv x (.slice (some ⟨g,0,none⟩) l.length cap) (.slice (some ⟨g,0,none⟩) l.length cap) z y
set_option maxRecDepth 100000 in
set_option maxHeartbeats 4000000 in
theorem tmax {base x g cap k pk : Nat} {l : List Nd} {nd pn : Nd} {z : World} (h : Tq base x (.slice (some ⟨g,0,none⟩) l.length cap) l z) (hk : l[k]? = some nd) (hp : l[pk]? = some pn) (u1 u2 u3 u4 u5 u6 u9 u10 u11 u12 u13 u14 u15 u16 u17 u18 u19 u20 u21 u22 u23 u24 u25 u26 u27 u28 u29 u30 u31 u32 u33 u34 u35 u36 u37 u38 u39 u40 u41 u42 u43 u44 u45 u46 u47 u48 u49 u50 u51 u52 u53 u54 u55 u56 u57 u58 u59 u60 u61 u62 u63 u64 u65 u66 u67 u68 u69 u70 u71 u72 u73 u74 u75 u76 u77 u78 u79 u80 u81 u82 u83 u84 u85 u86 u87 u88 u89 u90 u91 u92 u93 u94 u95 u96 u97 u98 u99 u100 u101 u102 u103 u104 u105 u106 u107 u108 u109 u110 u111 u112 u113 u114 u115 u116 u117 u118 u119 : Value) :
    (bodyAt Tryz.f41 [1,1,1,1,0,2,2,1,2,1,0,1,0]).wp Tryz.prog (Ends (MxPost base x g cap k pk (l.set k { nd with pass := max nd.pass pn.now }) z u1 u2 u3 u4 u5 u6 u9 u10 u11 u12 u13 u14 u15 u16 u17 u18 u19 u20 u21 u22 u23 u24 u25 u26 u27 u28 u29 u30 u31 u32 u33 u34 u35 u36 u37 u38 u39 u40 u41 u42 u43 u44 u45 u46 u47 u48 u49 u50 u51 u52 u53 u54 u55 u56 u57 u58 u59 u60 u61 u62 u63 u64 u91 u92 u93 u94 u95 u96 u97 u98 u99 u100 u101 u102 u103 u104 u105 u106 u107 u108 u109 u110 u111 u112 u113 u114 u115 u116 u117 u118 u119)) ({ tmps := #[.pointer (some ⟨x,0,none⟩),u1,u2,u3,u4,u5,u6,.int .i64 k,.int .i64 pk,u9,u10,u11,u12,u13,u14,u15,u16,u17,u18,u19,u20,u21,u22,u23,u24,u25,u26,u27,u28,u29,u30,u31,u32,u33,u34,u35,u36,u37,u38,u39,u40,u41,u42,u43,u44,u45,u46,u47,u48,u49,u50,u51,u52,u53,u54,u55,u56,u57,u58,u59,u60,u61,u62,u63,u64,u65,u66,u67,u68,u69,u70,u71,u72,u73,u74,u75,u76,u77,u78,u79,u80,u81,u82,u83,u84,u85,u86,u87,u88,u89,u90,u91,u92,u93,u94,u95,u96,u97,u98,u99,u100,u101,u102,u103,u104,u105,u106,u107,u108,u109,u110,u111,u112,u113,u114,u115,u116,u117,u118,u119],defers := [] }) z := by
  have i1 : (k : Int) < l.length := by have := (List.getElem?_eq_some_iff.1 hk).1; omega
  have i2 : (pk : Int) < l.length := by have := (List.getElem?_eq_some_iff.1 hp).1; omega
  unfold bodyAt Tryz.f41
  simp only [codeAt]
  refine wp_region_T 26 1 (fun u => u.cell? ⟨x,0,none⟩ = some (.slice (some ⟨g,0,none⟩) l.length cap) ∧ u.cell? ⟨g,k * 7 + 3,none⟩ = some (.int .i64 nd.pass) ∧ u.cell? ⟨g,pk * 7 + 6,none⟩ = some (.int .i64 pn.now)) (by kernel_rfl) (by kernel_rfl) ?_
  have HT := hid (h.ext (Ext.drew (Ext.refl z)))
  have HM : Hid (Mv x (.slice (some ⟨g,0,none⟩) l.length cap) (.slice (some ⟨g,0,none⟩) l.length cap) z z.drew) := Mv.of_ext (Ext.drew (Ext.refl z))
  have HK := hid hk
  have HP := hid hp
  clear h hk hp
  generalize z.drew = z0 at *
  have HSS : z0.cell? ⟨x,0,none⟩ = some (.slice (some ⟨g,0,none⟩) l.length cap) ∧ z0.cell? ⟨g,k * 7 + 3,none⟩ = some (.int .i64 nd.pass) ∧ z0.cell? ⟨g,pk * 7 + 6,none⟩ = some (.int .i64 pn.now) :=
    ⟨HT.out.cell,(HT.out.row.node HK.out).2.2.2.1,(HT.out.row.node HP.out).2.2.2.2.2.2⟩
  refine wpT_tk 0 HSS ?_; (try simp only [nrm])
  refine wpT_tk 1 HSS ?_; (try simp only [nrm])
  refine wpT_tk 2 HSS ?_; (try simp only [nrm])
  refine wpT_tk 3 HSS ?_; (try simp only [nrm])
  refine wpT_tk 4 HSS ?_; (try simp only [nrm])
  refine wpT_tk 5 HSS ?_; (try simp only [nrm])
  refine wpT_tk 6 HSS ?_; (try simp only [nrm])
  refine wpT_tk 7 HSS ?_; (try simp only [nrm])
  refine wpT_tk 8 HSS ?_; (try simp only [nrm])
  refine wpT_tk 9 HSS ?_; (try simp only [nrm])
  refine wpT_tk 10 HSS ?_; (try simp only [nrm])
  refine wpT_tk 11 HSS ?_; (try simp only [nrm])
  refine wpT_tk 12 HSS ?_; (try simp only [nrm])
  refine wpT_tk 13 HSS ?_; (try simp only [nrm])
  refine wpT_tk 14 HSS ?_; (try simp only [nrm])
  refine wpT_tk 15 HSS ?_; (try simp only [nrm])
  refine wpT_tk 16 HSS ?_; (try simp only [nrm])
  refine wpT_tk 17 HSS ?_; (try simp only [nrm])
  refine wpT_tk 18 HSS ?_; (try simp only [nrm])
  refine wpT_tk 19 HSS ?_; (try simp only [nrm])
  refine wpT_tk 20 HSS ?_; (try simp only [nrm])
  refine wpT_tk 21 HSS ?_; (try simp only [nrm])
  refine wpT_tk 22 HSS ?_; (try simp only [nrm])
  refine wpT_tk 23 HSS ?_; (try simp only [nrm])
  refine wpT_tk 24 HSS ?_; (try simp only [nrm])
  refine wpT_tk 25 HSS ?_; (try simp only [nrm])
  refine wpT_done (by kernel_rfl) ?_
  refine wpAny_on 26 (fun K' hK => ?_)
  have g0 := HSS.2.1
  have f0 : z0.frozen? ⟨g,k * 7 + 3,none⟩ = false := HT.out.row.free
  clear HSS
  go_simp
  refine hK.out _ _ ?_
  (try simp only [nrm])
  refine wpAny_done (by kernel_rfl) ?_ _
  have ht := HT.out.setAt (n' := { nd with pass := max nd.pass pn.now }) (j := 3) (u := .int .i64 (max nd.pass pn.now)) HK.out (by omega) rfl
  have hm := HM.out.setG (g := g) rfl (k * 7 + 3) (.int .i64 (max nd.pass pn.now))
  have hmx : (if nd.pass < pn.now then pn.now else nd.pass) = max nd.pass pn.now := by split <;> omega
  rw [hmx]
  exact ⟨rfl,_,_,_,_,_,_,_,_,_,_,_,_,_,_,_,_,_,_,_,_,_,_,_,_,_,_,rfl,ht,by rw [List.length_set]; exact hm⟩
theorem goT_low {r : Bool} {f : Nat} {l : List Nd} {k : Int} (hs : TSteps l f k) (hk : k < 0) : goT r f l k = l := by
  cases f with
  | zero => rfl
  | succ f => exact absurd hs.1 (by omega)
theorem goT_same {r : Bool} {f : Nat} {l : List Nd} {k : Nat} {nd : Nd} (hn : l[k]? = some nd) (hr : nd.rdy = r) : goT r (f + 1) l (k : Int) = l := by
  simp only [goT,Int.toNat_natCast,hn,hr,or_true,if_true]
theorem goT_end {r : Bool} {f : Nat} {l : List Nd} {k : Nat} {nd : Nd} (hn : l[k]? = some nd) (hr : nd.rdy ≠ r) (h : atV l nd.par < 0 ∨ (r = false ∧ someT (l.set k (rdyN l nd r)) (idAt' l (atV l nd.par)) = true)) : goT r (f + 1) l (k : Int) = l.set k (rdyN l nd r) := by
  have hkk : ¬ ((k : Int) < 0 ∨ nd.rdy = r) := by rintro (h | h); omega; exact hr h
  simp only [goT,Int.toNat_natCast,hn]
  rw [if_neg hkk,if_pos h]
theorem goT_on {r : Bool} {f : Nat} {l : List Nd} {k : Nat} {nd : Nd} (hn : l[k]? = some nd) (hr : nd.rdy ≠ r) (h : ¬ (atV l nd.par < 0 ∨ (r = false ∧ someT (l.set k (rdyN l nd r)) (idAt' l (atV l nd.par)) = true))) : goT r (f + 1) l (k : Int) = goT r f (l.set k (rdyN l nd r)) (atV l nd.par) := by
  have hkk : ¬ ((k : Int) < 0 ∨ nd.rdy = r) := by rintro (h | h); omega; exact hr h
  simp only [goT,Int.toNat_natCast,hn]
  rw [if_neg hkk,if_neg h]
theorem steps_on {f : Nat} {l : List Nd} {k : Nat} {nd : Nd} (hn : l[k]? = some nd) (hs : TSteps l (f + 1) (k : Int)) : TSteps l f (atV l nd.par) := by
  have := hs.2
  simpa [parAt,hn] using this
end Go.Proofs.YtocicffmajbecaaGreatDoor
namespace Go.Proofs.YtocicffmajbecaaGreatDoor
open Go.RowKit
set_option linter.unusedSimpArgs false
theorem node_at {l : List Nd} {k : Int} (h0 : 0 ≤ k) (h1 : k < l.length) : ∃ (j : Nat) (nd : Nd),k = j ∧ l[j]? = some nd := ⟨k.toNat,l[k.toNat]'(by omega),by omega,List.getElem?_eq_getElem _⟩
set_option maxRecDepth 100000 in
set_option maxHeartbeats 2000000 in
theorem tready13 {base x : Nat} {v : Value} {l : List Nd} {w : World} (h : Tq base x v l w) (id : Int) (r : Bool) (hk : atV l id = -1) :
    Calls Tryz.prog 41 #[.pointer (some ⟨x,0,none⟩),.int .i64 id,.bool r] w (TGoes base x v 13 l w) := by
  have H := hid h
  have HK := hid hk
  clear h hk
  go_enter Tryz.func41,Tryz.ntmps41
  go_wp2_with (go_at_call 66; (with_reducible refine (tat_to HK.out (H.out.ext ext_by)).yields ?_); intro q1)
  go_returns
  exact TGoes.still H.out (by simp) ext_by
set_option maxRecDepth 100000 in
set_option maxHeartbeats 2000000 in
theorem tready13g {base x : Nat} {v : Value} {l : List Nd} {w : World} (h : Tq base x v l w) (id : Int) (r : Bool) {k0 : Nat} {nd0 : Nd} (hk : atV l id = (k0 : Int)) (hn0 : l[k0]? = some nd0) (ht : nd0.thr = false) :
    Calls Tryz.prog 41 #[.pointer (some ⟨x,0,none⟩),.int .i64 id,.bool r] w (TGoes base x v 13 l w) := by
  obtain ⟨p,cap,rfl,hc1,hc2,hp0,hp1⟩ := h.row.slice
  obtain ⟨a,rfl⟩ : ∃ a,p = some a := by
    cases p with
    | none => have e := (hp0 rfl).1; rw [e] at hn0; simp at hn0
    | some a => exact ⟨a,rfl⟩
  obtain ⟨g,rfl,hg,hgl⟩ := hp1 a rfl
  unfold maxLen at hc2
  have hpl : (k0 : Int) < l.length := by have := (List.getElem?_eq_some_iff.1 hn0).1; omega
  have hx := h.lt
  have c0 := h.cell
  obtain ⟨-,-,-,-,e4,-,-⟩ := h.row.node hn0
  rw [ht] at e4
  clear hp0 hp1
  have H := hid h
  have HK := hid hk
  clear h hk
  go_enter Tryz.func41,Tryz.ntmps41
  go_wp2_with (go_at_call 66; (with_reducible refine (tat_to HK.out (H.out.ext ext_by)).yields ?_); intro q1)
  go_returns
  exact TGoes.still H.out (by simp) ext_by
theorem tsome_to {base x : Nat} {v : Value} {l : List Nd} {w : World} {id : Int} {r : Bool} (e : someT l id = r) (h : Tq base x v l w) :
    Calls Tryz.prog 71 #[.pointer (some ⟨x,0,none⟩),.int .i64 id] w (Yields w (.bool r)) := e ▸ tsome_any h id
set_option maxRecDepth 100000 in
set_option maxHeartbeats 4000000 in
theorem tready_true {base x : Nat} {v : Value} {l : List Nd} {w : World} (h : Tq base x v l w) (hb : base ≤ w.heap.size) (id : Int) {k0 : Nat} {nd0 : Nd} (hk : atV l id = (k0 : Int)) (hn0 : l[k0]? = some nd0) (ht : nd0.thr = true) (n : Nat) (hs : TSteps l n (k0 : Int)) (hl : l.length ≤ 1000) :
    Calls Tryz.prog 41 #[.pointer (some ⟨x,0,none⟩),.int .i64 id,.bool true] w (TGoes base x v 0 (goT true n l (k0 : Int)) w) := by
  obtain ⟨p,cap,rfl,hc1,hc2,hp0,hp1⟩ := h.row.slice
  obtain ⟨a,rfl⟩ : ∃ a,p = some a := by
    cases p with
    | none => have e := (hp0 rfl).1; rw [e] at hn0; simp at hn0
    | some a => exact ⟨a,rfl⟩
  obtain ⟨g,rfl,hg,hgl⟩ := hp1 a rfl
  unfold maxLen at hc2
  have hpl : (k0 : Int) < l.length := by have := (List.getElem?_eq_some_iff.1 hn0).1; omega
  have hx := h.lt
  have c0 := h.cell
  obtain ⟨-,-,-,-,e4,-,-⟩ := h.row.node hn0
  rw [ht] at e4
  clear hp0 hp1
  have H := hid h
  have HK := hid hk
  have HS := hid hs
  have HB := hid hb
  have hl0 : 0 < l.length := by omega
  have HSR := hid (fun (W : World) (hX : Ext w W) => NRow.src (h.ext hX).row 0 l [] (by simp))
  clear h hk hs hb hn0 ht
  go_enter Tryz.func41,Tryz.ntmps41
  go_upto_block 0 with (first
    | (go_at_call 66; (with_reducible refine (tat_to HK.out (H.out.ext ext_by)).yields ?_); intro q1)
    | (at_builtin; refine wpList_append_sl rfl (.const (.slice none 0 0)) (.tmp 30) 109 113 (.agg #[.int .i64 0,.int .i64 0,.int .i64 0,.int .i64 0,.bool false,.bool false,.int .i64 0]) 7 48 rfl Tryz.underlying109 infoNd rfl (by decide) (World.ownsRow_nil (more w q1) (more w q1).heap.size _ _) (news := l.flatMap ndc) rfl rfl (flat_length ndc_length l) (by intro j u hj; have := HSR.out (more w q1) (ext_more w q1) j u hj; simpa using this) (ndc_oneAll _) (by unfold maxLen; omega) (by omega) (Nat.le_refl _) ?_; intro p1 cc1 w1 ho1 hb1; have d0 : w1.cell? ⟨x,0,none⟩ = some (.slice (some ⟨g,0,none⟩) l.length cap) := Ext.cell ⟨hb1⟩ (more_cell c0 q1); have f0 : w1.frozen? ⟨x,0,none⟩ = false := ((H.out.ext (ext_more w q1)).ext ⟨hb1⟩).free; have hxl : x < w1.heap.size := World.block_lt_of_cell? _ _ d0; have HO1 := hid ho1; have HB1 := hid hb1; clear ho1 hb1))
  obtain ⟨g2,hp1,hT2,hM2⟩ := (H.out.ext (ext_more w q1)).copied (by have := (ext_more w q1).size; have := HB.out; omega) HO1.out HB1.out hl0
  subst hp1
  have HT2 := hid hT2
  have HM2 := hid ((Mv.of_ext (x := x) (v := .slice (some ⟨g,0,none⟩) l.length cap) (ext_more w q1)).trans hM2)
  clear hT2 hM2 d0 f0 hxl HO1 HB1 c0 e4 hx hg hgl hc1 hc2
  (try rw [Nat.zero_add])
  (try simp only [Nat.zero_add])
  generalize w1.setCell ⟨x,0,none⟩ (.slice (some ⟨g2,0,none⟩) l.length cc1) = v2 at *
  clear w1 q1
  have HC2 : Hid (cc1 ≤ 9223372036854775807) := by obtain ⟨p,c,e,-,h1,-⟩ := HT2.out.row.slice; injection e with _ _ e; unfold maxLen at h1; unfold Hid; omega
  go_wp2
  go_loopg [7,8] n (fun gg s7 s8 wr => ∃ (f : Nat) (k : Int) (lc : List Nd),f = gg ∧ s7 = .int .i64 k ∧ k < l.length ∧ -1 ≤ k ∧ lc.length = l.length ∧ Hid (TSteps lc f k ∧ goT true f lc k = goT true n l (k0 : Int)) ∧ Hid (Tq base x (.slice (some ⟨g2,0,none⟩) lc.length cc1) lc wr ∧ Mv x (.slice (some ⟨g,0,none⟩) l.length cap) (.slice (some ⟨g2,0,none⟩) lc.length cc1) w wr))
  case atStart => exact ⟨n,(k0 : Int),l,rfl,rfl,hpl,by omega,rfl,⟨HS.out,rfl⟩,HT2.out,HM2.out⟩
  case round =>
    obtain ⟨f,k,lc,hfg,rfl,hk1,hk2,hlen,HI,HT⟩ := hrel
    have d0 := HT.out.1.cell
    by_cases hk : 0 ≤ k
    case neg =>
      have HE := hid (goT_low (r := true) HI.out.1 (by omega))
      go_wp2
      go_returns
      refine ⟨by simp,_,?_,HT.out.2⟩
      rw [← HI.out.2,HE.out]; exact HT.out.1
    obtain ⟨j,nd,rfl,hnd⟩ := node_at hk (show k < lc.length by omega)
    obtain ⟨q,hq⟩ : ∃ q,f = q + 1 := by
      cases hg : f with
      | zero => have := HI.out.1; rw [hg] at this; exact absurd this (by simp only [TSteps]; omega)
      | succ q => exact ⟨q,rfl⟩
    have HGQ := hid (show q < f by omega)
    rw [hfg] at HGQ
    subst hq
    clear hfg
    have hj1 : (j : Int) < lc.length := by omega
    have hj2 : (j : Int) < l.length := by omega
    obtain ⟨-,e1,-,e3,-,e5,-⟩ := HT.out.1.row.node hnd
    have g5 : wr.frozen? ⟨g2,j * 7 + 5,none⟩ = false := HT.out.1.row.free
    have hg2 : g2 < wr.heap.size := World.block_lt_of_cell? _ _ e1
    have hxr : x < wr.heap.size := World.block_lt_of_cell? _ _ d0
    by_cases hrd : nd.rdy = true
    · have HE := hid (goT_same (r := true) (f := q) hnd hrd)
      rw [hrd] at e5
      go_wp2
      go_returns
      refine ⟨by simp,_,?_,HT.out.2⟩
      rw [← HI.out.2,HE.out]; exact HT.out.1
    have hrd' : nd.rdy = false := by revert hrd; cases nd.rdy <;> intro hrd <;> first | rfl | exact absurd rfl hrd
    rw [hrd'] at e5
    have HND := hid hnd
    have HRD := hid hrd
    have HRF := hid hrd'
    have HSO := hid (steps_on hnd HI.out.1)
    obtain ⟨pk,hpk⟩ : ∃ pk,atV lc nd.par = pk := ⟨_,rfl⟩
    have HPK := hid hpk
    have hpb : -1 ≤ pk ∧ pk < lc.length := by rw [← hpk]; exact atV_bounds lc nd.par
    clear hnd hrd hrd' hpk
    have HT1 := hid HT.out.1
    have HM1 := hid HT.out.2
    have HNO : Hid (0 ≤ pk → ¬ (atV lc nd.par < 0 ∨ (true = false ∧ someT (lc.set j (rdyN lc nd true)) (idAt' lc (atV lc nd.par)) = true))) := fun h => by rw [HPK.out]; rintro (h2 | h2); omega; cases h2.1
    by_cases hp0 : 0 ≤ pk
    · obtain ⟨jp,pn,rfl,hpn⟩ := node_at hp0 hpb.2
      have HNO := hid (HNO.out hp0)
      have HPN := hid hpn
      have HRN : Hid (rdyN lc nd true = { nd with pass := max nd.pass pn.now,rdy := true }) := by
        unfold Hid rdyN
        rw [HPK.out,if_pos ⟨rfl,by omega⟩]
        simp only [nowAt,Int.toNat_natCast,HPN.out]
      clear hpn
      go_upto_region 8 with (go_at_call 66; (with_reducible refine (tat_to HPK.out (HT1.out.ext ext_by)).yields ?_); intro q1)
      clear d0 e1 e3 e5 g5 hg2 hxr
      refine wp_meet (MxPost base x g2 cc1 (j : Nat) (jp : Nat) (lc.set j { nd with pass := max nd.pass pn.now }) (more wr q1) _ _ _ _ _ _ _ _ _ _ _ _ _ _ _ _ _ _ _ _ _ _ _ _ _ _ _ _ _ _ _ _ _ _ _ _ _ _ _ _ _ _ _ _ _ _ _ _ _ _ _ _ _ _ _ _ _ _ _ _ _ _ _ _ _ _ _ _ _ _ _ _ _ _ _ _ _ _ _ _ _ _ _ _ _ _ _ _ _ _ _) (by have ht := (HT1.out.ext (ext_more wr q1)); have hh := @tmax base x g2 cc1 j jp lc nd pn (more wr q1) ht HND.out HPN.out; exact hh _ _ _ _ _ _ _ _ _ _ _ _ _ _ _ _ _ _ _ _ _ _ _ _ _ _ _ _ _ _ _ _ _ _ _ _ _ _ _ _ _ _ _ _ _ _ _ _ _ _ _ _ _ _ _ _ _ _ _ _ _ _ _ _ _ _ _ _ _ _ _ _ _ _ _ _ _ _ _ _ _ _ _ _ _ _ _ _ _ _ _ _ _ _ _ _ _ _ _ _ _ _ _ _ _ _ _ _ _ _ _ _ _ _ _ _ _) ?_
      refine fun a' y => ex8 fun u65 u66 u67 u68 u69 u70 u71 u72 => ex8 fun u73 u74 u75 u76 u77 u78 u79 u80 => ex8 fun u81 u82 u83 u84 u85 u86 u87 u88 => ex2 fun u89 u90 => ?_
      rintro ⟨rfl,ht,hm⟩
      rw [List.length_set] at ht hm
      have HT3 := hid ht
      have HM3 := hid (HM1.out.trans ((Mv.of_ext (ext_more wr q1)).trans hm))
      clear ht hm HT1 HM1
      have hnd3 : (lc.set j { nd with pass := max nd.pass pn.now })[j]? = some { nd with pass := max nd.pass pn.now } := by rw [List.getElem?_set_self (by omega)]
      have HND3 := hid hnd3
      clear hnd3
      have d0 := HT3.out.cell
      have e5 : y.cell? ⟨g2,j * 7 + 5,none⟩ = some (.bool false) := by
        have h3 := HT3.out.row
        have := (NRow.node (l := lc.set j { nd with pass := max nd.pass pn.now }) (by rw [List.length_set]; exact h3) HND3.out).2.2.2.2.2.1
        rw [this,HRF.out]
      have g5 : y.frozen? ⟨g2,j * 7 + 5,none⟩ = false := NRow.free (l := lc.set j { nd with pass := max nd.pass pn.now }) (cap := cc1) (by rw [List.length_set]; exact HT3.out.row)
      have hg2 : g2 < y.heap.size := World.block_lt_of_cell? _ _ e5
      have hxr : x < y.heap.size := World.block_lt_of_cell? _ _ d0
      go_upto_region 10 with (fail)
      have HT4 : Hid (Tq base x (.slice (some ⟨g2,0,none⟩) lc.length cc1) (lc.set j (rdyN lc nd true)) (y.setCell ⟨g2,j * 7 + 5,none⟩ (.bool true))) := by
        have h3 : Tq base x (.slice (some ⟨g2,0,none⟩) (lc.set j { nd with pass := max nd.pass pn.now }).length cc1) (lc.set j { nd with pass := max nd.pass pn.now }) y := by rw [List.length_set]; exact HT3.out
        have := h3.setAt (n' := rdyN lc nd true) (j := 5) (u := .bool true) HND3.out (by omega) (by rw [HRN.out]; rfl)
        rw [List.set_set,List.length_set] at this
        exact this
      have HM4 := hid (HM3.out.setG (g := g2) rfl (j * 7 + 5) (.bool true))
      clear HT3 HM3 d0 e5 g5 hg2 hxr HND3
      generalize y.setCell ⟨g2,j * 7 + 5,none⟩ (.bool true) = y2 at *
      go_wp2
      go_roundg q
      case measure => exact HGQ.out
      case rel => exact ⟨q,_,lc.set j (rdyN lc nd true),rfl,rfl,by omega,by omega,by rw [List.length_set]; exact hlen,⟨(steps_skel (skel_set (n' := rdyN lc nd true) HND.out rfl rfl) q (jp : Int)).2 (by have h9 := HSO.out; rw [HPK.out] at h9; exact h9),by rw [← HI.out.2,goT_on HND.out HRD.out (by simpa using HNO.out),HPK.out]⟩,by rw [List.length_set]; exact ⟨HT4.out,HM4.out⟩⟩
    · have HEN : Hid (atV lc nd.par < 0 ∨ (true = false ∧ someT (lc.set j (rdyN lc nd true)) (idAt' lc (atV lc nd.par)) = true)) := Or.inl (by rw [HPK.out]; omega)
      have HRN : Hid (ndc (rdyN lc nd true) = (ndc nd).set 5 (.bool true)) := by
        unfold Hid rdyN
        rw [HPK.out,if_neg (by omega)]
        rfl
      clear HNO
      go_upto_region 9 with (go_at_call 66; (with_reducible refine (tat_to HPK.out (HT1.out.ext ext_by)).yields ?_); intro q1)
      have d1 := more_cell d0 q1
      have e51 := more_cell e5 q1
      have g51 : (more wr q1).frozen? ⟨g2,j * 7 + 5,none⟩ = false := (HT1.out.ext (ext_more wr q1)).row.free
      have HT3 := hid (HT1.out.ext (ext_more wr q1))
      have HM3 := hid (HM1.out.trans (Mv.of_ext (ext_more wr q1)))
      clear HT1 HM1 d0 e1 e3 e5 g5 hg2 hxr
      generalize more wr q1 = y at *
      have hg2 : g2 < y.heap.size := World.block_lt_of_cell? _ _ e51
      have hxr : x < y.heap.size := World.block_lt_of_cell? _ _ d1
      go_upto_region 10 with (fail)
      have HT4 : Hid (Tq base x (.slice (some ⟨g2,0,none⟩) lc.length cc1) (lc.set j (rdyN lc nd true)) (y.setCell ⟨g2,j * 7 + 5,none⟩ (.bool true))) := by
        have := HT3.out.setAt (n' := rdyN lc nd true) (j := 5) (u := .bool true) HND.out (by omega) HRN.out
        rw [List.length_set] at this
        exact this
      have HM4 := hid (HM3.out.setG (g := g2) rfl (j * 7 + 5) (.bool true))
      clear HT3 HM3 d1 e51 g51 hg2 hxr
      generalize y.setCell ⟨g2,j * 7 + 5,none⟩ (.bool true) = y2 at *
      go_wp2
      go_returns
      refine ⟨by simp,_,?_,HM4.out⟩
      rw [← HI.out.2,goT_end HND.out HRD.out (by simpa using HEN.out)]; exact HT4.out
set_option maxRecDepth 100000 in
set_option maxHeartbeats 4000000 in
theorem tready_false {base x : Nat} {v : Value} {l : List Nd} {w : World} (h : Tq base x v l w) (hb : base ≤ w.heap.size) (id : Int) {k0 : Nat} {nd0 : Nd} (hk : atV l id = (k0 : Int)) (hn0 : l[k0]? = some nd0) (ht : nd0.thr = true) (n : Nat) (hs : TSteps l n (k0 : Int)) (hl : l.length ≤ 1000) :
    Calls Tryz.prog 41 #[.pointer (some ⟨x,0,none⟩),.int .i64 id,.bool false] w (TGoes base x v 0 (goT false n l (k0 : Int)) w) := by
  obtain ⟨p,cap,rfl,hc1,hc2,hp0,hp1⟩ := h.row.slice
  obtain ⟨a,rfl⟩ : ∃ a,p = some a := by
    cases p with
    | none => have e := (hp0 rfl).1; rw [e] at hn0; simp at hn0
    | some a => exact ⟨a,rfl⟩
  obtain ⟨g,rfl,hg,hgl⟩ := hp1 a rfl
  unfold maxLen at hc2
  have hpl : (k0 : Int) < l.length := by have := (List.getElem?_eq_some_iff.1 hn0).1; omega
  have hx := h.lt
  have c0 := h.cell
  obtain ⟨-,-,-,-,e4,-,-⟩ := h.row.node hn0
  rw [ht] at e4
  clear hp0 hp1
  have H := hid h
  have HK := hid hk
  have HS := hid hs
  have HB := hid hb
  have hl0 : 0 < l.length := by omega
  have HSR := hid (fun (W : World) (hX : Ext w W) => NRow.src (h.ext hX).row 0 l [] (by simp))
  clear h hk hs hb hn0 ht
  go_enter Tryz.func41,Tryz.ntmps41
  go_upto_block 0 with (first
    | (go_at_call 66; (with_reducible refine (tat_to HK.out (H.out.ext ext_by)).yields ?_); intro q1)
    | (at_builtin; refine wpList_append_sl rfl (.const (.slice none 0 0)) (.tmp 30) 109 113 (.agg #[.int .i64 0,.int .i64 0,.int .i64 0,.int .i64 0,.bool false,.bool false,.int .i64 0]) 7 48 rfl Tryz.underlying109 infoNd rfl (by decide) (World.ownsRow_nil (more w q1) (more w q1).heap.size _ _) (news := l.flatMap ndc) rfl rfl (flat_length ndc_length l) (by intro j u hj; have := HSR.out (more w q1) (ext_more w q1) j u hj; simpa using this) (ndc_oneAll _) (by unfold maxLen; omega) (by omega) (Nat.le_refl _) ?_; intro p1 cc1 w1 ho1 hb1; have d0 : w1.cell? ⟨x,0,none⟩ = some (.slice (some ⟨g,0,none⟩) l.length cap) := Ext.cell ⟨hb1⟩ (more_cell c0 q1); have f0 : w1.frozen? ⟨x,0,none⟩ = false := ((H.out.ext (ext_more w q1)).ext ⟨hb1⟩).free; have hxl : x < w1.heap.size := World.block_lt_of_cell? _ _ d0; have HO1 := hid ho1; have HB1 := hid hb1; clear ho1 hb1))
  obtain ⟨g2,hp1,hT2,hM2⟩ := (H.out.ext (ext_more w q1)).copied (by have := (ext_more w q1).size; have := HB.out; omega) HO1.out HB1.out hl0
  subst hp1
  have HT2 := hid hT2
  have HM2 := hid ((Mv.of_ext (x := x) (v := .slice (some ⟨g,0,none⟩) l.length cap) (ext_more w q1)).trans hM2)
  clear hT2 hM2 d0 f0 hxl HO1 HB1 c0 e4 hx hg hgl hc1 hc2
  (try rw [Nat.zero_add])
  (try simp only [Nat.zero_add])
  generalize w1.setCell ⟨x,0,none⟩ (.slice (some ⟨g2,0,none⟩) l.length cc1) = v2 at *
  clear w1 q1
  have HC2 : Hid (cc1 ≤ 9223372036854775807) := by obtain ⟨p,c,e,-,h1,-⟩ := HT2.out.row.slice; injection e with _ _ e; unfold maxLen at h1; unfold Hid; omega
  go_wp2
  go_loopg [7,8] n (fun gg s7 s8 wr => ∃ (f : Nat) (k : Int) (lc : List Nd),f = gg ∧ s7 = .int .i64 k ∧ k < l.length ∧ -1 ≤ k ∧ lc.length = l.length ∧ Hid (TSteps lc f k ∧ goT false f lc k = goT false n l (k0 : Int)) ∧ Hid (Tq base x (.slice (some ⟨g2,0,none⟩) lc.length cc1) lc wr ∧ Mv x (.slice (some ⟨g,0,none⟩) l.length cap) (.slice (some ⟨g2,0,none⟩) lc.length cc1) w wr))
  case atStart => exact ⟨n,(k0 : Int),l,rfl,rfl,hpl,by omega,rfl,⟨HS.out,rfl⟩,HT2.out,HM2.out⟩
  case round =>
    obtain ⟨f,k,lc,hfg,rfl,hk1,hk2,hlen,HI,HT⟩ := hrel
    have d0 := HT.out.1.cell
    by_cases hk : 0 ≤ k
    case neg =>
      have HE := hid (goT_low (r := false) HI.out.1 (by omega))
      go_wp2
      go_returns
      refine ⟨by simp,_,?_,HT.out.2⟩
      rw [← HI.out.2,HE.out]; exact HT.out.1
    obtain ⟨j,nd,rfl,hnd⟩ := node_at hk (show k < lc.length by omega)
    obtain ⟨q,hq⟩ : ∃ q,f = q + 1 := by
      cases hg : f with
      | zero => have := HI.out.1; rw [hg] at this; exact absurd this (by simp only [TSteps]; omega)
      | succ q => exact ⟨q,rfl⟩
    have HGQ := hid (show q < f by omega)
    rw [hfg] at HGQ
    subst hq
    clear hfg
    have hj1 : (j : Int) < lc.length := by omega
    have hj2 : (j : Int) < l.length := by omega
    obtain ⟨-,e1,-,e3,-,e5,-⟩ := HT.out.1.row.node hnd
    have g5 : wr.frozen? ⟨g2,j * 7 + 5,none⟩ = false := HT.out.1.row.free
    have hg2 : g2 < wr.heap.size := World.block_lt_of_cell? _ _ e1
    have hxr : x < wr.heap.size := World.block_lt_of_cell? _ _ d0
    by_cases hrd : nd.rdy = false
    · have HE := hid (goT_same (r := false) (f := q) hnd hrd)
      rw [hrd] at e5
      go_wp2
      go_returns
      refine ⟨by simp,_,?_,HT.out.2⟩
      rw [← HI.out.2,HE.out]; exact HT.out.1
    have hrd' : nd.rdy = true := by revert hrd; cases nd.rdy <;> intro hrd <;> first | rfl | exact absurd rfl hrd
    rw [hrd'] at e5
    have HND := hid hnd
    have HRD := hid hrd
    have HRF := hid hrd'
    have HSO := hid (steps_on hnd HI.out.1)
    obtain ⟨pk,hpk⟩ : ∃ pk,atV lc nd.par = pk := ⟨_,rfl⟩
    have HPK := hid hpk
    have hpb : -1 ≤ pk ∧ pk < lc.length := by rw [← hpk]; exact atV_bounds lc nd.par
    clear hnd hrd hrd' hpk
    have HT1 := hid HT.out.1
    have HM1 := hid HT.out.2
    go_upto_region 9 with (go_at_call 66; (with_reducible refine (tat_to HPK.out (HT1.out.ext ext_by)).yields ?_); intro q1)
    have d1 := more_cell d0 q1
    have e51 := more_cell e5 q1
    have g51 : (more wr q1).frozen? ⟨g2,j * 7 + 5,none⟩ = false := (HT1.out.ext (ext_more wr q1)).row.free
    have HT3 := hid (HT1.out.ext (ext_more wr q1))
    have HM3 := hid (HM1.out.trans (Mv.of_ext (ext_more wr q1)))
    clear HT1 HM1 d0 e1 e3 e5 g5 hg2 hxr
    generalize more wr q1 = y at *
    have hg2 : g2 < y.heap.size := World.block_lt_of_cell? _ _ e51
    have hxr : x < y.heap.size := World.block_lt_of_cell? _ _ d1
    go_upto_region 10 with (fail)
    have HT4 : Hid (Tq base x (.slice (some ⟨g2,0,none⟩) lc.length cc1) (lc.set j (rdyN lc nd false)) (y.setCell ⟨g2,j * 7 + 5,none⟩ (.bool false))) := by
      have := HT3.out.setAt (n' := rdyN lc nd false) (j := 5) (u := .bool false) HND.out (by omega) (by simp [rdyN,ndc])
      rw [List.length_set] at this
      exact this
    have HM4 := hid (HM3.out.setG (g := g2) rfl (j * 7 + 5) (.bool false))
    clear HT3 HM3 d1 e51 g51 hg2 hxr
    generalize y.setCell ⟨g2,j * 7 + 5,none⟩ (.bool false) = y2 at *
    by_cases hp0 : 0 ≤ pk
    · obtain ⟨jp,pn,rfl,hpn⟩ := node_at hp0 (show pk < (lc.set j (rdyN lc nd false)).length by rw [List.length_set]; exact hpb.2)
      have d2 := HT4.out.cell
      obtain ⟨e0,-⟩ := NRow.node (l := lc.set j (rdyN lc nd false)) (cap := cc1) (by rw [List.length_set]; exact HT4.out.row) hpn
      have HID : Hid (idAt' lc (atV lc nd.par) = pn.id) := by
        have h1 := skel_get (skel_set (l := lc) (n' := rdyN lc nd false) HND.out rfl rfl) jp
        rw [hpn] at h1
        unfold Hid idAt'
        rw [HPK.out,Int.toNat_natCast]
        cases h2 : lc[jp]? with
        | none => rw [h2] at h1; cases h1
        | some m => rw [h2] at h1; simp at h1; exact h1.1.symm
      clear hpn
      have hj3 : (jp : Int) < lc.length := hpb.2
      cases hso : someT (lc.set j (rdyN lc nd false)) pn.id
      · have HSO2 := hid hso
        have HNO : Hid (¬ (atV lc nd.par < 0 ∨ (false = false ∧ someT (lc.set j (rdyN lc nd false)) (idAt' lc (atV lc nd.par)) = true))) := by
          rintro (h2 | h2)
          · rw [HPK.out] at h2; omega
          · have h3 := h2.2; rw [HID.out,HSO2.out] at h3; cases h3
        clear hso
        go_wp2_with (go_at_call 71; (with_reducible refine (tsome_to HSO2.out (HT4.out.ext ext_by)).yields ?_); intro q2)
        go_roundg q
        case measure => exact HGQ.out
        case rel => exact ⟨q,_,lc.set j (rdyN lc nd false),rfl,rfl,by omega,by omega,by rw [List.length_set]; exact hlen,⟨(steps_skel (skel_set (n' := rdyN lc nd false) HND.out rfl rfl) q (jp : Int)).2 (by have h9 := HSO.out; rw [HPK.out] at h9; exact h9),by rw [← HI.out.2,goT_on HND.out HRD.out (by simpa using HNO.out),HPK.out]⟩,by rw [List.length_set]; exact ⟨HT4.out.ext (ext_more _ _),HM4.out.ext (ext_more _ _)⟩⟩
      · have HSO2 := hid hso
        have HEN : Hid (atV lc nd.par < 0 ∨ (false = false ∧ someT (lc.set j (rdyN lc nd false)) (idAt' lc (atV lc nd.par)) = true)) := Or.inr ⟨rfl,by rw [HID.out]; exact HSO2.out⟩
        clear hso
        go_wp2_with (go_at_call 71; (with_reducible refine (tsome_to HSO2.out (HT4.out.ext ext_by)).yields ?_); intro q2)
        go_returns
        refine ⟨by simp,_,?_,HM4.out.ext (ext_more _ _)⟩
        rw [← HI.out.2,goT_end HND.out HRD.out (by simpa using HEN.out)]; exact HT4.out.ext (ext_more _ _)
    · have HEN : Hid (atV lc nd.par < 0 ∨ (false = false ∧ someT (lc.set j (rdyN lc nd false)) (idAt' lc (atV lc nd.par)) = true)) := Or.inl (by rw [HPK.out]; omega)
      go_wp2
      go_returns
      refine ⟨by simp,_,?_,HM4.out⟩
      rw [← HI.out.2,goT_end HND.out HRD.out (by simpa using HEN.out)]; exact HT4.out
end Go.Proofs.YtocicffmajbecaaGreatDoor
namespace Go.Proofs.YtocicffmajbecaaGreatDoor
open Go.RowKit
set_option linter.unusedSimpArgs false
def DelPost (base x : Nat) (v : Value) (l : List Nd) (z : World) (a' : Act) (y : World) : Prop :=
  ∃ (v' : Value) (u1 u2 u3 u4 u5 u6 u7 u8 u9 u10 u11 u12 u13 u14 u15 u16 u17 u18 u19 u20 u21 u22 u23 u24 u25 u26 u27 u28 u29 u30 u31 u32 u33 u34 u35 u36 u37 u38 u39 u40 u41 u42 u43 u44 u45 u46 u47 u48 u49 u50 u51 u52 u53 u54 u55 u56 u57 u58 u59 u60 u61 u62 u63 u64 u65 : Value),a' = { tmps := #[.pointer (some ⟨x,0,none⟩),u1,u2,u3,u4,u5,u6,u7,u8,u9,u10,u11,u12,u13,u14,u15,u16,u17,u18,u19,u20,u21,u22,u23,u24,u25,u26,u27,u28,u29,u30,u31,u32,u33,u34,u35,u36,u37,u38,u39,u40,u41,u42,u43,u44,u45,u46,u47,u48,u49,u50,u51,u52,u53,u54,u55,u56,u57,u58,u59,u60,u61,u62,u63,u64,u65],defers := [] } ∧ Tq base x v' l y ∧ Mv x v v' z y
set_option maxRecDepth 100000 in
set_option maxHeartbeats 4000000 in
theorem tdelA {base x g cap k : Nat} {l : List Nd} {z : World} (h : Tq base x (.slice (some ⟨g,0,none⟩) l.length cap) l z) (hb : base ≤ z.heap.size) (hk : k < l.length) (hl : l.length ≤ 1000) (hck : cap = k + 1) (u1 u2 u3 u4 u6 u7 u8 u9 u10 u11 u12 u13 u14 u15 u16 u17 u18 u19 u20 u21 u22 u23 u24 u25 u26 u27 u28 u29 u30 u31 u32 u33 u34 u35 u36 u37 u38 u39 u40 u41 u42 u43 u44 u45 u46 u47 u48 u49 u50 u51 u52 u53 u54 u55 u56 u57 u58 u59 u60 u61 u62 u63 u64 u65 : Value) :
    (bodyAt Tryz.f56 [1,1,1,1,1,0]).wp Tryz.prog (Ends (DelPost base x (.slice (some ⟨g,0,none⟩) l.length cap) (l.take k ++ l.drop (k + 1)) z)) ({ tmps := #[.pointer (some ⟨x,0,none⟩),u1,u2,u3,u4,.int .i64 k,u6,u7,u8,u9,u10,u11,u12,u13,u14,u15,u16,u17,u18,u19,u20,u21,u22,u23,u24,u25,u26,u27,u28,u29,u30,u31,u32,u33,u34,u35,u36,u37,u38,u39,u40,u41,u42,u43,u44,u45,u46,u47,u48,u49,u50,u51,u52,u53,u54,u55,u56,u57,u58,u59,u60,u61,u62,u63,u64,u65],defers := [] }) z := by
  have hcl := h.row.slice
  have hcap : l.length ≤ cap := by obtain ⟨p,c,e,h1,-⟩ := hcl; injection e with _ _ e; omega
  have hcm : cap ≤ 9223372036854775807 := by obtain ⟨p,c,e,-,h1,-⟩ := hcl; injection e with _ _ e; unfold maxLen at h1; omega
  clear hcl
  have HG := hid (And.intro hk (And.intro hl (And.intro hb hcap)))
  have i1 : (k : Int) < l.length := by omega
  have i2 : k ≤ cap := by omega
  have i3 : k + 1 ≤ cap := by omega
  have i4 : k + 1 ≤ l.length := by omega
  have qw : IntKind.i64.wrap ((k : Int) + 1) = (k : Int) + 1 := IntWalk.i64_in _ (by omega)
  have qn : ((k : Int) + 1).toNat = k + 1 := by omega
  have q0 : (0 : Int) ≤ (k : Int) + 1 := by omega
  have q1 : (k : Int) + 1 ≤ l.length := by omega
  have HCK := hid hck
  have q16 : (cap = k + 1) = True := eq_true hck
  clear hck
  unfold bodyAt Tryz.f56
  simp only [codeAt]
  refine wp_region_T 18 1 (fun u => u.cell? ⟨x,0,none⟩ = some (.slice (some ⟨g,0,none⟩) l.length cap)) (by kernel_rfl) (by kernel_rfl) ?_
  have HM0 : Hid (Mv x (.slice (some ⟨g,0,none⟩) l.length cap) (.slice (some ⟨g,0,none⟩) l.length cap) z z.drew) := Mv.of_ext (Ext.drew (Ext.refl z))
  have HT0 := hid (h.ext (Ext.drew (Ext.refl z)))
  have HZ : Hid (z.drew.heap.size = z.heap.size) := rfl
  clear h hb hl
  generalize z.drew = z0 at *
  have HSF : Hid (∀ u,Ext z0 u → u.cell? ⟨x,0,none⟩ = some (.slice (some ⟨g,0,none⟩) l.length cap)) := fun u hu => hu.cell HT0.out.cell
  have HSS := HSF.out z0 (Ext.refl _)
  refine wpT_tk 0 HSS ?_; (try simp only [nrm])
  refine wpT_tk 1 HSS ?_; (try simp only [nrm])
  refine wpT_tk 2 HSS ?_; (try simp only [nrm])
  refine wpT_tk 3 HSS ?_; (try simp only [nrm])
  refine wpT_tk 4 HSS ?_; (try simp only [nrm])
  refine wpT_tk 5 HSS ?_; (try simp only [nrm])
  refine wpT_tk 6 HSS ?_; (try simp only [nrm])
  refine wpT_tk 8 HSS ?_; (try simp only [nrm])
  refine wpT_tk 9 HSS ?_; (try simp only [nrm])
  refine wpT_tk 10 HSS ?_; (try simp only [nrm])
  refine wpT_tk 11 HSS ?_; (try simp only [nrm])
  refine wpT_tk 12 HSS ?_; (try simp only [nrm])
  refine wpT_tk 13 HSS ?_; (try simp only [nrm])
  refine wpT_tk 14 HSS ?_; (try simp only [nrm])
  refine wpT_on 7 (fun K' hK => ?_)
  refine wp_append_sl (.const (.slice none 0 0)) (.tmp 54) 109 113 (.agg #[.int .i64 0,.int .i64 0,.int .i64 0,.int .i64 0,.bool false,.bool false,.int .i64 0]) 7 48 rfl Tryz.underlying109 infoNd rfl (by decide) (World.ownsRow_nil _ z0.heap.size _ _) (news := (l.take k).flatMap ndc) rfl rfl (by rw [flat_length ndc_length,List.length_take,Nat.min_eq_left (Nat.le_of_lt HG.out.1)]) (by intro j u hj; have := NRow.src HT0.out.row 0 (l.take k) (l.drop k) (by simp) j u hj; simpa using this) (ndc_oneAll _) (by unfold maxLen; have := HG.out; omega) (by have := HG.out; omega) (Nat.le_refl _) ?_
  intro r1 v1 ho1 hb1
  have HX1 : Hid (Ext z0 v1) := ⟨hb1⟩
  simp only [List.nil_append,Nat.zero_add] at ho1
  have HO1 := hid ho1
  clear ho1 hb1
  refine hK.out _ _ (HSF.out _ HX1.out) ?_
  clear hK K' HSS
  have HSS := HSF.out _ HX1.out
  (try simp only [nrm])
  refine wpT_on 15 (fun K' hK => ?_)
  have HDR : Hid (l.drop (k + 1) = []) := List.drop_eq_nil_of_le (by have := HG.out; have := HCK.out; omega)
  clear q16
  refine wp_append_sl (.tmp 55) (.tmp 62) 109 113 (.agg #[.int .i64 0,.int .i64 0,.int .i64 0,.int .i64 0,.bool false,.bool false,.int .i64 0]) 7 48 rfl Tryz.underlying109 infoNd rfl (by decide) HO1.out (news := (l.drop (k + 1)).flatMap ndc) rfl rfl (by rw [flat_length ndc_length,List.length_drop]) (by intro j u hj; rw [HDR.out] at hj; simp at hj) (ndc_oneAll _) (by unfold maxLen; have := HG.out; omega) (by have := HG.out; omega) HX1.out.size ?_
  intro r4 v4 ho4 hb4
  obtain ⟨p4,c4,rfl⟩ := owns_shape ho4
  have HX4 : Hid (Ext z0 v4) := ⟨Below.trans HX1.out.below hb4⟩
  have HO4 := hid ho4
  clear ho4 hb4
  refine hK.out _ _ (HSF.out _ HX4.out) ?_
  clear hK K' HSS HX1 HO1
  have HSS := HSF.out _ HX4.out
  (try simp only [nrm])
  refine wpT_tk 16 HSS ?_; (try simp only [nrm])
  refine wpT_tk 17 HSS ?_; (try simp only [nrm])
  refine wpT_done (by kernel_rfl) ?_
  refine wpAny_on 18 (fun K' hK => ?_)
  have g0 := HSS
  have f0 := (HT0.out.ext HX4.out).free
  clear HSS
  go_simp
  refine hK.out _ _ ?_
  (try simp only [nrm])
  refine wpAny_done (by kernel_rfl) ?_ _
  have hrow : NRow v4 z0.heap.size (.slice p4 (k + (l.length - (k + 1))) c4) (l.take k ++ l.drop (k + 1)) := by
    have h4 := HO4.out
    unfold NRow
    rw [List.flatMap_append,show (l.take k ++ l.drop (k + 1)).length = k + (l.length - (k + 1)) by rw [List.length_append,List.length_take,List.length_drop,Nat.min_eq_left (Nat.le_of_lt HG.out.1)]]
    exact h4
  have hm := (Mv.of_ext (x := x) (v := .slice (some ⟨g,0,none⟩) l.length cap) HX4.out).setX 0 (.slice p4 (k + (l.length - (k + 1))) c4)
  have hm2 : Mv x (.slice (some ⟨g,0,none⟩) l.length cap) (.slice p4 (k + (l.length - (k + 1))) c4) z0 (v4.setCell ⟨x,0,none⟩ (.slice p4 (k + (l.length - (k + 1))) c4)) := ⟨hm.os,hm.tape,hm.output,hm.size,hm.block,fun i hi => .inr (hrow.lt i hi).1⟩
  exact ⟨rfl,_,_,_,_,_,_,_,_,_,_,_,_,_,_,_,_,_,_,_,_,_,_,_,_,_,_,_,_,_,_,_,_,_,_,_,_,_,_,_,_,_,_,_,_,_,_,_,_,_,_,_,_,_,_,_,_,_,_,_,_,_,_,_,_,_,_,rfl,Tq.lay (HT0.out.ext HX4.out).blk (hrow.base (by rw [HZ.out]; exact HG.out.2.2.1)),HM0.out.trans hm2⟩
set_option maxRecDepth 100000 in
set_option maxHeartbeats 4000000 in
theorem tdelB {base x g cap k : Nat} {l : List Nd} {z : World} (h : Tq base x (.slice (some ⟨g,0,none⟩) l.length cap) l z) (hb : base ≤ z.heap.size) (hk : k < l.length) (hl : l.length ≤ 1000) (hck : ¬ cap = k + 1) (u1 u2 u3 u4 u6 u7 u8 u9 u10 u11 u12 u13 u14 u15 u16 u17 u18 u19 u20 u21 u22 u23 u24 u25 u26 u27 u28 u29 u30 u31 u32 u33 u34 u35 u36 u37 u38 u39 u40 u41 u42 u43 u44 u45 u46 u47 u48 u49 u50 u51 u52 u53 u54 u55 u56 u57 u58 u59 u60 u61 u62 u63 u64 u65 : Value) :
    (bodyAt Tryz.f56 [1,1,1,1,1,0]).wp Tryz.prog (Ends (DelPost base x (.slice (some ⟨g,0,none⟩) l.length cap) (l.take k ++ l.drop (k + 1)) z)) ({ tmps := #[.pointer (some ⟨x,0,none⟩),u1,u2,u3,u4,.int .i64 k,u6,u7,u8,u9,u10,u11,u12,u13,u14,u15,u16,u17,u18,u19,u20,u21,u22,u23,u24,u25,u26,u27,u28,u29,u30,u31,u32,u33,u34,u35,u36,u37,u38,u39,u40,u41,u42,u43,u44,u45,u46,u47,u48,u49,u50,u51,u52,u53,u54,u55,u56,u57,u58,u59,u60,u61,u62,u63,u64,u65],defers := [] }) z := by
  have hcl := h.row.slice
  have hcap : l.length ≤ cap := by obtain ⟨p,c,e,h1,-⟩ := hcl; injection e with _ _ e; omega
  have hcm : cap ≤ 9223372036854775807 := by obtain ⟨p,c,e,-,h1,-⟩ := hcl; injection e with _ _ e; unfold maxLen at h1; omega
  clear hcl
  have HG := hid (And.intro hk (And.intro hl (And.intro hb hcap)))
  have i1 : (k : Int) < l.length := by omega
  have i2 : k ≤ cap := by omega
  have i3 : k + 1 ≤ cap := by omega
  have i4 : k + 1 ≤ l.length := by omega
  have qw : IntKind.i64.wrap ((k : Int) + 1) = (k : Int) + 1 := IntWalk.i64_in _ (by omega)
  have qn : ((k : Int) + 1).toNat = k + 1 := by omega
  have q0 : (0 : Int) ≤ (k : Int) + 1 := by omega
  have q1 : (k : Int) + 1 ≤ l.length := by omega
  have HCK := hid hck
  have q16 : (cap = k + 1) = False := eq_false hck
  clear hck
  unfold bodyAt Tryz.f56
  simp only [codeAt]
  refine wp_region_T 18 1 (fun u => u.cell? ⟨x,0,none⟩ = some (.slice (some ⟨g,0,none⟩) l.length cap)) (by kernel_rfl) (by kernel_rfl) ?_
  have HM0 : Hid (Mv x (.slice (some ⟨g,0,none⟩) l.length cap) (.slice (some ⟨g,0,none⟩) l.length cap) z z.drew) := Mv.of_ext (Ext.drew (Ext.refl z))
  have HT0 := hid (h.ext (Ext.drew (Ext.refl z)))
  have HZ : Hid (z.drew.heap.size = z.heap.size) := rfl
  clear h hb hl
  generalize z.drew = z0 at *
  have HSF : Hid (∀ u,Ext z0 u → u.cell? ⟨x,0,none⟩ = some (.slice (some ⟨g,0,none⟩) l.length cap)) := fun u hu => hu.cell HT0.out.cell
  have HSS := HSF.out z0 (Ext.refl _)
  refine wpT_tk 0 HSS ?_; (try simp only [nrm])
  refine wpT_tk 1 HSS ?_; (try simp only [nrm])
  refine wpT_tk 2 HSS ?_; (try simp only [nrm])
  refine wpT_tk 3 HSS ?_; (try simp only [nrm])
  refine wpT_tk 4 HSS ?_; (try simp only [nrm])
  refine wpT_tk 5 HSS ?_; (try simp only [nrm])
  refine wpT_tk 6 HSS ?_; (try simp only [nrm])
  refine wpT_tk 8 HSS ?_; (try simp only [nrm])
  refine wpT_tk 9 HSS ?_; (try simp only [nrm])
  refine wpT_tk 10 HSS ?_; (try simp only [nrm])
  refine wpT_tk 11 HSS ?_; (try simp only [nrm])
  refine wpT_tk 12 HSS ?_; (try simp only [nrm])
  refine wpT_tk 13 HSS ?_; (try simp only [nrm])
  refine wpT_tk 14 HSS ?_; (try simp only [nrm])
  refine wpT_on 7 (fun K' hK => ?_)
  refine wp_append_sl (.const (.slice none 0 0)) (.tmp 54) 109 113 (.agg #[.int .i64 0,.int .i64 0,.int .i64 0,.int .i64 0,.bool false,.bool false,.int .i64 0]) 7 48 rfl Tryz.underlying109 infoNd rfl (by decide) (World.ownsRow_nil _ z0.heap.size _ _) (news := (l.take k).flatMap ndc) rfl rfl (by rw [flat_length ndc_length,List.length_take,Nat.min_eq_left (Nat.le_of_lt HG.out.1)]) (by intro j u hj; have := NRow.src HT0.out.row 0 (l.take k) (l.drop k) (by simp) j u hj; simpa using this) (ndc_oneAll _) (by unfold maxLen; have := HG.out; omega) (by have := HG.out; omega) (Nat.le_refl _) ?_
  intro r1 v1 ho1 hb1
  have HX1 : Hid (Ext z0 v1) := ⟨hb1⟩
  simp only [List.nil_append,Nat.zero_add] at ho1
  have HO1 := hid ho1
  clear ho1 hb1
  refine hK.out _ _ (HSF.out _ HX1.out) ?_
  clear hK K' HSS
  have HSS := HSF.out _ HX1.out
  (try simp only [nrm])
  refine wpT_on 15 (fun K' hK => ?_)
  refine wp_append_sl (.tmp 55) (.tmp 62) 109 113 (.agg #[.int .i64 0,.int .i64 0,.int .i64 0,.int .i64 0,.bool false,.bool false,.int .i64 0]) 7 48 rfl Tryz.underlying109 infoNd rfl (by decide) HO1.out (news := (l.drop (k + 1)).flatMap ndc) rfl rfl (by rw [flat_length ndc_length,List.length_drop]) (NRow.src (HT0.out.ext HX1.out).row (k + 1) (l.drop (k + 1)) [] (by simp)) (ndc_oneAll _) (by unfold maxLen; have := HG.out; omega) (by have := HG.out; omega) HX1.out.size ?_
  intro r4 v4 ho4 hb4
  obtain ⟨p4,c4,rfl⟩ := owns_shape ho4
  have HX4 : Hid (Ext z0 v4) := ⟨Below.trans HX1.out.below hb4⟩
  have HO4 := hid ho4
  clear ho4 hb4
  refine hK.out _ _ (HSF.out _ HX4.out) ?_
  clear hK K' HSS HX1 HO1
  have HSS := HSF.out _ HX4.out
  (try simp only [nrm])
  refine wpT_tk 16 HSS ?_; (try simp only [nrm])
  refine wpT_tk 17 HSS ?_; (try simp only [nrm])
  refine wpT_done (by kernel_rfl) ?_
  refine wpAny_on 18 (fun K' hK => ?_)
  have g0 := HSS
  have f0 := (HT0.out.ext HX4.out).free
  clear HSS
  go_simp
  refine hK.out _ _ ?_
  (try simp only [nrm])
  refine wpAny_done (by kernel_rfl) ?_ _
  have hrow : NRow v4 z0.heap.size (.slice p4 (k + (l.length - (k + 1))) c4) (l.take k ++ l.drop (k + 1)) := by
    have h4 := HO4.out
    unfold NRow
    rw [List.flatMap_append,show (l.take k ++ l.drop (k + 1)).length = k + (l.length - (k + 1)) by rw [List.length_append,List.length_take,List.length_drop,Nat.min_eq_left (Nat.le_of_lt HG.out.1)]]
    exact h4
  have hm := (Mv.of_ext (x := x) (v := .slice (some ⟨g,0,none⟩) l.length cap) HX4.out).setX 0 (.slice p4 (k + (l.length - (k + 1))) c4)
  have hm2 : Mv x (.slice (some ⟨g,0,none⟩) l.length cap) (.slice p4 (k + (l.length - (k + 1))) c4) z0 (v4.setCell ⟨x,0,none⟩ (.slice p4 (k + (l.length - (k + 1))) c4)) := ⟨hm.os,hm.tape,hm.output,hm.size,hm.block,fun i hi => .inr (hrow.lt i hi).1⟩
  exact ⟨rfl,_,_,_,_,_,_,_,_,_,_,_,_,_,_,_,_,_,_,_,_,_,_,_,_,_,_,_,_,_,_,_,_,_,_,_,_,_,_,_,_,_,_,_,_,_,_,_,_,_,_,_,_,_,_,_,_,_,_,_,_,_,_,_,_,_,_,rfl,Tq.lay (HT0.out.ext HX4.out).blk (hrow.base (by rw [HZ.out]; exact HG.out.2.2.1)),HM0.out.trans hm2⟩
theorem goT_skel (r : Bool) : ∀ (f : Nat) (l : List Nd) (k : Int),skelT (goT r f l k) = skelT l
  | 0,_,_ => rfl
  | f + 1,l,k => by
    simp only [goT]
    split
    · rename_i nd hn
      have hs : skelT (l.set k.toNat (rdyN l nd r)) = skelT l := skel_set hn rfl rfl
      split
      · rfl
      · split
        · exact hs
        · rw [goT_skel r f]; exact hs
    · rfl
theorem goT_len (r : Bool) (f : Nat) (l : List Nd) (k : Int) : (goT r f l k).length = l.length := skel_len (goT_skel r f l k)
def RmMid (x k0 : Nat) (id : Int) (W1 : World) (a' : Act) (y : World) : Prop := ∃ (u6 : Value) (u2 u3 u4 u7 u8 u9 u10 u11 u12 u13 u14 u15 u16 u17 u18 u19 u20 u21 u22 u23 u24 u25 u26 u27 u28 u29 u30 u31 u32 u33 u34 u35 u36 u37 u38 u39 u40 u41 u42 u43 u44 u45 u46 u47 u48 u49 u50 u51 u52 u53 u54 u55 u56 u57 u58 u59 u60 u61 u62 u63 u64 u65 : Value),a' = { tmps := #[.pointer (some ⟨x,0,none⟩),.int .i64 id,u2,u3,u4,.int .i64 k0,u6,u7,u8,u9,u10,u11,u12,u13,u14,u15,u16,u17,u18,u19,u20,u21,u22,u23,u24,u25,u26,u27,u28,u29,u30,u31,u32,u33,u34,u35,u36,u37,u38,u39,u40,u41,u42,u43,u44,u45,u46,u47,u48,u49,u50,u51,u52,u53,u54,u55,u56,u57,u58,u59,u60,u61,u62,u63,u64,u65],defers := [] } ∧ Ext W1 y
def childB (l : List Nd) (id : Int) : Bool := l.any fun n => n.par == id
def dropT (k : Nat) (l : List Nd) : List Nd := l.take k ++ l.drop (k + 1)
set_option maxRecDepth 100000 in
set_option maxHeartbeats 2000000 in
theorem trem13 {base x : Nat} {v : Value} {l : List Nd} {w : World} (h : Tq base x v l w) (id : Int) {ak : Int} (hk : atV l id = ak) (hid : ak = -1 ∨ (0 ≤ ak ∧ id = 0)) :
    Calls Tryz.prog 56 #[.pointer (some ⟨x,0,none⟩),.int .i64 id] w (TGoes base x v 13 l w) := by
  have H := Go.Proofs.YtocicffmajbecaaGreatDoor.hid h
  have HK := Go.Proofs.YtocicffmajbecaaGreatDoor.hid hk
  clear h hk
  rcases hid with rfl | ⟨ha,rfl⟩
  · go_enter Tryz.func56,Tryz.ntmps56
    go_wp2_with (go_at_call 66; (with_reducible refine (tat_to HK.out (H.out.ext ext_by)).yields ?_); intro q1)
    go_returns
    exact TGoes.still H.out (by simp) ext_by
  · go_enter Tryz.func56,Tryz.ntmps56
    go_wp2_with (go_at_call 66; (with_reducible refine (tat_to HK.out (H.out.ext ext_by)).yields ?_); intro q1)
    go_returns
    exact TGoes.still H.out (by simp) ext_by
set_option maxRecDepth 100000 in
set_option maxHeartbeats 2000000 in
theorem trem10 {base x : Nat} {v : Value} {l : List Nd} {w : World} (h : Tq base x v l w) (id : Int) {k0 : Nat} {nd0 : Nd} (hk : atV l id = (k0 : Int)) (hn0 : l[k0]? = some nd0) (hi : id ≠ 0) (hc : childB l id = true) :
    Calls Tryz.prog 56 #[.pointer (some ⟨x,0,none⟩),.int .i64 id] w (TGoes base x v 10 l w) := by
  obtain ⟨p,cap,rfl,hc1,hc2,hp0,hp1⟩ := h.row.slice
  obtain ⟨a,rfl⟩ : ∃ a,p = some a := by
    cases p with
    | none => have e := (hp0 rfl).1; rw [e] at hn0; simp at hn0
    | some a => exact ⟨a,rfl⟩
  obtain ⟨g,rfl,hg,hgl⟩ := hp1 a rfl
  unfold maxLen at hc2
  have hpl : (k0 : Int) < l.length := by have := (List.getElem?_eq_some_iff.1 hn0).1; omega
  have hx := h.lt
  have c0 := h.cell
  clear hp0 hp1
  have H := Go.Proofs.YtocicffmajbecaaGreatDoor.hid h
  have HK := Go.Proofs.YtocicffmajbecaaGreatDoor.hid hk
  have HC := Go.Proofs.YtocicffmajbecaaGreatDoor.hid hc
  have hi0 : (id == 0) = false := by simpa using hi
  clear h hk hc hn0
  go_enter Tryz.func56,Tryz.ntmps56
  go_upto_block 0 with (go_at_call 66; (with_reducible refine (tat_to HK.out (H.out.ext ext_by)).yields ?_); intro q1)
  have HW1 := Go.Proofs.YtocicffmajbecaaGreatDoor.hid (ext_more w q1)
  have c1 := more_cell c0 q1
  generalize more w q1 = W1 at *
  have hgl1 : g < W1.heap.size := by have := HW1.out.size; omega
  clear c0 hgl
  go_wp2
  go_loopw [6] (fun v6 wr => Ext W1 wr ∧ ∃ k : Nat,v6 = .int .i64 k ∧ k ≤ l.length ∧ Hid ((l.take k).any (fun n => n.par == id) = false)) (fun v6 _ => (l.length - (intOf v6).toNat))
  case atStart => exact ⟨Ext.refl _,0,rfl,Nat.zero_le _,by simp [Hid]⟩
  case round =>
    obtain ⟨X,k,rfl,hk,hno⟩ := hrel
    have d0 := X.cell c1
    by_cases hlt : k < l.length
    · have hn : l[k]? = some l[k] := List.getElem?_eq_getElem hlt
      obtain ⟨-,e1,-⟩ := (H.out.ext HW1.out).row.node hn
      have f1 := X.cell e1
      clear e1
      have HT := Go.Proofs.YtocicffmajbecaaGreatDoor.hid (any_there l (fun n => n.par == id) k hlt)
      have HS := Go.Proofs.YtocicffmajbecaaGreatDoor.hid (any_snoc l (fun n => n.par == id) k hlt hno.out)
      have i1 : (k : Int) < l.length := by omega
      clear hn
      generalize l[k] = nd at *
      cases q0 : nd.par == id
      · go_wp2
        go_roundw
        case rel => exact ⟨X,k + 1,by go_num,by omega,HS.out q0⟩
        case measure => simp [intOf]; omega
      · go_wp2
        go_returns
        exact TGoes.still H.out (by simp) (HW1.out.trans X)
    · have := hno.out
      rw [List.take_of_length_le (by omega)] at this
      have h2 := HC.out
      unfold childB at h2
      rw [this] at h2
      cases h2
set_option maxRecDepth 100000 in
set_option maxHeartbeats 4000000 in
theorem trem0 {base x : Nat} {v : Value} {l : List Nd} {w : World} (h : Tq base x v l w) (hb : base ≤ w.heap.size) (id : Int) {k0 : Nat} {nd0 : Nd} (hk : atV l id = (k0 : Int)) (hn0 : l[k0]? = some nd0) (hi : id ≠ 0) (hc : childB l id = false) (n : Nat) (hs : TSteps l n (k0 : Int)) (hl : l.length ≤ 1000) :
    Calls Tryz.prog 56 #[.pointer (some ⟨x,0,none⟩),.int .i64 id] w (TGoes base x v 0 (dropT k0 (if nd0.thr = true then goT false n l (k0 : Int) else l)) w) := by
  generalize hLR : dropT k0 (if nd0.thr = true then goT false n l (k0 : Int) else l) = LR
  have HLR := Go.Proofs.YtocicffmajbecaaGreatDoor.hid hLR
  clear hLR
  obtain ⟨p,cap,rfl,hc1,hc2,hp0,hp1⟩ := h.row.slice
  obtain ⟨a,rfl⟩ : ∃ a,p = some a := by
    cases p with
    | none => have e := (hp0 rfl).1; rw [e] at hn0; simp at hn0
    | some a => exact ⟨a,rfl⟩
  obtain ⟨g,rfl,hg,hgl⟩ := hp1 a rfl
  unfold maxLen at hc2
  have hpl : (k0 : Int) < l.length := by have := (List.getElem?_eq_some_iff.1 hn0).1; omega
  have hx := h.lt
  have c0 := h.cell
  clear hp0 hp1
  have H := Go.Proofs.YtocicffmajbecaaGreatDoor.hid h
  have HK := Go.Proofs.YtocicffmajbecaaGreatDoor.hid hk
  have HC := Go.Proofs.YtocicffmajbecaaGreatDoor.hid hc
  have HN := Go.Proofs.YtocicffmajbecaaGreatDoor.hid hn0
  have HS := Go.Proofs.YtocicffmajbecaaGreatDoor.hid hs
  have HB := Go.Proofs.YtocicffmajbecaaGreatDoor.hid hb
  have hi0 : (id == 0) = false := by simpa using hi
  clear h hk hc hn0 hs hb
  go_enter Tryz.func56,Tryz.ntmps56
  go_upto_block 0 with (go_at_call 66; (with_reducible refine (tat_to HK.out (H.out.ext ext_by)).yields ?_); intro q1)
  have HW1 := Go.Proofs.YtocicffmajbecaaGreatDoor.hid (ext_more w q1)
  have c1 := more_cell c0 q1
  generalize more w q1 = W1 at *
  have hgl1 : g < W1.heap.size := by have := HW1.out.size; omega
  clear c0 hgl
  refine wp_meet (RmMid x k0 id W1) ?_ ?_
  · go_wp2
    go_loopw [6] (fun v6 wr => Ext W1 wr ∧ ∃ k : Nat,v6 = .int .i64 k ∧ k ≤ l.length ∧ Hid ((l.take k).any (fun n => n.par == id) = false)) (fun v6 _ => (l.length - (intOf v6).toNat))
    case atStart => exact ⟨Ext.refl _,0,rfl,Nat.zero_le _,by simp [Hid]⟩
    case round =>
      obtain ⟨X,k,rfl,hk,hno⟩ := hrel
      have d0 := X.cell c1
      by_cases hlt : k < l.length
      · have hn : l[k]? = some l[k] := List.getElem?_eq_getElem hlt
        obtain ⟨-,e1,-⟩ := (H.out.ext HW1.out).row.node hn
        have f1 := X.cell e1
        clear e1
        have HT := Go.Proofs.YtocicffmajbecaaGreatDoor.hid (any_there l (fun n => n.par == id) k hlt)
        have HS := Go.Proofs.YtocicffmajbecaaGreatDoor.hid (any_snoc l (fun n => n.par == id) k hlt hno.out)
        have i1 : (k : Int) < l.length := by omega
        clear hn
        generalize l[k] = nd at *
        cases q0 : nd.par == id
        · go_wp2
          go_roundw
          case rel => exact ⟨X,k + 1,by go_num,by omega,HS.out q0⟩
          case measure => simp [intOf]; omega
        · have h2 := HT.out q0
          have h3 := HC.out
          unfold childB at h3
          exact absurd h3 (by rw [h2]; exact Bool.noConfusion)
      · go_wp2
        exact ⟨_,_,_,_,_,_,_,_,_,_,_,_,_,_,_,_,_,_,_,_,_,_,_,_,_,_,_,_,_,_,_,_,_,_,_,_,_,_,_,_,_,_,_,_,_,_,_,_,_,_,_,_,_,_,_,_,_,_,_,_,_,_,_,rfl,X⟩
  · refine fun a' y => ex_elim fun u6 => ex8 fun u2 u3 u4 u7 u8 u9 u10 u11 => ex8 fun u12 u13 u14 u15 u16 u17 u18 u19 => ex8 fun u20 u21 u22 u23 u24 u25 u26 u27 => ex8 fun u28 u29 u30 u31 u32 u33 u34 u35 => ex8 fun u36 u37 u38 u39 u40 u41 u42 u43 => ex8 fun u44 u45 u46 u47 u48 u49 u50 u51 => ex8 fun u52 u53 u54 u55 u56 u57 u58 u59 => ex4 fun u60 u61 u62 u63 => ex2 fun u64 u65 => ?_
    rintro ⟨rfl,hy⟩
    have HX2 := Go.Proofs.YtocicffmajbecaaGreatDoor.hid (HW1.out.trans hy)
    have HT2 := Go.Proofs.YtocicffmajbecaaGreatDoor.hid (H.out.ext HX2.out)
    have d0 := HT2.out.cell
    obtain ⟨-,-,-,-,e4,-⟩ := HT2.out.row.node HN.out
    have hgy : g < y.heap.size := World.block_lt_of_cell? _ _ e4
    clear hy c1 hgl1
    cases hth : nd0.thr
    · rw [hth] at e4
      have HTH := Go.Proofs.YtocicffmajbecaaGreatDoor.hid hth
      have HM2 := Go.Proofs.YtocicffmajbecaaGreatDoor.hid (Mv.of_ext (x := x) (v := .slice (some ⟨g,0,none⟩) l.length cap) HX2.out)
      clear hth
      go_upto_region 11 with (fail)
      clear d0 e4 hgy HW1
      by_cases hck : cap = k0 + 1
      · have HCK := Go.Proofs.YtocicffmajbecaaGreatDoor.hid hck
        clear hck
        refine wp_meet (DelPost base x (.slice (some ⟨g,0,none⟩) l.length cap) (dropT k0 l) y) (tdelA HT2.out (by have := HX2.out.size; have := HB.out; omega) (by omega) (by omega) HCK.out _ _ _ _ _ _ _ _ _ _ _ _ _ _ _ _ _ _ _ _ _ _ _ _ _ _ _ _ _ _ _ _ _ _ _ _ _ _ _ _ _ _ _ _ _ _ _ _ _ _ _ _ _ _ _ _ _ _ _ _ _ _ _ _) ?_
        refine fun a' y3 => ex_elim fun v' => ex8 fun u1 u2 u3 u4 u5 u6 u7 u8 => ex8 fun u9 u10 u11 u12 u13 u14 u15 u16 => ex8 fun u17 u18 u19 u20 u21 u22 u23 u24 => ex8 fun u25 u26 u27 u28 u29 u30 u31 u32 => ex8 fun u33 u34 u35 u36 u37 u38 u39 u40 => ex8 fun u41 u42 u43 u44 u45 u46 u47 u48 => ex8 fun u49 u50 u51 u52 u53 u54 u55 u56 => ex8 fun u57 u58 u59 u60 u61 u62 u63 u64 => ex_elim fun u65 => ?_
        rintro ⟨rfl,hT,hM⟩
        have HTT := Go.Proofs.YtocicffmajbecaaGreatDoor.hid hT
        have HMM := Go.Proofs.YtocicffmajbecaaGreatDoor.hid (HM2.out.trans hM)
        clear hT hM
        go_wp2
        go_returns
        exact ⟨by simp,v',by rw [← HLR.out,if_neg (by rw [HTH.out]; decide)]; exact HTT.out,HMM.out⟩
      · have HCK := Go.Proofs.YtocicffmajbecaaGreatDoor.hid hck
        clear hck
        refine wp_meet (DelPost base x (.slice (some ⟨g,0,none⟩) l.length cap) (dropT k0 l) y) (tdelB HT2.out (by have := HX2.out.size; have := HB.out; omega) (by omega) (by omega) HCK.out _ _ _ _ _ _ _ _ _ _ _ _ _ _ _ _ _ _ _ _ _ _ _ _ _ _ _ _ _ _ _ _ _ _ _ _ _ _ _ _ _ _ _ _ _ _ _ _ _ _ _ _ _ _ _ _ _ _ _ _ _ _ _ _) ?_
        refine fun a' y3 => ex_elim fun v' => ex8 fun u1 u2 u3 u4 u5 u6 u7 u8 => ex8 fun u9 u10 u11 u12 u13 u14 u15 u16 => ex8 fun u17 u18 u19 u20 u21 u22 u23 u24 => ex8 fun u25 u26 u27 u28 u29 u30 u31 u32 => ex8 fun u33 u34 u35 u36 u37 u38 u39 u40 => ex8 fun u41 u42 u43 u44 u45 u46 u47 u48 => ex8 fun u49 u50 u51 u52 u53 u54 u55 u56 => ex8 fun u57 u58 u59 u60 u61 u62 u63 u64 => ex_elim fun u65 => ?_
        rintro ⟨rfl,hT,hM⟩
        have HTT := Go.Proofs.YtocicffmajbecaaGreatDoor.hid hT
        have HMM := Go.Proofs.YtocicffmajbecaaGreatDoor.hid (HM2.out.trans hM)
        clear hT hM
        go_wp2
        go_returns
        exact ⟨by simp,v',by rw [← HLR.out,if_neg (by rw [HTH.out]; decide)]; exact HTT.out,HMM.out⟩
    · rw [hth] at e4
      have HTH := Go.Proofs.YtocicffmajbecaaGreatDoor.hid hth
      clear hth
      go_upto_region 11 with (go_at_call 41; refine (tready_false HT2.out (by have := HX2.out.size; have := HB.out; omega) id HK.out HN.out HTH.out n HS.out hl).mono ?_; rintro e w2 ⟨rfl,v2,hT2,hM2⟩; obtain ⟨p2,cap2,rfl,-,-,hpn,hp2⟩ := hT2.row.slice; have HT3 := Go.Proofs.YtocicffmajbecaaGreatDoor.hid hT2; have HM3 := Go.Proofs.YtocicffmajbecaaGreatDoor.hid ((Mv.of_ext HX2.out).trans hM2); have HP2 := Go.Proofs.YtocicffmajbecaaGreatDoor.hid hp2; have HPN := Go.Proofs.YtocicffmajbecaaGreatDoor.hid hpn; clear hT2 hM2 hp2 hpn)
      obtain ⟨a2,rfl⟩ : ∃ a,p2 = some a := by
        cases p2 with
        | none => have e := (HPN.out rfl).1; have h9 := goT_len false n l (k0 : Int); rw [e] at h9; simp at h9; omega
        | some a => exact ⟨a,rfl⟩
      obtain ⟨g2,rfl,-,-⟩ := HP2.out a2 rfl
      clear d0 e4 hgy HW1
      by_cases hck : cap2 = k0 + 1
      · have HCK := Go.Proofs.YtocicffmajbecaaGreatDoor.hid hck
        clear hck
        refine wp_meet (DelPost base x (.slice (some ⟨g2,0,none⟩) (goT false n l (k0 : Int)).length cap2) (dropT k0 (goT false n l (k0 : Int))) w2) (tdelA HT3.out (by have := HM3.out.size; have := HB.out; omega) (by have := goT_len false n l (k0 : Int); omega) (by have := goT_len false n l (k0 : Int); omega) HCK.out _ _ _ _ _ _ _ _ _ _ _ _ _ _ _ _ _ _ _ _ _ _ _ _ _ _ _ _ _ _ _ _ _ _ _ _ _ _ _ _ _ _ _ _ _ _ _ _ _ _ _ _ _ _ _ _ _ _ _ _ _ _ _ _) ?_
        refine fun a' y3 => ex_elim fun v' => ex8 fun u1 u2 u3 u4 u5 u6 u7 u8 => ex8 fun u9 u10 u11 u12 u13 u14 u15 u16 => ex8 fun u17 u18 u19 u20 u21 u22 u23 u24 => ex8 fun u25 u26 u27 u28 u29 u30 u31 u32 => ex8 fun u33 u34 u35 u36 u37 u38 u39 u40 => ex8 fun u41 u42 u43 u44 u45 u46 u47 u48 => ex8 fun u49 u50 u51 u52 u53 u54 u55 u56 => ex8 fun u57 u58 u59 u60 u61 u62 u63 u64 => ex_elim fun u65 => ?_
        rintro ⟨rfl,hT,hM⟩
        have HTT := Go.Proofs.YtocicffmajbecaaGreatDoor.hid hT
        have HMM := Go.Proofs.YtocicffmajbecaaGreatDoor.hid (HM3.out.trans hM)
        clear hT hM
        go_wp2
        go_returns
        exact ⟨by simp,v',by rw [← HLR.out,if_pos HTH.out]; exact HTT.out,HMM.out⟩
      · have HCK := Go.Proofs.YtocicffmajbecaaGreatDoor.hid hck
        clear hck
        refine wp_meet (DelPost base x (.slice (some ⟨g2,0,none⟩) (goT false n l (k0 : Int)).length cap2) (dropT k0 (goT false n l (k0 : Int))) w2) (tdelB HT3.out (by have := HM3.out.size; have := HB.out; omega) (by have := goT_len false n l (k0 : Int); omega) (by have := goT_len false n l (k0 : Int); omega) HCK.out _ _ _ _ _ _ _ _ _ _ _ _ _ _ _ _ _ _ _ _ _ _ _ _ _ _ _ _ _ _ _ _ _ _ _ _ _ _ _ _ _ _ _ _ _ _ _ _ _ _ _ _ _ _ _ _ _ _ _ _ _ _ _ _) ?_
        refine fun a' y3 => ex_elim fun v' => ex8 fun u1 u2 u3 u4 u5 u6 u7 u8 => ex8 fun u9 u10 u11 u12 u13 u14 u15 u16 => ex8 fun u17 u18 u19 u20 u21 u22 u23 u24 => ex8 fun u25 u26 u27 u28 u29 u30 u31 u32 => ex8 fun u33 u34 u35 u36 u37 u38 u39 u40 => ex8 fun u41 u42 u43 u44 u45 u46 u47 u48 => ex8 fun u49 u50 u51 u52 u53 u54 u55 u56 => ex8 fun u57 u58 u59 u60 u61 u62 u63 u64 => ex_elim fun u65 => ?_
        rintro ⟨rfl,hT,hM⟩
        have HTT := Go.Proofs.YtocicffmajbecaaGreatDoor.hid hT
        have HMM := Go.Proofs.YtocicffmajbecaaGreatDoor.hid (HM3.out.trans hM)
        clear hT hM
        go_wp2
        go_returns
        exact ⟨by simp,v',by rw [← HLR.out,if_pos HTH.out]; exact HTT.out,HMM.out⟩
end Go.Proofs.YtocicffmajbecaaGreatDoor
namespace Go.Proofs.YtocicffmajbecaaGreatDoor
open Go.RowKit
set_option linter.unusedSimpArgs false
def ScPost (x A k : Nat) (wt : Int) (d : Nd) (z : World) (a' : Act) (y : World) : Prop :=
  ∃ (u1 u3 u4 u5 u6 u9 u10 u11 u12 u13 u14 u15 u16 u17 u18 u19 u20 u21 u22 u23 u24 u25 u26 u27 u28 u29 u30 u31 u32 u33 u34 u35 u36 u37 u38 u39 u40 u41 u42 u43 u44 u45 u46 u47 u48 u49 u50 u51 u52 u53 u54 u55 u56 u57 u58 u59 u60 u61 u62 u63 u64 : Value) (y0 : World),a' = { tmps := #[.pointer (some ⟨x,0,none⟩),u1,.int .i64 wt,u3,u4,u5,u6,.int .i64 k,.pointer (some ⟨A,0,none⟩),u9,u10,u11,u12,u13,u14,u15,u16,u17,u18,u19,u20,u21,u22,u23,u24,u25,u26,u27,u28,u29,u30,u31,u32,u33,u34,u35,u36,u37,u38,u39,u40,u41,u42,u43,u44,u45,u46,u47,u48,u49,u50,u51,u52,u53,u54,u55,u56,u57,u58,u59,u60,u61,u62,u63,u64],defers := [] } ∧ Ext z y0 ∧ y = y0.setCell ⟨A,3,none⟩ (.int .i64 d.pass)
set_option maxRecDepth 100000 in
set_option maxHeartbeats 4000000 in
theorem tscale {base x g cap k A pk : Nat} {wt : Int} {l : List Nd} {nd pn : Nd} {z : World} (h : Tq base x (.slice (some ⟨g,0,none⟩) l.length cap) l z) (hA : z.heap[A]? = some (.cells #[.int .i64 nd.id,.int .i64 nd.par,.int .i64 nd.wt,.int .i64 nd.pass,.bool nd.thr,.bool nd.rdy] 101 (0,0))) (hp : l[pk]? = some pn) (hat : atV l nd.par = (pk : Int)) (hw : isW nd.wt = true)
    (b1 : 0 ≤ pn.now ∧ pn.now ≤ 1099511627776) (b2 : 0 ≤ nd.pass ∧ nd.pass ≤ 2199023255552) (u1 u3 u4 u5 u6 u9 u10 u11 u12 u13 u14 u15 u16 u17 u18 u19 u20 u21 u22 u23 u24 u25 u26 u27 u28 u29 u30 u31 u32 u33 u34 u35 u36 u37 u38 u39 u40 u41 u42 u43 u44 u45 u46 u47 u48 u49 u50 u51 u52 u53 u54 u55 u56 u57 u58 u59 u60 u61 u62 u63 u64 : Value) :
    (bodyAt Tryz.f21 [1,1,1,1,1,1,0]).wp Tryz.prog (Ends (ScPost x A k wt { nd with pass := scaleW nd.pass pn.now nd.wt wt } z)) ({ tmps := #[.pointer (some ⟨x,0,none⟩),u1,.int .i64 wt,u3,u4,u5,u6,.int .i64 k,.pointer (some ⟨A,0,none⟩),u9,u10,u11,u12,u13,u14,u15,u16,u17,u18,u19,u20,u21,u22,u23,u24,u25,u26,u27,u28,u29,u30,u31,u32,u33,u34,u35,u36,u37,u38,u39,u40,u41,u42,u43,u44,u45,u46,u47,u48,u49,u50,u51,u52,u53,u54,u55,u56,u57,u58,u59,u60,u61,u62,u63,u64],defers := [] }) z := by
  have i2 : (pk : Int) < l.length := by have := (List.getElem?_eq_some_iff.1 hp).1; omega
  unfold bodyAt Tryz.f21
  simp only [codeAt]
  refine wp_region_T 18 1 (fun u => u.cell? ⟨x,0,none⟩ = some (.slice (some ⟨g,0,none⟩) l.length cap) ∧ u.cell? ⟨A,1,none⟩ = some (.int .i64 nd.par) ∧ u.cell? ⟨A,2,none⟩ = some (.int .i64 nd.wt) ∧ u.cell? ⟨A,3,none⟩ = some (.int .i64 nd.pass) ∧ u.cell? ⟨g,pk * 7 + 6,none⟩ = some (.int .i64 pn.now)) (by kernel_rfl) (by kernel_rfl) ?_
  have HT := hid (h.ext (Ext.drew (Ext.refl z)))
  have hA0 : z.drew.heap[A]? = some (.cells #[.int .i64 nd.id,.int .i64 nd.par,.int .i64 nd.wt,.int .i64 nd.pass,.bool nd.thr,.bool nd.rdy] 101 (0,0)) := hA
  have HA := hid hA0
  have HX0 := hid (Ext.drew (Ext.refl z))
  have HP := hid hp
  have HAT := hid hat
  have HG := hid (And.intro hw (And.intro b1 b2))
  clear h hA hA0 hp hat hw b1 b2
  generalize z.drew = z0 at *
  have HSF : Hid (∀ u,Ext z0 u → u.cell? ⟨x,0,none⟩ = some (.slice (some ⟨g,0,none⟩) l.length cap) ∧ u.cell? ⟨A,1,none⟩ = some (.int .i64 nd.par) ∧ u.cell? ⟨A,2,none⟩ = some (.int .i64 nd.wt) ∧ u.cell? ⟨A,3,none⟩ = some (.int .i64 nd.pass) ∧ u.cell? ⟨g,pk * 7 + 6,none⟩ = some (.int .i64 pn.now)) :=
    fun u hu => ⟨hu.cell HT.out.cell,hu.cell (blk_cellT HA.out 1),hu.cell (blk_cellT HA.out 2),hu.cell (blk_cellT HA.out 3),hu.cell (HT.out.row.node HP.out).2.2.2.2.2.2⟩
  have HSS := HSF.out z0 (Ext.refl _)
  refine wpT_tk 0 HSS ?_; (try simp only [nrm])
  refine wpT_tk 1 HSS ?_; (try simp only [nrm])
  refine wpT_tk 2 HSS ?_; (try simp only [nrm])
  refine wpT_tk 3 HSS ?_; (try simp only [nrm])
  refine wpT_tk 4 HSS ?_; (try simp only [nrm])
  refine wpT_tk 5 HSS ?_; (try simp only [nrm])
  refine wpT_tk 6 HSS ?_; (try simp only [nrm])
  refine wpT_tk 7 HSS ?_; (try simp only [nrm])
  refine wpT_tk 8 HSS ?_; (try simp only [nrm])
  refine wpT_tk 13 HSS ?_; (try simp only [nrm])
  refine wpT_tk 14 HSS ?_; (try simp only [nrm])
  refine wpT_tk 15 HSS ?_; (try simp only [nrm])
  refine wpT_on 9 (fun K' hK => ?_)
  go_simp
  refine (tat_to HAT.out HT.out).mono ?_
  rintro e v1 ⟨rfl,hx1⟩
  have HX1 := hid hx1
  clear hx1
  refine hK.out _ _ (HSF.out _ HX1.out) ?_
  clear hK K' HSS
  have HSS := HSF.out _ HX1.out
  (try simp only [nrm])
  refine wpT_tk 10 HSS ?_; (try simp only [nrm])
  refine wpT_tk 11 HSS ?_; (try simp only [nrm])
  refine wpT_tk 12 HSS ?_; (try simp only [nrm])
  refine wpT_on 16 (fun K' hK => ?_)
  go_simp
  refine (rscaleW_any _ _ _ _ HG.out.1 HG.out.2.1.1 HG.out.2.1.2 HG.out.2.2.1 (by have := HG.out.2.2.2; omega) _).mono ?_
  rintro e v2 ⟨rfl,hx2⟩
  have HX2 := hid (HX1.out.trans hx2)
  clear hx2 HX1
  refine hK.out _ _ (HSF.out _ HX2.out) ?_
  clear hK K' HSS
  have HSS := HSF.out _ HX2.out
  (try simp only [nrm])
  refine wpT_tk 17 HSS ?_; (try simp only [nrm])
  refine wpT_done (by kernel_rfl) ?_
  refine wpAny_on 18 (fun K' hK => ?_)
  have g0 := HSS.2.2.2.1
  have hbl := block_ext' HX2.out HA.out
  have f0 : v2.frozen? ⟨A,3,none⟩ = false := by simp [World.frozen?,hbl]
  clear HSS hbl
  go_simp
  refine hK.out _ _ ?_
  (try simp only [nrm])
  refine wpAny_done (by kernel_rfl) ?_ _
  exact ⟨rfl,_,_,_,_,_,_,_,_,_,_,_,_,_,_,_,_,_,_,_,_,_,_,_,_,_,_,_,_,_,_,_,_,_,_,_,_,_,_,_,_,_,_,_,_,_,_,_,_,_,_,_,_,_,_,_,_,_,_,_,_,_,v2,rfl,HX0.out.trans HX2.out,rfl⟩
theorem set_there {α : Type} {l : List α} {k : Nat} {a : α} (h : l[k]? = some a) : l.set k a = l := by
  refine List.ext_getElem? fun i => ?_
  have hlt := (List.getElem?_eq_some_iff.1 h).1
  rw [List.getElem?_set]
  by_cases e : k = i
  · subst e; rw [if_pos rfl,if_pos hlt]; exact h.symm
  · rw [if_neg e]
theorem Tq.setOne {base x g cap k j : Nat} {l : List Nd} {w : World} {a b : Nd} {u : Value} (h : Tq base x (.slice (some ⟨g,0,none⟩) l.length cap) (l.set k a) w) (hk : k < l.length) (hj : j < 7) (hn : ndc b = (ndc a).set j u) : Tq base x (.slice (some ⟨g,0,none⟩) l.length cap) (l.set k b) (w.setCell ⟨g,k * 7 + j,none⟩ u) := by
  have h1 : Tq base x (.slice (some ⟨g,0,none⟩) (l.set k a).length cap) (l.set k a) w := by rw [List.length_set]; exact h
  have := h1.setAt (i := k) (n := a) (n' := b) (j := j) (u := u) (by rw [List.getElem?_set_self hk]) hj hn
  rw [List.set_set,List.length_set] at this
  exact this
theorem Tq.set6 {base x g cap k : Nat} {l : List Nd} {w : World} {nd d : Nd} (h : Tq base x (.slice (some ⟨g,0,none⟩) l.length cap) l w) (hk : l[k]? = some nd) (hnow : d.now = nd.now) :
    Tq base x (.slice (some ⟨g,0,none⟩) l.length cap) (l.set k d) ((((((w.setCell ⟨g,k * 7,none⟩ (.int .i64 d.id)).setCell ⟨g,k * 7 + 1,none⟩ (.int .i64 d.par)).setCell ⟨g,k * 7 + 2,none⟩ (.int .i64 d.wt)).setCell ⟨g,k * 7 + 3,none⟩ (.int .i64 d.pass)).setCell ⟨g,k * 7 + 4,none⟩ (.bool d.thr)).setCell ⟨g,k * 7 + 5,none⟩ (.bool d.rdy)) := by
  have hlt := (List.getElem?_eq_some_iff.1 hk).1
  have h0 : Tq base x (.slice (some ⟨g,0,none⟩) l.length cap) (l.set k nd) w := by
    rw [set_there hk]; exact h
  obtain ⟨d1,d2,d3,d4,d5,d6,d7⟩ := d
  obtain ⟨n1,n2,n3,n4,n5,n6,n7⟩ := nd
  obtain rfl : d7 = n7 := hnow
  have a1 := h0.setOne (b := ⟨d1,n2,n3,n4,n5,n6,d7⟩) (j := 0) (u := .int .i64 d1) hlt (by omega) rfl
  have a2 := a1.setOne (b := ⟨d1,d2,n3,n4,n5,n6,d7⟩) (j := 1) (u := .int .i64 d2) hlt (by omega) rfl
  have a3 := a2.setOne (b := ⟨d1,d2,d3,n4,n5,n6,d7⟩) (j := 2) (u := .int .i64 d3) hlt (by omega) rfl
  have a4 := a3.setOne (b := ⟨d1,d2,d3,d4,n5,n6,d7⟩) (j := 3) (u := .int .i64 d4) hlt (by omega) rfl
  have a5 := a4.setOne (b := ⟨d1,d2,d3,d4,d5,n6,d7⟩) (j := 4) (u := .bool d5) hlt (by omega) rfl
  exact a5.setOne (b := ⟨d1,d2,d3,d4,d5,d6,d7⟩) (j := 5) (u := .bool d6) hlt (by omega) rfl
theorem Tq.poke {base x A j : Nat} {v : Value} {l : List Nd} {w : World} {cs : Array Value} {T : TypeId} (h : Tq base x v l w) (hA : w.heap[A]? = some (.cells cs T (0,0))) (h1 : T ≠ 113) (h2 : T ≠ 111) (u : Value) : Tq base x v l (w.setCell ⟨A,j,none⟩ u) := by
  have hxA : x ≠ A := by
    intro e
    subst e
    have := h.blk
    rw [hA] at this
    injection (Option.some.inj this) with _ h3
    exact h2 h3
  refine ⟨(Below.heap_setCell _ _ _ _ (by simpa using hxA)).trans h.blk,h.row.keep fun g hg => Below.heap_setCell _ _ _ _ (by simp; intro e; subst e; exact h.row.far hA h1 hg)⟩
theorem Mv.setNew {x A j : Nat} {v v1 : Value} {w w1 : World} (h : Mv x v v1 w w1) (hA : w.heap.size ≤ A) (u : Value) : Mv x v v1 w (w1.setCell ⟨A,j,none⟩ u) :=
  ⟨h.os,h.tape,h.output,by simpa [World.setCell] using h.size,fun i hi hx hv => (Below.heap_setCell _ _ _ _ (by simp; omega)).trans (h.block i hi hx hv),h.own⟩
def StPost (base x g cap : Nat) (l l' : List Nd) (z : World) (a' : Act) (y : World) : Prop :=
  ∃ (u0 u1 u2 u3 u4 u5 u6 u7 u8 u9 u10 u11 u12 u13 u14 u15 u16 u17 u18 u19 u20 u21 u22 u23 u24 u25 u26 u27 u28 u29 u30 u31 u32 u33 u34 u35 u36 u37 u38 u39 u40 u41 u42 u43 u44 u45 u46 u47 u48 u49 u50 u51 u52 u53 u54 u55 u56 u57 u58 u59 u60 u61 u62 u63 u64 : Value),a' = { tmps := #[u0,u1,u2,u3,u4,u5,u6,u7,u8,u9,u10,u11,u12,u13,u14,u15,u16,u17,u18,u19,u20,u21,u22,u23,u24,u25,u26,u27,u28,u29,u30,u31,u32,u33,u34,u35,u36,u37,u38,u39,u40,u41,u42,u43,u44,u45,u46,u47,u48,u49,u50,u51,u52,u53,u54,u55,u56,u57,u58,u59,u60,u61,u62,u63,u64],defers := [] } ∧ Tq base x (.slice (some ⟨g,0,none⟩) l.length cap) l' y ∧ Mv x (.slice (some ⟨g,0,none⟩) l.length cap) (.slice (some ⟨g,0,none⟩) l.length cap) z y
set_option maxRecDepth 100000 in
set_option maxHeartbeats 4000000 in
theorem tstore {base x g cap k A : Nat} {l : List Nd} {nd d : Nd} {z : World} (h : Tq base x (.slice (some ⟨g,0,none⟩) l.length cap) l z) (hA : z.heap[A]? = some (.cells #[.int .i64 d.id,.int .i64 d.par,.int .i64 d.wt,.int .i64 d.pass,.bool d.thr,.bool d.rdy] 101 (0,0))) (hk : l[k]? = some nd) (hnow : d.now = nd.now) (u1 u2 u3 u4 u5 u6 u9 u10 u11 u12 u13 u14 u15 u16 u17 u18 u19 u20 u21 u22 u23 u24 u25 u26 u27 u28 u29 u30 u31 u32 u33 u34 u35 u36 u37 u38 u39 u40 u41 u42 u43 u44 u45 u46 u47 u48 u49 u50 u51 u52 u53 u54 u55 u56 u57 u58 u59 u60 u61 u62 u63 u64 : Value) :
    (bodyAt Tryz.f21 [1,1,1,1,1,1,1,1,0]).wp Tryz.prog (Ends (StPost base x g cap l (l.set k d) z)) ({ tmps := #[.pointer (some ⟨x,0,none⟩),u1,u2,u3,u4,u5,u6,.int .i64 k,.pointer (some ⟨A,0,none⟩),u9,u10,u11,u12,u13,u14,u15,u16,u17,u18,u19,u20,u21,u22,u23,u24,u25,u26,u27,u28,u29,u30,u31,u32,u33,u34,u35,u36,u37,u38,u39,u40,u41,u42,u43,u44,u45,u46,u47,u48,u49,u50,u51,u52,u53,u54,u55,u56,u57,u58,u59,u60,u61,u62,u63,u64],defers := [] }) z := by
  have i2 : (k : Int) < l.length := by have := (List.getElem?_eq_some_iff.1 hk).1; omega
  unfold bodyAt Tryz.f21
  simp only [codeAt]
  refine wp_region_T 8 1 (fun u => u.cell? ⟨x,0,none⟩ = some (.slice (some ⟨g,0,none⟩) l.length cap) ∧ u.cell? ⟨A,0,none⟩ = some (.int .i64 d.id) ∧ u.cell? ⟨A,1,none⟩ = some (.int .i64 d.par) ∧ u.cell? ⟨A,2,none⟩ = some (.int .i64 d.wt) ∧ u.cell? ⟨A,3,none⟩ = some (.int .i64 d.pass) ∧ u.cell? ⟨A,4,none⟩ = some (.bool d.thr) ∧ u.cell? ⟨A,5,none⟩ = some (.bool d.rdy)) (by kernel_rfl) (by kernel_rfl) ?_
  have HT := hid (h.ext (Ext.drew (Ext.refl z)))
  have hA0 : z.drew.heap[A]? = some (.cells #[.int .i64 d.id,.int .i64 d.par,.int .i64 d.wt,.int .i64 d.pass,.bool d.thr,.bool d.rdy] 101 (0,0)) := hA
  have HM : Hid (Mv x (.slice (some ⟨g,0,none⟩) l.length cap) (.slice (some ⟨g,0,none⟩) l.length cap) z z.drew) := Mv.of_ext (Ext.drew (Ext.refl z))
  have HK := hid hk
  have HNW := hid hnow
  clear h hA hk hnow
  generalize z.drew = z0 at *
  have HSS : z0.cell? ⟨x,0,none⟩ = some (.slice (some ⟨g,0,none⟩) l.length cap) ∧ z0.cell? ⟨A,0,none⟩ = some (.int .i64 d.id) ∧ z0.cell? ⟨A,1,none⟩ = some (.int .i64 d.par) ∧ z0.cell? ⟨A,2,none⟩ = some (.int .i64 d.wt) ∧ z0.cell? ⟨A,3,none⟩ = some (.int .i64 d.pass) ∧ z0.cell? ⟨A,4,none⟩ = some (.bool d.thr) ∧ z0.cell? ⟨A,5,none⟩ = some (.bool d.rdy) :=
    ⟨HT.out.cell,blk_cellT hA0 0,blk_cellT hA0 1,blk_cellT hA0 2,blk_cellT hA0 3,blk_cellT hA0 4,blk_cellT hA0 5⟩
  clear hA0
  refine wpT_tk 0 HSS ?_; (try simp only [nrm])
  refine wpT_tk 1 HSS ?_; (try simp only [nrm])
  refine wpT_tk 2 HSS ?_; (try simp only [nrm])
  refine wpT_tk 3 HSS ?_; (try simp only [nrm])
  refine wpT_tk 4 HSS ?_; (try simp only [nrm])
  refine wpT_tk 5 HSS ?_; (try simp only [nrm])
  refine wpT_tk 6 HSS ?_; (try simp only [nrm])
  refine wpT_tk 7 HSS ?_; (try simp only [nrm])
  refine wpT_done (by kernel_rfl) ?_
  refine wpAny_on 8 (fun K' hK => ?_)
  obtain ⟨g0,g1,g2,g3,g4,g5,-⟩ := HT.out.row.node HK.out
  have f0 : z0.frozen? ⟨g,k * 7,none⟩ = false := HT.out.row.free
  have f1 : z0.frozen? ⟨g,k * 7 + 1,none⟩ = false := HT.out.row.free
  have f2 : z0.frozen? ⟨g,k * 7 + 2,none⟩ = false := HT.out.row.free
  have f3 : z0.frozen? ⟨g,k * 7 + 3,none⟩ = false := HT.out.row.free
  have f4 : z0.frozen? ⟨g,k * 7 + 4,none⟩ = false := HT.out.row.free
  have f5 : z0.frozen? ⟨g,k * 7 + 5,none⟩ = false := HT.out.row.free
  clear HSS
  go_simp
  refine hK.out _ _ ?_
  (try simp only [nrm])
  refine wpAny_done (by kernel_rfl) ?_ _
  have hm := ((((((HM.out.setG (g := g) rfl (k * 7) (.int .i64 d.id)).setG (g := g) rfl (k * 7 + 1) (.int .i64 d.par)).setG (g := g) rfl (k * 7 + 2) (.int .i64 d.wt)).setG (g := g) rfl (k * 7 + 3) (.int .i64 d.pass)).setG (g := g) rfl (k * 7 + 4) (.bool d.thr)).setG (g := g) rfl (k * 7 + 5) (.bool d.rdy))
  exact ⟨rfl,_,_,_,_,_,_,_,_,_,_,_,_,_,_,_,_,_,_,_,_,_,_,_,_,_,_,_,_,_,_,_,_,_,_,_,_,_,_,_,_,_,_,_,_,_,_,_,_,_,_,_,_,_,_,_,_,_,_,_,_,_,_,_,_,_,rfl,HT.out.set6 HK.out HNW.out,hm⟩
set_option maxRecDepth 100000 in
set_option maxHeartbeats 2000000 in
theorem tweight10 {base x : Nat} {v : Value} {l : List Nd} {w : World} (h : Tq base x v l w) (id wt : Int) (hw : isW wt = false) :
    Calls Tryz.prog 21 #[.pointer (some ⟨x,0,none⟩),.int .i64 id,.int .i64 wt] w (TGoes base x v 10 l w) := by
  have H := hid h
  have HW := hid hw
  clear h hw
  go_enter Tryz.func21,Tryz.ntmps21
  go_wp2_with (go_at_call 45; (with_reducible refine (risW_to HW.out _).yields ?_); intro q2)
  go_returns
  exact TGoes.still H.out (by simp) ext_by
set_option maxRecDepth 100000 in
set_option maxHeartbeats 2000000 in
theorem tweight13 {base x : Nat} {v : Value} {l : List Nd} {w : World} (h : Tq base x v l w) (id wt : Int) (hw : isW wt = true) {ak : Int} (hk : atV l id = ak) (hi : ak = -1 ∨ (0 ≤ ak ∧ id = 0)) :
    Calls Tryz.prog 21 #[.pointer (some ⟨x,0,none⟩),.int .i64 id,.int .i64 wt] w (TGoes base x v 13 l w) := by
  have H := hid h
  have HK := hid hk
  have HW := hid hw
  clear h hk hw
  rcases hi with rfl | ⟨ha,rfl⟩
  · go_enter Tryz.func21,Tryz.ntmps21
    go_wp2_with (first | (go_at_call 66; (with_reducible refine (tat_to HK.out (H.out.ext ext_by)).yields ?_); intro q1) | (go_at_call 45; (with_reducible refine (risW_to HW.out _).yields ?_); intro q2))
    go_returns
    exact TGoes.still H.out (by simp) ext_by
  · go_enter Tryz.func21,Tryz.ntmps21
    go_wp2_with (first | (go_at_call 66; (with_reducible refine (tat_to HK.out (H.out.ext ext_by)).yields ?_); intro q1) | (go_at_call 45; (with_reducible refine (risW_to HW.out _).yields ?_); intro q2))
    go_returns
    exact TGoes.still H.out (by simp) ext_by
def wtN (n : Nd) (now wt : Int) : Nd := { n with pass := scaleW n.pass now n.wt wt,wt := wt }
set_option maxRecDepth 100000 in
set_option maxHeartbeats 4000000 in
theorem tweight0 {base x : Nat} {v : Value} {l : List Nd} {w : World} (h : Tq base x v l w) (hb : base ≤ w.heap.size) (id wt : Int) (hw : isW wt = true) {k0 pk : Nat} {nd0 pn : Nd} (hk : atV l id = (k0 : Int)) (hn0 : l[k0]? = some nd0) (hi : id ≠ 0) (hl : l.length ≤ 1000)
    (hp : l[pk]? = some pn) (hat : atV l nd0.par = (pk : Int)) (hw0 : isW nd0.wt = true) (b1 : 0 ≤ pn.now ∧ pn.now ≤ 1099511627776) (b2 : 0 ≤ nd0.pass ∧ nd0.pass ≤ 2199023255552) :
    Calls Tryz.prog 21 #[.pointer (some ⟨x,0,none⟩),.int .i64 id,.int .i64 wt] w (TGoes base x v 0 (l.set k0 (wtN nd0 pn.now wt)) w) := by
  obtain ⟨p,cap,rfl,hc1,hc2,hp0,hp1⟩ := h.row.slice
  obtain ⟨a,rfl⟩ : ∃ a,p = some a := by
    cases p with
    | none => have e := (hp0 rfl).1; rw [e] at hn0; simp at hn0
    | some a => exact ⟨a,rfl⟩
  obtain ⟨g,rfl,hg,hgl⟩ := hp1 a rfl
  unfold maxLen at hc2
  have hpl : (k0 : Int) < l.length := by have := (List.getElem?_eq_some_iff.1 hn0).1; omega
  have hx := h.lt
  have c0 := h.cell
  have H := hid h
  have HK := hid hk
  have HN := hid hn0
  have HW := hid hw
  have HB := hid hb
  have HP := hid hp
  have HAT := hid hat
  have HG := hid (And.intro hw0 (And.intro b1 b2))
  have hi0 : (id == 0) = false := by simpa using hi
  have hl0 : 0 < l.length := by omega
  have HSR := hid (fun (W : World) (hX : Ext w W) => NRow.src (h.ext hX).row 0 l [] (by simp))
  clear h hk hn0 hw hb hp hat hw0 b1 b2 hp0 hp1
  go_enter Tryz.func21,Tryz.ntmps21
  go_upto_region 7 with (first
    | (go_at_call 66; (with_reducible refine (tat_to HK.out (H.out.ext ext_by)).yields ?_); intro q1) | (go_at_call 45; (with_reducible refine (risW_to HW.out _).yields ?_); intro q2)
    | (at_builtin; refine wpList_append_sl rfl (.const (.slice none 0 0)) (.tmp 25) 109 113 (.agg #[.int .i64 0,.int .i64 0,.int .i64 0,.int .i64 0,.bool false,.bool false,.int .i64 0]) 7 48 rfl Tryz.underlying109 infoNd rfl (by decide) (World.ownsRow_nil (more w (q2.then q1)) (more w (q2.then q1)).heap.size _ _) (news := l.flatMap ndc) rfl rfl (flat_length ndc_length l) (by intro j u hj; have := HSR.out (more w (q2.then q1)) (ext_more w (q2.then q1)) j u hj; simpa using this) (ndc_oneAll _) (by unfold maxLen; omega) (by omega) (Nat.le_refl _) ?_; intro p1 cc1 w1 ho1 hb1; have d0 : w1.cell? ⟨x,0,none⟩ = some (.slice (some ⟨g,0,none⟩) l.length cap) := Ext.cell ⟨hb1⟩ (more_cell c0 (q2.then q1)); have f0 : w1.frozen? ⟨x,0,none⟩ = false := ((H.out.ext (ext_more w (q2.then q1))).ext ⟨hb1⟩).free; have hxl : x < w1.heap.size := World.block_lt_of_cell? _ _ d0; have HO1 := hid ho1; have HB1 := hid hb1; clear ho1 hb1))
  obtain ⟨g2,hp1,hT2,hM2⟩ := (H.out.ext (ext_more w (q2.then q1))).copied (by have := (ext_more w (q2.then q1)).size; have := HB.out; omega) HO1.out HB1.out hl0
  subst hp1
  have HT2 := hid hT2
  have HM2 := hid ((Mv.of_ext (x := x) (v := .slice (some ⟨g,0,none⟩) l.length cap) (ext_more w (q2.then q1))).trans hM2)
  clear hT2 hM2 d0 f0 hxl HO1 HB1 c0 hx hg hgl hc1 hc2
  (try simp only [Nat.zero_add])
  generalize w1.setCell ⟨x,0,none⟩ (.slice (some ⟨g2,0,none⟩) l.length cc1) = v2 at *
  clear w1 q1 q2
  have HC2 : cc1 ≤ 9223372036854775807 := by obtain ⟨p,c,e,-,h1,-⟩ := HT2.out.row.slice; injection e with _ _ e; unfold maxLen at h1; omega
  have d0 := HT2.out.cell
  obtain ⟨e0,e1,e2,e3,e4,e5,-⟩ := HT2.out.row.node HN.out
  have hg2 : g2 < v2.heap.size := World.block_lt_of_cell? _ _ e0
  have hx2 : x < v2.heap.size := World.block_lt_of_cell? _ _ d0
  go_upto_region 8 with (fail)
  have HA : Hid ((v2.alloc (.cells #[.int .i64 nd0.id,.int .i64 nd0.par,.int .i64 nd0.wt,.int .i64 nd0.pass,.bool nd0.thr,.bool nd0.rdy] 101 (0,0))).heap[v2.heap.size]? = some (.cells #[.int .i64 nd0.id,.int .i64 nd0.par,.int .i64 nd0.wt,.int .i64 nd0.pass,.bool nd0.thr,.bool nd0.rdy] 101 (0,0))) := heap_alloc_new v2 _
  have HT3 := hid (HT2.out.ext (Ext.alloc (Ext.refl v2) (.cells #[.int .i64 nd0.id,.int .i64 nd0.par,.int .i64 nd0.wt,.int .i64 nd0.pass,.bool nd0.thr,.bool nd0.rdy] 101 (0,0))))
  have HM3 := hid (HM2.out.ext (Ext.alloc (Ext.refl v2) (.cells #[.int .i64 nd0.id,.int .i64 nd0.par,.int .i64 nd0.wt,.int .i64 nd0.pass,.bool nd0.thr,.bool nd0.rdy] 101 (0,0))))
  have HM2S : Hid (w.heap.size ≤ v2.heap.size) := HM2.out.size
  clear d0 e0 e1 e2 e3 e4 e5 hg2 hx2 HT2 HM2
  generalize v2.alloc (.cells #[.int .i64 nd0.id,.int .i64 nd0.par,.int .i64 nd0.wt,.int .i64 nd0.pass,.bool nd0.thr,.bool nd0.rdy] 101 (0,0)) = v3 at *
  have HAN : Hid (w.heap.size ≤ v2.heap.size) := HM2S.out
  generalize v2.heap.size = A at *
  clear v2
  refine wp_meet (ScPost x A k0 wt { nd0 with pass := scaleW nd0.pass pn.now nd0.wt wt } v3) (tscale HT3.out HA.out HP.out HAT.out HG.out.1 HG.out.2.1 HG.out.2.2 _ _ _ _ _ _ _ _ _ _ _ _ _ _ _ _ _ _ _ _ _ _ _ _ _ _ _ _ _ _ _ _ _ _ _ _ _ _ _ _ _ _ _ _ _ _ _ _ _ _ _ _ _ _ _ _ _ _ _ _ _) ?_
  refine fun a' y => ex8 fun u1 u3 u4 u5 u6 u9 u10 u11 => ex8 fun u12 u13 u14 u15 u16 u17 u18 u19 => ex8 fun u20 u21 u22 u23 u24 u25 u26 u27 => ex8 fun u28 u29 u30 u31 u32 u33 u34 u35 => ex8 fun u36 u37 u38 u39 u40 u41 u42 u43 => ex8 fun u44 u45 u46 u47 u48 u49 u50 u51 => ex8 fun u52 u53 u54 u55 u56 u57 u58 u59 => ex4 fun u60 u61 u62 u63 => ex_elim fun u64 => ex_elim fun y0 => ?_
  rintro ⟨rfl,hy,rfl⟩
  have hA1 : y0.heap[A]? = some (.cells #[.int .i64 nd0.id,.int .i64 nd0.par,.int .i64 nd0.wt,.int .i64 nd0.pass,.bool nd0.thr,.bool nd0.rdy] 101 (0,0)) := block_ext' hy HA.out
  have hA2 := set_same hA1 3 (.int .i64 (scaleW nd0.pass pn.now nd0.wt wt))
  have HT4 := hid ((HT3.out.ext hy).poke (j := 3) hA1 (by decide) (by decide) (.int .i64 (scaleW nd0.pass pn.now nd0.wt wt)))
  have HM4 := hid ((HM3.out.ext hy).setNew (j := 3) HAN.out (.int .i64 (scaleW nd0.pass pn.now nd0.wt wt)))
  clear HT3 HM3 HA hA1 hy
  have HA2 : Hid ((y0.setCell ⟨A,3,none⟩ (.int .i64 (scaleW nd0.pass pn.now nd0.wt wt))).heap[A]? = some (.cells #[.int .i64 nd0.id,.int .i64 nd0.par,.int .i64 nd0.wt,.int .i64 (scaleW nd0.pass pn.now nd0.wt wt),.bool nd0.thr,.bool nd0.rdy] 101 (0,0))) := hA2
  clear hA2
  generalize y0.setCell ⟨A,3,none⟩ (.int .i64 (scaleW nd0.pass pn.now nd0.wt wt)) = y1 at *
  have g2c : y1.cell? ⟨A,2,none⟩ = some (.int .i64 nd0.wt) := blk_cellT HA2.out 2
  have g2f : y1.frozen? ⟨A,2,none⟩ = false := by have := HA2.out; simp [World.frozen?,this]
  have hAl : A < y1.heap.size := lt_blk HA2.out
  go_upto_region 10 with (fail)
  have hA3 := set_same HA2.out 2 (.int .i64 wt)
  have HT5 := hid (HT4.out.poke (j := 2) HA2.out (by decide) (by decide) (.int .i64 wt))
  have HM5 := hid (HM4.out.setNew (j := 2) HAN.out (.int .i64 wt))
  have HA3 : Hid ((y1.setCell ⟨A,2,none⟩ (.int .i64 wt)).heap[A]? = some (.cells #[.int .i64 (wtN nd0 pn.now wt).id,.int .i64 (wtN nd0 pn.now wt).par,.int .i64 (wtN nd0 pn.now wt).wt,.int .i64 (wtN nd0 pn.now wt).pass,.bool (wtN nd0 pn.now wt).thr,.bool (wtN nd0 pn.now wt).rdy] 101 (0,0))) := hA3
  clear hA3 HT4 HM4 HA2 g2c g2f hAl
  generalize y1.setCell ⟨A,2,none⟩ (.int .i64 wt) = y2 at *
  refine wp_meet (StPost base x g2 cc1 l (l.set k0 (wtN nd0 pn.now wt)) y2) (tstore (base := base) (d := wtN nd0 pn.now wt) HT5.out HA3.out HN.out rfl _ _ _ _ _ _ _ _ _ _ _ _ _ _ _ _ _ _ _ _ _ _ _ _ _ _ _ _ _ _ _ _ _ _ _ _ _ _ _ _ _ _ _ _ _ _ _ _ _ _ _ _ _ _ _ _ _ _ _ _ _ _) ?_
  refine fun a' y3 => ex8 fun u0 u1 u2 u3 u4 u5 u6 u7 => ex8 fun u8 u9 u10 u11 u12 u13 u14 u15 => ex8 fun u16 u17 u18 u19 u20 u21 u22 u23 => ex8 fun u24 u25 u26 u27 u28 u29 u30 u31 => ex8 fun u32 u33 u34 u35 u36 u37 u38 u39 => ex8 fun u40 u41 u42 u43 u44 u45 u46 u47 => ex8 fun u48 u49 u50 u51 u52 u53 u54 u55 => ex8 fun u56 u57 u58 u59 u60 u61 u62 u63 => ex_elim fun u64 => ?_
  rintro ⟨rfl,hT,hM⟩
  have HTT := hid hT
  have HMM := hid (HM5.out.trans hM)
  clear hT hM
  go_wp2
  go_returns
  exact ⟨by simp,_,HTT.out,HMM.out⟩
end Go.Proofs.YtocicffmajbecaaGreatDoor
