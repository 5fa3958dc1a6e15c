/- The document's own objects: Drop. -/
import Derived.Test.YtocicffmajbecaaGreatDoorObM
import Derived.Test.YtocicffmajbecaaGreatDoorMvp
import Derived.Test.YtocicffmajbecaaGreatDoorInts
import Derived.Test.YtocicffmajbecaaGreatDoorSl
import Derived.Test.YtocicffmajbecaaGreatDoorSite
import Derived.Test.YtocicffmajbecaaGreatDoorTail
import Derived.Test.YtocicffmajbecaaGreatDoorPiece
import Derived.WalkKit
import Derived.WalkSpells
import Derived.WalkLawsBesides
import Derived.Deep.LoopGhost
import Derived.OwnWalk
import Derived.Handy
import Derived.Deep.RegionLaw
import Derived.IntWalk
namespace Go.Proofs.YtocicffmajbecaaGreatDoor
open Go.RowKit
set_option maxRecDepth 100000
set_option linter.unusedSimpArgs false
namespace Ko
open Ob (upd upd_same upd_other four flat)
def RW (base : Nat) (w : World) (v : Value) (l : List Int) : Prop :=
  (v = .slice none 0 0 ∧ l = []) ∨ ∃ g off cap cur,v = .slice (some ⟨g,off,none⟩) l.length cap ∧ l.length ≤ cap ∧ cap ≤ maxLen ∧ base ≤ g ∧ w.heap[g]? = some (.cells cur 3 (0,0)) ∧ ∀ (i : Nat) (k : Int),l[i]? = some k → cur[off + i]? = some (.int .i64 k)
def sblk : Value → Option Nat
  | .slice (some a) _ _ => some a.block
  | _ => none
structure RO (base : Nat) (y : Site) (c : Nat → Int) (V : Nat → Value) (W : Nat → List Int) (w : World) : Prop where
  blk : ∃ cs,w.heap[y.b]? = some (.cells cs y.T (0,0)) ∧ cs.size = y.n ∧ y.d + 8 ≤ y.n ∧ (∀ j,j < y.n → j < y.d ∨ y.d + 8 ≤ j → cs[j]? = some (y.K j)) ∧ ∀ i,i < 4 → cs[y.d + i]? = some (.int .i64 (c i)) ∧ cs[y.d + 4 + i]? = some (V i)
  rows : ∀ i,i < 4 → RW base w (V i) (W i)
  bx : base ≤ y.b
  ty : y.T ≠ 3
def ROwn (y : Site) (V : Nat → Value) (k : Nat) : Prop := k = y.b ∨ ∃ i,i < 4 ∧ sblk (V i) = some k
section
variable {base : Nat} {w w' : World} {v : Value} {l : List Int}
theorem RW.keep (h : RW base w v l) (k : ∀ g,sblk v = some g → w'.heap[g]? = w.heap[g]?) : RW base w' v l := by
  rcases h with h | ⟨g,off,cap,cur,rfl,h1,h2,h3,h4,h5⟩
  · exact .inl h
  · exact .inr ⟨g,off,cap,cur,rfl,h1,h2,h3,(k g rfl).trans h4,h5⟩
theorem RW.blk (h : RW base w v l) {g : Nat} (hg : sblk v = some g) : base ≤ g ∧ ∃ cur,w.heap[g]? = some (.cells cur 3 (0,0)) := by
  rcases h with ⟨rfl,_⟩ | ⟨g',off,cap,cur,rfl,_,_,h3,h4,_⟩
  · cases hg
  · cases hg
    exact ⟨h3,cur,h4⟩
theorem RW.ext (h : RW base w v l) (k : Ext w w') : RW base w' v l := h.keep fun g hg => by
  obtain ⟨_,cur,h1⟩ := h.blk hg
  exact k.below.block _ (lt_blk h1)
theorem RW.at' (h : RW base w v l) {i : Nat} {k : Int} (hi : l[i]? = some k) : ∃ g off cap,v = .slice (some ⟨g,off,none⟩) l.length cap ∧ g < w.heap.size ∧ w.cell? ⟨g,off + i,none⟩ = some (.int .i64 k) := by
  rcases h with ⟨_,rfl⟩ | ⟨g,off,cap,cur,rfl,h1,h2,h3,h4,h5⟩
  · simp at hi
  · exact ⟨g,off,cap,rfl,lt_blk h4,by simp [World.cell?,h4,h5 i k hi]⟩
theorem RW.ints (h : RW base w v l) : Ints w v l := by
  rcases h with ⟨rfl,rfl⟩ | ⟨g,off,cap,cur,rfl,h1,h2,h3,h4,h5⟩
  · exact ⟨none,0,rfl,by simp,by unfold maxLen; omega,fun h => by simp at h⟩
  · exact ⟨_,cap,rfl,h1,h2,fun _ => ⟨g,off,rfl,fun i x hx => by rw [Nat.mul_one]; simp [World.cell?,h4,h5 i x hx]⟩⟩
theorem RW.shape (h : RW base w v l) : ∃ p cap,v = .slice p l.length cap ∧ l.length ≤ cap ∧ cap ≤ maxLen := h.ints.shape
theorem RW.src (h : RW base w v l) : Rw.Src w 1 v l.length (l.map fun k => .int .i64 k) := by
  rcases h with ⟨rfl,rfl⟩ | ⟨g,off,cap,cur,rfl,h1,h2,h3,h4,h5⟩
  · exact .inl ⟨rfl,rfl,rfl⟩
  · refine .inr ⟨_,_,rfl,by simp,fun j u hj => ?_⟩
    rw [add_add]
    rw [List.getElem?_map] at hj
    cases hl : l[j]? with
    | none => rw [hl] at hj; cases hj
    | some k =>
      rw [hl] at hj
      cases hj
      simp [World.cell?,h4,h5 j k hl]
theorem RW.of_owns {b : Nat} (h : w.ownsRow b 3 1 v l.length (l.map fun k => .int .i64 k)) (hb : base ≤ b) : RW base w v l := by
  rcases h.2 with ⟨rfl,hq⟩ | ⟨g,cap,cur,rfl,e2,e3,e4,e5,e6,e7⟩
  · have : l = [] := List.eq_nil_of_length_eq_zero (by simpa using hq)
    subst this
    exact .inl ⟨rfl,rfl⟩
  · refine .inr ⟨g,0,cap,cur,rfl,e4,e5,by omega,e3,fun i k hk => ?_⟩
    have hil := (List.getElem?_eq_some_iff.1 hk).1
    have : (l.map fun k => Value.int .i64 k)[i]? = some (.int .i64 k) := by rw [List.getElem?_map,hk]; rfl
    rw [← e7,List.getElem?_take,if_pos (by omega)] at this
    rw [Nat.zero_add]
    simpa using this
end
section
variable {base : Nat} {y : Site} {c : Nat → Int} {V : Nat → Value} {W : Nat → List Int} {w w' : World} {v : Value} {l : List Int}
theorem RO.lt (h : RO base y c V W w) : y.b < w.heap.size := by
  obtain ⟨cs,h1,_⟩ := h.blk
  exact lt_blk h1
theorem RO.cell (h : RO base y c V W w) {i : Nat} (hi : i < 4) : w.cell? ⟨y.b,y.d + i,none⟩ = some (.int .i64 (c i)) ∧ w.cell? ⟨y.b,y.d + 4 + i,none⟩ = some (V i) := by
  obtain ⟨cs,h1,_,_,_,h2⟩ := h.blk
  obtain ⟨e1,e2⟩ := h2 i hi
  exact ⟨by simp [World.cell?,h1,e1],by simp [World.cell?,h1,e2]⟩
theorem RO.free (h : RO base y c V W w) (j : Nat) : w.frozen? ⟨y.b,j,none⟩ = false := by
  obtain ⟨cs,h1,_⟩ := h.blk
  simp [World.frozen?,h1]
theorem rw_far {g : Nat} {cs cur : Array Value} {T : TypeId} {b : Nat} (h : w.heap[g]? = some (.cells cur 3 (0,0))) (k : w.heap[b]? = some (.cells cs T (0,0))) (hT : T ≠ 3) : g ≠ b := fun e => by
  subst e
  rw [h] at k
  injection (Option.some.inj k) with _ q
  exact hT q.symm
theorem RO.row_lt (h : RO base y c V W w) {i g : Nat} (hi : i < 4) (hg : sblk (V i) = some g) : base ≤ g ∧ g ≠ y.b ∧ g < w.heap.size := by
  obtain ⟨h1,cur,h2⟩ := (h.rows i hi).blk hg
  obtain ⟨cs,h3,_⟩ := h.blk
  exact ⟨h1,rw_far h2 h3 h.ty,lt_blk h2⟩
theorem RO.own (h : RO base y c V W w) : ∀ k,ROwn y V k → base ≤ k ∧ k < w.heap.size := by
  rintro k (rfl | ⟨i,hi,hk⟩)
  · exact ⟨h.bx,h.lt⟩
  · have := h.row_lt hi hk
    exact ⟨this.1,this.2.2⟩
theorem RO.keep (h : RO base y c V W w) (k : ∀ b,ROwn y V b → w'.heap[b]? = w.heap[b]?) : RO base y c V W w' := by
  obtain ⟨cs,h1,h2⟩ := h.blk
  exact ⟨⟨cs,(k y.b (.inl rfl)).trans h1,h2⟩,fun i hi => (h.rows i hi).keep fun g hg => k g (.inr ⟨i,hi,hg⟩),h.bx,h.ty⟩
theorem RO.ext (h : RO base y c V W w) (k : Ext w w') : RO base y c V W w' := h.keep fun b hb => k.below.block b (h.own b hb).2
theorem RO.setC (h : RO base y c V W w) {i : Nat} (hi : i < 4) (u : Int) : RO base y (upd c i u) V W (w.setCell ⟨y.b,y.d + i,none⟩ (.int .i64 u)) := by
  obtain ⟨cs,h1,h2,h5,h6,h3⟩ := h.blk
  refine ⟨⟨_,set_same h1 _ _,by simpa using h2,h5,fun j hj hjd => ?_,fun j hj => ?_⟩,fun j hj => (h.rows j hj).keep fun g hg => Below.heap_setCell _ _ _ _ (by simpa using (h.row_lt hj hg).2.1),h.bx,h.ty⟩
  · rw [Array.getElem?_setIfInBounds,if_neg (by omega)]; exact h6 j hj hjd
  obtain ⟨e1,e2⟩ := h3 j hj
  rw [Array.getElem?_setIfInBounds,Array.getElem?_setIfInBounds,if_neg (show ¬ y.d + i = y.d + 4 + j by omega)]
  refine ⟨?_,e2⟩
  by_cases e : j = i
  · subst e; rw [if_pos rfl,upd_same,if_pos (by omega)]
  · rw [if_neg (by omega),upd_other e]; exact e1
theorem RO.setW (h : RO base y c V W w) {i : Nat} (hi : i < 4) {u : Value} {l : List Int} (hu : RW base w u l) : RO base y c (upd V i u) (upd W i l) (w.setCell ⟨y.b,y.d + 4 + i,none⟩ u) := by
  obtain ⟨cs,h1,h2,h5,h6,h3⟩ := h.blk
  have hk : ∀ g,g ≠ y.b → (w.setCell ⟨y.b,y.d + 4 + i,none⟩ u).heap[g]? = w.heap[g]? := fun g hg => Below.heap_setCell _ _ _ _ (by simpa using hg)
  refine ⟨⟨_,set_same h1 _ _,by simpa using h2,h5,fun j hj hjd => ?_,fun j hj => ?_⟩,fun j hj => ?_,h.bx,h.ty⟩
  · rw [Array.getElem?_setIfInBounds,if_neg (by omega)]; exact h6 j hj hjd
  · obtain ⟨e1,e2⟩ := h3 j hj
    rw [Array.getElem?_setIfInBounds,Array.getElem?_setIfInBounds,if_neg (show ¬ y.d + 4 + i = y.d + j by omega)]
    refine ⟨e1,?_⟩
    by_cases e : j = i
    · subst e; rw [if_pos rfl,upd_same,if_pos (by omega)]
    · rw [if_neg (by omega),upd_other e]; exact e2
  · by_cases e : j = i
    · subst e
      rw [upd_same,upd_same]
      refine hu.keep fun g hg => hk g ?_
      obtain ⟨_,cur,q⟩ := hu.blk hg
      exact rw_far q h1 h.ty
    · rw [upd_other e,upd_other e]
      exact (h.rows j hj).keep fun g hg => hk g (h.row_lt hj hg).2.1
theorem ro_mv {V' : Nat → Value} (h : Mvp (ROwn y V) (ROwn y V) w w') (k : ∀ i,i < 4 → ∀ g,sblk (V' i) = some g → ROwn y V g ∨ w.heap.size ≤ g) : Mvp (ROwn y V) (ROwn y V') w w' :=
  ⟨h.os,h.tape,h.output,h.size,h.block,fun g hg => by
    rcases hg with rfl | ⟨i,hi,hg⟩
    · exact .inl (.inl rfl)
    · exact k i hi g hg⟩
end
set_option maxHeartbeats 1000000 in
theorem obj_in (w : World) {i : Nat} (hi : i < 4) : Calls Tryz.prog 94 #[.int .i64 i] w fun e w' => e = .returned (.bool true) ∧ w' = w := by
  have i1 : decide ((0 : Int) ≤ (i : Int)) = true := by rw [decide_eq_true_iff]; omega
  have i2 : decide ((i : Int) < 4) = true := by rw [decide_eq_true_iff]; omega
  have i3 : (i : Int) < 4 := by omega
  go_enter Tryz.func94,Tryz.ntmps94
  go_wp2
  go_returns
  exact ⟨by simp [i3],rfl⟩
set_option maxHeartbeats 1000000 in
theorem obj_out (w : World) {o : Int} (h : o < 0 ∨ 4 ≤ o) : Calls Tryz.prog 94 #[.int .i64 o] w fun e w' => e = .returned (.bool false) ∧ w' = w := by
  by_cases h0 : o < 0
  · have i1 : decide (0 ≤ o) = false := by rw [decide_eq_false_iff_not]; omega
    clear h h0
    go_enter Tryz.func94,Tryz.ntmps94
    go_wp2
    go_returns
    exact ⟨rfl,rfl⟩
  · have i1 : decide (0 ≤ o) = true := by rw [decide_eq_true_iff]; omega
    have i2 : decide (o < 4) = false := by rw [decide_eq_false_iff_not]; omega
    clear h h0
    go_enter Tryz.func94,Tryz.ntmps94
    go_wp2
    go_returns
    exact ⟨rfl,rfl⟩
set_option maxHeartbeats 4000000 in
theorem has_any (w : World) (v : Value) (l : List Int) (id : Int) (h : Ints w v l) (hl : l.length ≤ 1000000) : Calls Tryz.prog 95 #[v,.int .i64 id] w (Yields w (.bool (l.contains id))) := by
  obtain ⟨p,cap,rfl,-,-⟩ := h.shape
  have HL := hid h
  have HB := hid hl
  clear h hl
  go_enter Tryz.func95,Tryz.ntmps95
  go_wp2_with fail
  go_loopw [5] (fun s wr => ∃ j : Nat,s = .int .i64 j ∧ j ≤ l.length ∧ Ext w wr ∧ Hid ((l.take j).contains id = false)) (fun s _ => (l.length - intOf s).toNat)
  case atStart => exact ⟨0,rfl,by omega,Ext.refl _,rfl⟩
  case round =>
    obtain ⟨j,rfl,hj,hx,hno⟩ := hrel
    have hb := HB.out
    by_cases hlt : j < l.length
    · obtain ⟨g,off,rfl,c0⟩ := HL.out.at j hlt
      simp only [Nat.mul_one] at c0
      have c1 := hx.cell c0
      have i2 : (j : Int) < (l.length : Int) := by omega
      have ht : Hid (l.take (j + 1) = l.take j ++ [l[j]]) := List.take_succ_eq_append_getElem hlt
      have hc : Hid (l.contains id = (l.take j ++ (l[j] :: l.drop (j + 1))).contains id) := by rw [Hid,← List.drop_eq_getElem_cons hlt,List.take_append_drop]
      generalize l[j] = P at *
      clear c0
      by_cases hp : P = id
      · have hq : (P == id) = true := by simpa using hp
        have HP := hid hp
        clear hp
        go_wp2
        go_returns
        refine ⟨?_,hx⟩
        rw [hc.out]
        simp [HP.out]
      · have hq : (P == id) = false := by simpa using hp
        have HP := hid hp
        clear hp
        go_wp2
        go_roundw
        case rel => exact ⟨j + 1,by go_num,by omega,hx,by rw [Hid,ht.out,List.contains_append,hno.out]; simp; exact fun e => HP.out e.symm⟩
        case measure => simp [intOf]; omega
    · obtain rfl : j = l.length := by omega
      go_wp2
      go_returns
      have := hno.out
      rw [List.take_length] at this
      exact ⟨by rw [this]; rfl,hx⟩
theorem has_to {w : World} {v : Value} {l : List Int} {id : Int} {r : Bool} (h : Ints w v l) (hl : l.length ≤ 1000000) (e : l.contains id = r) : Calls Tryz.prog 95 #[v,.int .i64 id] w (Yields w (.bool r)) := e ▸ has_any w v l id h hl
end Ko
end Go.Proofs.YtocicffmajbecaaGreatDoor
namespace Go.Proofs.YtocicffmajbecaaGreatDoor
open Go.RowKit
set_option maxRecDepth 100000
set_option linter.unusedSimpArgs false
namespace Ko
open Ob (upd upd_same upd_other four flat)
section
variable {base : Nat} {y : Site} {c : Nat → Int} {V : Nat → Value} {W : Nat → List Int} {w w' : World}
set_option maxHeartbeats 1000000 in
theorem signal_form (w : World) {o : Int} (h : o < 0 ∨ 4 ≤ o) : Calls Tryz.prog 64 #[.pointer (some ⟨y.b,y.d,none⟩),.int .i64 o] w fun e w' => e = .returned (.tuple #[.int .i64 0,.bool false,.int .i64 10]) ∧ w' = w := by
  have CF := hid (obj_out w h)
  clear h
  go_enter Tryz.func64,Tryz.ntmps64
  go_wp2_with (go_at_call 94; (with_reducible refine CF.out.mono ?_); rintro e w2 ⟨rfl,hw2⟩; rw [hw2]; clear hw2; clear w2)
  go_returns
  exact ⟨rfl,rfl⟩
set_option maxHeartbeats 2000000 in
theorem signal_none (h : RO base y c V W w) {i : Nat} (hi : i < 4) (hr : W i = []) (hc : 0 ≤ c i ∧ c i ≤ 255) :
    Calls Tryz.prog 64 #[.pointer (some ⟨y.b,y.d,none⟩),.int .i64 i] w fun v w' => v = .returned (.tuple #[.int .i64 0,.bool false,.int .i64 0]) ∧ RO base y (upd c i (min (c i + 1) 255)) V W w' ∧ Mvp (ROwn y V) (ROwn y V) w w' := by
  have CF := hid (obj_in w hi)
  obtain ⟨c0,c1⟩ := h.cell hi
  obtain ⟨p,cap,hv,-,-⟩ := (h.rows i hi).shape
  rw [hr] at hv
  have hv : V i = .slice p 0 cap := hv
  rw [hv] at c1
  have f0 := h.free (y.d + i)
  have hy := h.lt
  have HH := hid h
  have HI := hid hi
  have HC := hid hc
  have hwr : IntKind.i64.wrap (c i + 1) = c i + 1 := IntWalk.i64_in _ (by omega)
  have i1 : (i : Int) < 4 := by omega
  clear h hc hi hr hv
  by_cases hlt : c i < 255
  · have hm1 : min (c i + 1) 255 = c i + 1 := by omega
    have HF := hid (HH.out.setC HI.out (c i + 1))
    go_enter Tryz.func64,Tryz.ntmps64
    go_wp2_with (go_at_call 94; (with_reducible refine CF.out.mono ?_); rintro e w2 ⟨rfl,hw2⟩; rw [hw2]; clear hw2; clear w2)
    go_region
    go_wp2
    go_returns
    rw [hm1]
    exact ⟨rfl,HF.out.ext (Ext.drew (Ext.refl _)),((Mvp.refl _ w).set (g := y.b) (.inl rfl) _ _).ext (Ext.drew (Ext.refl _))⟩
  · have hce : c i = 255 := by have := HC.out; omega
    have hm1 : min (c i + 1) 255 = 255 := by omega
    have HF := hid (HH.out.setC HI.out 255)
    rw [← hm1] at HF
    rw [hce] at c0
    clear hwr
    go_enter Tryz.func64,Tryz.ntmps64
    go_wp2_with (go_at_call 94; (with_reducible refine CF.out.mono ?_); rintro e w2 ⟨rfl,hw2⟩; rw [hw2]; clear hw2; clear w2)
    go_region
    go_wp2
    go_returns
    rw [hm1] at HF ⊢
    exact ⟨rfl,HF.out.ext (Ext.drew (Ext.refl _)),((Mvp.refl _ w).set (g := y.b) (.inl rfl) _ _).ext (Ext.drew (Ext.refl _))⟩
set_option maxHeartbeats 2000000 in
theorem signal_one (h : RO base y c V W w) {i : Nat} (hi : i < 4) {id : Int} {rest : List Int} (hr : W i = id :: rest) (hl : (W i).length ≤ 1000000) :
    Calls Tryz.prog 64 #[.pointer (some ⟨y.b,y.d,none⟩),.int .i64 i] w fun v w' => v = .returned (.tuple #[.int .i64 id,.bool true,.int .i64 0]) ∧ ∃ V',RO base y c V' (upd W i rest) w' ∧ Mvp (ROwn y V) (ROwn y V') w w' := by
  have CF := hid (obj_in w hi)
  obtain ⟨c0,c1⟩ := h.cell hi
  have hrow := h.rows i hi
  rw [hr] at hrow hl
  rcases hrow with ⟨_,q⟩ | ⟨g,off,cap,cur,hv,h1,h2,h3,h4,h5⟩
  · cases q
  rw [hv] at c1
  have k0 : w.cell? ⟨g,off,none⟩ = some (.int .i64 id) := by have := h5 0 id rfl; simp [World.cell?,h4,← this]
  have f0 := h.free (y.d + 4 + i)
  have hy := h.lt
  have HH := hid h
  have HI := hid hi
  have i1 : (i : Int) < 4 := by omega
  simp only [List.length_cons] at c1 h1 hl
  obtain ⟨p1,hp1⟩ : ∃ p1,p1 = (if cap = 1 then some ⟨g,off,none⟩ else (some (⟨g,off,none⟩ : Addr)).map (·.add (1 * 1))) := ⟨_,rfl⟩
  obtain ⟨c2,hc2⟩ : ∃ c2,c2 = cap - 1 := ⟨_,rfl⟩
  have hsl : ∀ w,(Instr.slice 50 (.slice (some ⟨g,off,none⟩) (rest.length + 1) cap) (some (.int .i64 1)) none none).run Tryz.prog w = .ok (.slice p1 rest.length c2) w := fun w => by
    rw [run_slice_l w 50 (some ⟨g,off,none⟩) (rest.length + 1) cap Tryz.underlying50 .i64 1 (by omega) (by omega),hp1,hc2]
    rfl
  have HRW : Hid (∀ w',Ext w w' → RW base w' (.slice p1 rest.length c2) rest) := fun w' hx => by
    rw [hp1,hc2]
    refine .inr ?_
    have h4' : w'.heap[g]? = some (.cells cur 3 (0,0)) := by rw [hx.below.block g (lt_blk h4)]; exact h4
    by_cases e : cap = 1
    · rw [if_pos e]
      have : rest = [] := List.eq_nil_of_length_eq_zero (by omega)
      subst this
      exact ⟨g,off,cap - 1,cur,rfl,by simp,by unfold maxLen at *; omega,h3,h4',fun i x hx => by simp at hx⟩
    · rw [if_neg e]
      refine ⟨g,off + 1,cap - 1,cur,by simp [add_add],by omega,by unfold maxLen at *; omega,h3,h4',fun i x hi => ?_⟩
      have := h5 (i + 1) x (by simpa using hi)
      rw [show off + 1 + i = off + (i + 1) by omega]
      exact this
  have HG : Hid (sblk (.slice p1 rest.length c2) = some g) := by
    show sblk _ = some g
    rw [hp1]
    split
    · rfl
    · simp [sblk,add_add]
  have HV := hid hv
  have hgl := lt_blk h4
  have i2 : (0 : Int) < (rest.length : Int) + 1 := by omega
  generalize rest.length = n at *
  clear h h3 h4 h5 hr hv hp1 hc2 hi
  go_enter Tryz.func64,Tryz.ntmps64
  go_wp2_with (go_at_call 94; (with_reducible refine CF.out.mono ?_); rintro e w2 ⟨rfl,hw2⟩; rw [hw2]; clear hw2; clear w2)
  go_region
  go_wp2
  go_returns
  refine ⟨rfl,_,(HH.out.setW HI.out (HRW.out w (Ext.refl _))).ext (Ext.drew (Ext.refl _)),ro_mv (((Mvp.refl _ w).set (g := y.b) (.inl rfl) _ _).ext (Ext.drew (Ext.refl _))) fun j hj k hk => .inl ?_⟩
  by_cases e : j = i
  · subst e
    rw [upd_same,HG.out] at hk
    cases hk
    exact .inr ⟨j,hj,by rw [HV.out]; rfl⟩
  · rw [upd_other e] at hk
    exact .inr ⟨j,hj,hk⟩
end
end Ko
end Go.Proofs.YtocicffmajbecaaGreatDoor
namespace Go.Proofs.YtocicffmajbecaaGreatDoor
open Go.RowKit
set_option maxRecDepth 100000
set_option linter.unusedSimpArgs false
namespace Ko
open Ob (upd upd_same upd_other four flat)
theorem blk_cell {w : World} {b : Nat} {cs : Array Value} {T : TypeId} (h : w.heap[b]? = some (.cells cs T (0,0))) (j : Nat) : w.cell? ⟨b,j,none⟩ = cs[j]? := by simp [World.cell?,h]
section
variable {base : Nat} {y : Site} {c : Nat → Int} {V : Nat → Value} {W : Nat → List Int} {w w' : World}
set_option maxHeartbeats 1000000 in
theorem wait_form (w : World) {o : Int} (h : o < 0 ∨ 4 ≤ o) (id : Int) : Calls Tryz.prog 62 #[.pointer (some ⟨y.b,y.d,none⟩),.int .i64 id,.int .i64 o] w fun e w' => e = .returned (.tuple #[.bool false,.int .i64 10]) ∧ w' = w := by
  have CF := hid (obj_out w h)
  clear h
  go_enter Tryz.func62,Tryz.ntmps62
  go_wp2_with (go_at_call 94; (with_reducible refine CF.out.mono ?_); rintro e w2 ⟨rfl,hw2⟩; rw [hw2]; clear hw2; clear w2)
  go_returns
  exact ⟨rfl,rfl⟩
set_option maxHeartbeats 4000000 in
theorem wait_clash (h : RO base y c V W w) {i : Nat} (hi : i < 4) {id : Int} (hl : ∀ j,j < 4 → (W j).length ≤ 1000000) (hcl : ∃ j,j < 4 ∧ (W j).contains id = true) :
    Calls Tryz.prog 62 #[.pointer (some ⟨y.b,y.d,none⟩),.int .i64 id,.int .i64 i] w fun e w' => e = .returned (.tuple #[.bool false,.int .i64 20]) ∧ Ext w w' := by
  have CF := hid (obj_in w hi)
  have HH := hid h
  have HL := hid hl
  have HC := hid hcl
  have hy0 := h.lt
  clear h hl hcl hi
  go_enter Tryz.func62,Tryz.ntmps62
  go_wp2_with (go_at_call 94; (with_reducible refine CF.out.mono ?_); rintro e w2 ⟨rfl,hw2⟩; rw [hw2]; clear hw2; clear w2)
  go_loopw [8] (fun s wr => ∃ j : Nat,s = .int .i64 j ∧ j ≤ 4 ∧ Ext w wr ∧ Hid (∀ t,t < j → (W t).contains id = false)) (fun s _ => (4 - intOf s).toNat)
  case atStart => exact ⟨0,rfl,by omega,Ext.refl _,fun t ht => by omega⟩
  case round =>
    obtain ⟨j,rfl,hj,hx,hno⟩ := hrel
    by_cases hlt : j < 4
    · have i1 : (j : Int) < 4 := by omega
      have hR := HH.out.ext hx
      obtain ⟨-,c1⟩ := hR.cell hlt
      have hy := hR.lt
      have HI := hid (hR.rows j hlt).ints
      obtain ⟨p,cap,hv,-,-⟩ := (hR.rows j hlt).shape
      rw [hv] at c1 HI
      have HLJ := hid (HL.out j hlt)
      clear hR hv
      cases hq : (W j).contains id with
      | true =>
        have HQ := hid hq
        clear hq
        go_wp2_with (go_at_call 95; (with_reducible refine (has_to HI.out HLJ.out HQ.out).yields ?_); intro p1)
        go_returns
        exact ⟨rfl,hx.trans (ext_more _ _)⟩
      | false =>
        have HQ := hid hq
        have HNO : Hid (∀ t,t < j + 1 → (W t).contains id = false) := fun t ht => by
          rcases Nat.lt_or_ge t j with h1 | h1
          · exact hno.out t h1
          · obtain rfl : t = j := by omega
            exact HQ.out
        clear hq hno
        go_wp2_with (go_at_call 95; (with_reducible refine (has_to HI.out HLJ.out HQ.out).yields ?_); intro p1)
        go_roundw
        case rel => exact ⟨j + 1,by go_num,by omega,hx.trans (ext_more _ _),HNO⟩
        case measure => simp [intOf]; omega
    · obtain rfl : j = 4 := by omega
      obtain ⟨t,h1,h2⟩ := HC.out
      have := hno.out t h1
      rw [h2] at this
      cases this
theorem ro_push {z0 v3 : World} (h : RO base y c V W z0) (hb : base ≤ z0.heap.size) {i : Nat} (hi : i < 4) (hx : Ext z0 v3) {u : Value} {l : List Int} (ho : v3.ownsRow z0.heap.size 3 1 u l.length (l.map fun k => .int .i64 k)) :
    RO base y c (upd V i u) (upd W i l) (v3.setCell ⟨y.b,y.d + 4 + i,none⟩ u) ∧ Mvp (ROwn y V) (ROwn y (upd V i u)) z0 (v3.setCell ⟨y.b,y.d + 4 + i,none⟩ u) := by
  refine ⟨(h.ext hx).setW hi (RW.of_owns ho hb),ro_mv ((Mvp.of_ext hx).set (g := y.b) (.inl rfl) _ _) fun j hj k hk => ?_⟩
  by_cases e : j = i
  · subst e
    rw [upd_same] at hk
    rcases ho.2 with ⟨rfl,_⟩ | ⟨g,cap,cur,rfl,e2,_⟩
    · cases hk
    · cases hk
      exact .inr e2
  · rw [upd_other e] at hk
    exact .inl (.inr ⟨j,hj,hk⟩)
set_option maxHeartbeats 4000000 in
theorem wait_on (h : RO base y c V W w) {i : Nat} (hi : i < 4) {id : Int} (hl : ∀ j,j < 4 → (W j).length ≤ 1000000) (hno0 : ∀ j,j < 4 → (W j).contains id = false) (hc : 0 < c i) (hc' : c i ≤ 255) :
    Calls Tryz.prog 62 #[.pointer (some ⟨y.b,y.d,none⟩),.int .i64 id,.int .i64 i] w fun e w' => e = .returned (.tuple #[.bool true,.int .i64 0]) ∧ RO base y (upd c i (c i - 1)) V W w' ∧ Mvp (ROwn y V) (ROwn y V) w w' := by
  have CF := hid (obj_in w hi)
  have HH := hid h
  have HL := hid hl
  have HNO := hid hno0
  have HI0 := hid hi
  have HC0 := hid hc
  have hy0 := h.lt
  have hwr : IntKind.i64.wrap (c i - 1) = c i - 1 := IntWalk.i64_in _ (by omega)
  have i0 : (i : Int) < 4 := by omega
  clear h hl hno0 hi
  go_enter Tryz.func62,Tryz.ntmps62
  go_wp2_with (go_at_call 94; (with_reducible refine CF.out.mono ?_); rintro e w2 ⟨rfl,hw2⟩; rw [hw2]; clear hw2; clear w2)
  go_loopw [8] (fun s wr => ∃ j : Nat,s = .int .i64 j ∧ j ≤ 4 ∧ Ext w wr) (fun s _ => (4 - intOf s).toNat)
  case atStart => exact ⟨0,rfl,by omega,Ext.refl _⟩
  case round =>
    obtain ⟨j,rfl,hj,hx⟩ := hrel
    have hR := HH.out.ext hx
    have hy := hR.lt
    by_cases hlt : j < 4
    · have i1 : (j : Int) < 4 := by omega
      obtain ⟨-,c1⟩ := hR.cell hlt
      have HI := hid (hR.rows j hlt).ints
      obtain ⟨p,cap,hv,-,-⟩ := (hR.rows j hlt).shape
      rw [hv] at c1 HI
      have HLJ := hid (HL.out j hlt)
      have HQ := hid (HNO.out j hlt)
      clear hR hv
      go_wp2_with (go_at_call 95; (with_reducible refine (has_to HI.out HLJ.out HQ.out).yields ?_); intro p1)
      go_roundw
      case rel => exact ⟨j + 1,by go_num,by omega,hx.trans (ext_more _ _)⟩
      case measure => simp [intOf]; omega
    · obtain rfl : j = 4 := by omega
      obtain ⟨c0,-⟩ := hR.cell HI0.out
      have f0 := hR.free (y.d + i)
      have HF := hid (hR.setC HI0.out (c i - 1))
      have HX := hid hx
      clear hR hx
      go_wp2_with fail
      go_region
      go_wp2
      go_returns
      exact ⟨rfl,HF.out.ext (Ext.drew (Ext.refl _)),Mvp.ahead HX.out (((Mvp.refl _ wr).set (g := y.b) (.inl rfl) _ _).ext (Ext.drew (Ext.refl _)))⟩
set_option maxHeartbeats 4000000 in
theorem wait_wait (h : RO base y c V W w) (hb : base ≤ w.heap.size) {i : Nat} (hi : i < 4) {id : Int} (hl : ∀ j,j < 4 → (W j).length ≤ 1000000) (hno0 : ∀ j,j < 4 → (W j).contains id = false) (hc : c i = 0) :
    Calls Tryz.prog 62 #[.pointer (some ⟨y.b,y.d,none⟩),.int .i64 id,.int .i64 i] w fun e w' => e = .returned (.tuple #[.bool false,.int .i64 0]) ∧ ∃ V',RO base y c V' (upd W i (W i ++ [id])) w' ∧ Mvp (ROwn y V) (ROwn y V') w w' := by
  have CF := hid (obj_in w hi)
  have HH := hid h
  have HL := hid hl
  have HNO := hid hno0
  have HI0 := hid hi
  have HB := hid hb
  have HC0 := hid hc
  have hy0 := h.lt
  have i0 : (i : Int) < 4 := by omega
  clear h hl hno0 hi hc hb
  go_enter Tryz.func62,Tryz.ntmps62
  go_wp2_with (go_at_call 94; (with_reducible refine CF.out.mono ?_); rintro e w2 ⟨rfl,hw2⟩; rw [hw2]; clear hw2; clear w2)
  go_loopw [8] (fun s wr => ∃ j : Nat,s = .int .i64 j ∧ j ≤ 4 ∧ Ext w wr) (fun s _ => (4 - intOf s).toNat)
  case atStart => exact ⟨0,rfl,by omega,Ext.refl _⟩
  case round =>
    obtain ⟨j,rfl,hj,hx⟩ := hrel
    have hR := HH.out.ext hx
    have hy := hR.lt
    by_cases hlt : j < 4
    · have i1 : (j : Int) < 4 := by omega
      obtain ⟨-,c1⟩ := hR.cell hlt
      have HI := hid (hR.rows j hlt).ints
      obtain ⟨p,cap,hv,-,-⟩ := (hR.rows j hlt).shape
      rw [hv] at c1 HI
      have HLJ := hid (HL.out j hlt)
      have HQ := hid (HNO.out j hlt)
      clear hR hv
      go_wp2_with (go_at_call 95; (with_reducible refine (has_to HI.out HLJ.out HQ.out).yields ?_); intro p1)
      go_roundw
      case rel => exact ⟨j + 1,by go_num,by omega,hx.trans (ext_more _ _)⟩
      case measure => simp [intOf]; omega
    · obtain rfl : j = 4 := by omega
      obtain ⟨c0,c1⟩ := hR.cell HI0.out
      rw [HC0.out] at c0
      obtain ⟨p,cap,hv,hcap,-⟩ := (hR.rows i HI0.out).shape
      have SR := hid (hR.rows i HI0.out).src
      have HR := hid hR
      have HX := hid hx
      have HLI := hid (HL.out i HI0.out)
      rw [hv] at c1
      have HV := hid hv
      clear hR hx hv hcap
      obtain ⟨n,hn⟩ : ∃ n,n = (W i).length := ⟨_,rfl⟩
      have HN : Hid ((W i).length = n) := hn.symm
      rw [← hn] at c1 SR HLI HV
      have HNL : Hid (n ≤ 1000000) := HLI.out
      clear hn
      go_wp2_with fail
      refine wp_region_T 15 1 (fun u => u.cell? ⟨y.b,y.d + 4 + i,none⟩ = some (.slice p n cap)) (by kernel_rfl) (by kernel_rfl) ?_
      have HZ : Hid (Ext wr wr.drew) := Ext.drew (Ext.refl wr)
      have HR0 := hid (HR.out.ext HZ.out)
      have SR0 := hid (SR.out.ext HZ.out)
      rw [HV.out] at SR0
      have HSF : Hid (∀ u,Ext wr.drew u → u.cell? ⟨y.b,y.d + 4 + i,none⟩ = some (.slice p n cap)) := fun u hu => by
        have := ((HR0.out.ext hu).cell HI0.out).2
        rw [HV.out] at this
        exact this
      clear c0 c1 SR HR
      generalize wr.drew = z0 at *
      have HSS := HSF.out z0 (Ext.refl _)
      refine wpT_tk 0 HSS ?_; (try simp only [nrm])
      refine wpT_tk 1 HSS ?_; (try simp only [nrm])
      refine wpT_tk 2 HSS ?_; (try simp only [nrm])
      refine wpT_tk 3 HSS ?_; (try simp only [nrm])
      refine wpT_tk 4 HSS ?_; (try simp only [nrm])
      refine wpT_tk 5 HSS ?_; (try simp only [nrm])
      refine wpT_tk 6 HSS ?_; (try simp only [nrm])
      refine wpT_tk 7 HSS ?_; (try simp only [nrm])
      refine wpT_tk 9 HSS ?_; (try simp only [nrm])
      refine wpT_tk 12 HSS ?_; (try simp only [nrm])
      refine wpT_tk 13 HSS ?_; (try simp only [nrm])
      refine wpT_two 8 10 rfl rfl (by kernel_rfl) (by rfl) (by rfl) (fun K' hK => ?_) (fun K' hK => ?_)
      · skip
        have HXa : Hid (Ext z0 z0) := Ext.refl z0
        refine Rw.wp_append_src (.const (.slice none 0 0)) (.tmp 50) 50 3 (.int .i64 0) 1 8 rfl Tryz.underlying50 infoI rfl (by decide) (World.ownsRow_nil _ z0.heap.size _ _) rfl rfl (SR0.out.ext HXa.out) (ints_oneCell .i64 _) (by have := HNL.out; unfold maxLen; omega) (by have := HNL.out; omega) (Nat.le_refl _) ?_
        intro r1 v1 ho1 hb1
        have HX1 : Hid (Ext z0 v1) := HXa.out.trans ⟨hb1⟩
        simp only [List.nil_append,Nat.zero_add] at ho1
        have HO1 := hid ho1
        clear ho1 hb1 HXa
        refine hK.out _ _ (HSF.out _ HX1.out) ?_
        clear hK K' HSS
        have HSS := HSF.out _ HX1.out
        (try simp only [nrm])
        refine wpT_on 10 (fun K' hK => ?_)
        go_simp
        have HX2 : Hid (Ext z0 (v1.alloc (.cells #[.int .i64 id] 3 (0,0)))) := HX1.out.alloc _
        have HO2 := hid (owns_ext HO1.out (Ext.alloc (Ext.refl v1) (.cells #[.int .i64 id] 3 (0,0))))
        have HB2 : Hid ((v1.alloc (.cells #[.int .i64 id] 3 (0,0))).heap[v1.heap.size]? = some (.cells #[.int .i64 id] 3 (0,0))) := heap_alloc_new v1 _
        refine hK.out _ _ (HSF.out _ HX2.out) ?_
        clear hK K' HSS HO1 HX1
        have HSS := HSF.out _ HX2.out
        (try simp only [nrm])
        generalize v1.alloc (.cells #[.int .i64 id] 3 (0,0)) = v2 at *
        generalize v1.heap.size = B at *
        clear v1
        refine wpT_on 11 (fun K' hK => ?_)
        refine Rw.wp_append_src (.tmp 51) (.tmp 53) 50 3 (.int .i64 0) 1 8 rfl Tryz.underlying50 infoI rfl (by decide) HO2.out (m2 := 1) (news := [.int .i64 id]) rfl rfl (.inr ⟨⟨B,0,none⟩,1,rfl,rfl,by intro j u hj; rw [add_add,Nat.zero_add,blk_cell HB2.out j]; simpa using hj⟩) (ints_oneCell .i64 [id]) (by have := HNL.out; unfold maxLen; omega) (by have := HNL.out; omega) HX2.out.size ?_
        intro r3 v3 ho3 hb3
        obtain ⟨p4,c4,rfl⟩ := Rw.owns_shape ho3
        have HO3 := hid ho3
        have HX3 : Hid (Ext z0 v3) := ⟨Below.trans HX2.out.below hb3⟩
        clear ho3 hb3
        refine hK.out _ _ (HSF.out _ HX3.out) ?_
        clear hK K' HSS HX2 HO2 HB2
        have HSS := HSF.out _ HX3.out
        (try simp only [nrm])
        refine wpT_tk 14 HSS ?_; (try simp only [nrm])
        refine wpT_done (by kernel_rfl) ?_
        refine wpAny_on 15 (fun K' hK => ?_)
        have g0 := HSS
        have f0 := (HR0.out.ext HX3.out).free (y.d + 4 + i)
        clear HSS
        go_simp
        refine hK.out _ _ ?_
        clear hK K' g0 f0
        (try simp only [nrm])
        refine wpAny_done (by kernel_rfl) ?_ _
        have hrow : v3.ownsRow z0.heap.size 3 1 (.slice p4 (n + 1) c4) (W i ++ [id]).length ((W i ++ [id]).map fun k => .int .i64 k) := by
          rw [List.length_append,HN.out,List.map_append]
          exact HO3.out
        have FIN := hid (ro_push HR0.out (Nat.le_trans HB.out (Nat.le_trans HX.out.size HZ.out.size)) HI0.out HX3.out hrow)
        clear hrow HO3
        simp only [Exit.then]
        refine ‹∀ (a : Act) (w : World),Code.wp _ _ _ a w → _› _ _ ?_
        go_wp2
        go_returns
        exact ⟨rfl,_,FIN.out.1,Mvp.ahead (HX.out.trans HZ.out) FIN.out.2⟩
      · skip
        go_simp
        have HXa : Hid (Ext z0 (z0.alloc (.cells #[.int .i64 id] 3 (0,0)))) := (Ext.refl z0).alloc _
        have HBa : Hid ((z0.alloc (.cells #[.int .i64 id] 3 (0,0))).heap[z0.heap.size]? = some (.cells #[.int .i64 id] 3 (0,0))) := heap_alloc_new z0 _
        refine hK.out _ _ (HSF.out _ HXa.out) ?_
        clear hK K' HSS
        have HSS := HSF.out _ HXa.out
        (try simp only [nrm])
        obtain ⟨B,hB⟩ : ∃ B,B = z0.heap.size := ⟨_,rfl⟩
        rw [← hB] at HBa
        rw [← hB]
        clear hB
        generalize z0.alloc (.cells #[.int .i64 id] 3 (0,0)) = y1 at *
        refine wpT_on 8 (fun K' hK => ?_)
        refine Rw.wp_append_src (.const (.slice none 0 0)) (.tmp 50) 50 3 (.int .i64 0) 1 8 rfl Tryz.underlying50 infoI rfl (by decide) (World.ownsRow_nil _ y1.heap.size _ _) rfl rfl (SR0.out.ext HXa.out) (ints_oneCell .i64 _) (by have := HNL.out; unfold maxLen; omega) (by have := HNL.out; omega) (Nat.le_refl _) ?_
        intro r1 v2 ho1 hb1
        have HX1 : Hid (Ext y1 v2) := ⟨hb1⟩
        have HX2 : Hid (Ext z0 v2) := HXa.out.trans HX1.out
        simp only [List.nil_append,Nat.zero_add] at ho1
        have HO2 := hid (owns_base ho1 HXa.out.size)
        have HB2 : Hid (v2.heap[B]? = some (.cells #[.int .i64 id] 3 (0,0))) := by
          show _ = _
          rw [HX1.out.below.block B (lt_blk HBa.out)]; exact HBa.out
        clear ho1 hb1 HXa HBa HX1
        refine hK.out _ _ (HSF.out _ HX2.out) ?_
        clear hK K' HSS
        have HSS := HSF.out _ HX2.out
        (try simp only [nrm])
        refine wpT_on 11 (fun K' hK => ?_)
        refine Rw.wp_append_src (.tmp 51) (.tmp 53) 50 3 (.int .i64 0) 1 8 rfl Tryz.underlying50 infoI rfl (by decide) HO2.out (m2 := 1) (news := [.int .i64 id]) rfl rfl (.inr ⟨⟨B,0,none⟩,1,rfl,rfl,by intro j u hj; rw [add_add,Nat.zero_add,blk_cell HB2.out j]; simpa using hj⟩) (ints_oneCell .i64 [id]) (by have := HNL.out; unfold maxLen; omega) (by have := HNL.out; omega) HX2.out.size ?_
        intro r3 v3 ho3 hb3
        obtain ⟨p4,c4,rfl⟩ := Rw.owns_shape ho3
        have HO3 := hid ho3
        have HX3 : Hid (Ext z0 v3) := ⟨Below.trans HX2.out.below hb3⟩
        clear ho3 hb3
        refine hK.out _ _ (HSF.out _ HX3.out) ?_
        clear hK K' HSS HX2 HO2 HB2
        have HSS := HSF.out _ HX3.out
        (try simp only [nrm])
        refine wpT_tk 14 HSS ?_; (try simp only [nrm])
        refine wpT_done (by kernel_rfl) ?_
        refine wpAny_on 15 (fun K' hK => ?_)
        have g0 := HSS
        have f0 := (HR0.out.ext HX3.out).free (y.d + 4 + i)
        clear HSS
        go_simp
        refine hK.out _ _ ?_
        clear hK K' g0 f0
        (try simp only [nrm])
        refine wpAny_done (by kernel_rfl) ?_ _
        have hrow : v3.ownsRow z0.heap.size 3 1 (.slice p4 (n + 1) c4) (W i ++ [id]).length ((W i ++ [id]).map fun k => .int .i64 k) := by
          rw [List.length_append,HN.out,List.map_append]
          exact HO3.out
        have FIN := hid (ro_push HR0.out (Nat.le_trans HB.out (Nat.le_trans HX.out.size HZ.out.size)) HI0.out HX3.out hrow)
        clear hrow HO3
        simp only [Exit.then]
        refine ‹∀ (a : Act) (w : World),Code.wp _ _ _ a w → _› _ _ ?_
        go_wp2
        go_returns
        exact ⟨rfl,_,FIN.out.1,Mvp.ahead (HX.out.trans HZ.out) FIN.out.2⟩
end
end Ko
end Go.Proofs.YtocicffmajbecaaGreatDoor
namespace Go.Proofs.YtocicffmajbecaaGreatDoor
open Go.RowKit
set_option maxRecDepth 100000
set_option linter.unusedSimpArgs false
namespace Ko
open Ob (upd upd_same upd_other four flat)
def thr (id : Int) (W : Nat → List Int) (j : Nat) : Nat → List Int := fun t => if t < j then (W t).filter (· != id) else W t
theorem thr_step (id : Int) (W : Nat → List Int) (j : Nat) : upd (thr id W j) j ((W j).filter (· != id)) = thr id W (j + 1) := by
  funext t
  unfold upd thr
  by_cases e : t = j
  · subst e; rw [if_pos rfl,if_pos (by omega)]
  · rw [if_neg e]
    by_cases h : t < j
    · rw [if_pos h,if_pos (by omega)]
    · rw [if_neg h,if_neg (by omega)]
def met (id : Int) (W : Nat → List Int) (j : Nat) : Bool := (List.range j).any fun t => (W t).contains id
theorem met_succ (id : Int) (W : Nat → List Int) (j : Nat) : met id W (j + 1) = (met id W j || (W j).contains id) := by
  unfold met
  rw [List.range_succ,List.any_append]
  simp
section
variable {base : Nat} {y : Site} {c : Nat → Int} {V : Nat → Value} {W : Nat → List Int} {w w' : World}
def Dr (base : Nat) (y : Site) (id : Int) (c : Nat → Int) (V : Nat → Value) (W : Nat → List Int) (w : World) (j : Nat) (wr : World) : Prop := ∃ V',RO base y c V' (thr id W j) wr ∧ Mvp (ROwn y V) (ROwn y V') w wr
theorem filter_step {l : List Int} {k : Nat} (hk : k < l.length) (id : Int) : (l.take (k + 1)).filter (· != id) = if l[k] = id then (l.take k).filter (· != id) else (l.take k).filter (· != id) ++ [l[k]] := by
  rw [List.take_succ_eq_append_getElem hk,List.filter_append]
  by_cases h : l[k] = id
  · simp [h]
  · simp [h]
theorem has_step {l : List Int} {k : Nat} (hk : k < l.length) (id : Int) : (l.take (k + 1)).contains id = ((l.take k).contains id || l[k] == id) := by
  rw [List.take_succ_eq_append_getElem hk,List.contains_append]
  congr 1
  simp only [List.contains_cons,List.contains_nil,Bool.or_false]
  exact BEq.comm
set_option maxHeartbeats 8000000 in
theorem drop_any (h : RO base y c V W w) (hb : base ≤ w.heap.size) (id : Int) (hl : ∀ j,j < 4 → (W j).length ≤ 1000000) :
    Calls Tryz.prog 55 #[.pointer (some ⟨y.b,y.d,none⟩),.int .i64 id] w fun e w' => e = .returned (.bool (met id W 4)) ∧ Dr base y id c V W w 4 w' := by
  have HL := hid hl
  have HB := hid hb
  have HD0 : Hid (Dr base y id c V W w 0 w) := ⟨V,by
    have : thr id W 0 = W := by funext t; unfold thr; rw [if_neg (by omega)]
    rw [this]; exact h,Mvp.refl _ _⟩
  clear h hb hl
  go_enter Tryz.func55,Tryz.ntmps55
  go_wp2_with fail
  go_loopw [6,5] (fun s b wr => ∃ j : Nat,s = .int .i64 j ∧ b = .bool (met id W j) ∧ j ≤ 4 ∧ Hid (Dr base y id c V W w j wr)) (fun s _ _ => (4 - intOf s).toNat)
  case atStart => exact ⟨0,rfl,rfl,by omega,HD0⟩
  case round =>
    obtain ⟨j,rfl,rfl,hj,hd⟩ := hrel
    clear HD0
    by_cases hlt : j < 4
    · have i1 : (j : Int) < 4 := by omega
      obtain ⟨V',hR,hM⟩ := hd.out
      have hrow := hR.rows j hlt
      rw [show thr id W j j = W j from if_neg (by omega)] at hrow
      have HW := hid hrow
      have HR := hid hR
      have HM := hid hM
      have HLJ := hid (HL.out j hlt)
      have HJ := hid hlt
      obtain ⟨-,c1⟩ := hR.cell hlt
      have hy := hR.lt
      have f1 := hR.free (y.d + 4 + j)
      obtain ⟨p,cap,hv,-,-⟩ := hrow.shape
      rw [hv] at c1
      have HV := hid hv
      obtain ⟨L,hL⟩ : ∃ L,L = W j := ⟨_,rfl⟩
      rw [← hL] at HW HLJ c1 HV
      have HLL := hid hL
      have hmet : Hid (met id W j = (met id W j || (L.take 0).contains id)) := by show _ = _; simp
      have hws := hM.size
      clear hd hrow hR hM hlt hv hL
      generalize wr = W0 at *
      generalize hm0 : met id W j = m0 at *
      have HM0 := hid hm0
      clear hm0 hmet
      go_wp2_with fail
      go_loopw [8,7,5] (fun s vl b wz => ∃ k : Nat,s = .int .i64 k ∧ b = .bool (m0 || (L.take k).contains id) ∧ k ≤ L.length ∧ Ext W0 wz ∧ Hid (wz.ownsRow W0.heap.size 3 1 vl ((L.take k).filter (· != id)).length (((L.take k).filter (· != id)).map fun k => .int .i64 k))) (fun s _ _ _ => (L.length - intOf s).toNat)
      case atStart => exact ⟨0,rfl,by simp,by omega,Ext.refl _,World.ownsRow_nil _ _ _ _⟩
      case round =>
        obtain ⟨k,rfl,rfl,hk,hx,hrow⟩ := hrel
        have hlb := HLJ.out
        have q1 := hx.cell c1
        have hwr := hx.size
        have hyr := Nat.lt_of_lt_of_le hy hwr
        by_cases hlt : k < L.length
        · have i4 : (k : Int) < (L.length : Int) := by omega
          have hI := HW.out.ints
          rw [HV.out] at hI
          obtain ⟨g,off,he,d0⟩ := hI.at k hlt
          clear hI
          subst he
          simp only [Nat.mul_one] at d0
          have q2 := hx.cell d0
          have hst := filter_step hlt id
          have hct := has_step hlt id
          have htk : ((L.take k).filter (· != id)).length ≤ k := Nat.le_trans (List.length_filter_le _ _) (List.length_take_le _ _)
          generalize L[k] = P at *
          clear d0
          by_cases hP : P = id
          · have i5 : (P == id) = true := by simpa using hP
            rw [if_pos hP] at hst
            rw [i5,Bool.or_true] at hct
            have HST := hid hst
            have HCT := hid hct
            clear hst hct hP htk
            go_wp2
            go_roundw
            case rel => exact ⟨k + 1,by go_num,by rw [HCT.out]; simp,by omega,hx,by rw [HST.out]; exact hrow⟩
            case measure => simp [intOf]; omega
          · have i5 : (P == id) = false := by simpa using hP
            rw [if_neg hP] at hst
            rw [i5,Bool.or_false] at hct
            have HST := hid hst
            have HCT := hid hct
            have HTK := hid htk
            clear hst hct hP htk
            go_wp2_with (at_builtin; refine wpList_push_own rfl (.tmp 35) (.tmp 45) 50 3 (.int .i64 0) 1 8 rfl Tryz.underlying50 infoI rfl (by decide) (w := wr) (base := W0.heap.size) hrow.out (news := [.int .i64 P]) rfl (ints_oneCell .i64 [P]) (by have := HTK.out; unfold maxLen; omega) (by have := HTK.out; omega) hwr (by rfl) (nb := wr.heap.size) (by rfl) rfl ?_; intro p1 c1' w1 ho1 hb1; have HO := hid ho1; have HX : Hid (Ext W0 w1) := ⟨Below.trans hx.below hb1⟩; clear ho1 hb1)
            go_roundw
            case rel => exact ⟨k + 1,by go_num,by rw [HCT.out]; simp,by omega,HX.out,by rw [HST.out,List.length_append,List.map_append]; exact HO.out⟩
            case measure => simp [intOf]; omega
        · obtain rfl : k = L.length := by omega
          rw [List.take_length] at hrow ⊢
          have q3 : wr.frozen? ⟨y.b,y.d + 4 + j,none⟩ = false := by rw [hx.below.frozen hy]; exact f1
          obtain ⟨p2,c2,rfl⟩ := Rw.owns_shape hrow.out
          have HFIN := hid (ro_push HR.out (Nat.le_trans HB.out hws) HJ.out hx hrow.out)
          have HJ4 : Hid (j + 1 ≤ 4) := by have := HJ.out; show _ ≤ _; omega
          have hml := hid (show met id W (j + 1) = (m0 || L.contains id) by rw [met_succ,HM0.out,HLL.out])
          generalize hN : (L.filter (· != id)).length = N at *
          have HNN := hid hN
          clear hN hrow
          go_wp2
          go_roundw
          case rel =>
            refine ⟨j + 1,by go_num,by rw [hml.out],HJ4.out,_,?_,HM.out.trans HFIN.out.2⟩
            have h1 := HFIN.out.1
            rw [HLL.out,thr_step] at h1
            exact h1
          case measure => simp [intOf]; have := HJ4.out; omega
    · obtain rfl : j = 4 := by omega
      go_wp2
      go_returns
      exact ⟨rfl,hd.out⟩
end
end Ko
end Go.Proofs.YtocicffmajbecaaGreatDoor
