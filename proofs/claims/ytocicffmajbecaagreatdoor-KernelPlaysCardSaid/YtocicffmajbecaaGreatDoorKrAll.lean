/- The document's own kernel: Live. -/
import Derived.Test.YtocicffmajbecaaGreatDoorTrAll
import Derived.Test.YtocicffmajbecaaGreatDoorKfM
import Derived.Test.YtocicffmajbecaaGreatDoorKoM
import Derived.Test.YtocicffmajbecaaGreatDoorPkAll
import Derived.WalkKit
import Derived.WalkSpells
import Derived.WalkLawsBesides
import Derived.Handy
import Derived.OwnWalk
import Derived.Maps.AppendAt
namespace Go.Proofs.YtocicffmajbecaaGreatDoor
open Go.RowKit
set_option maxRecDepth 100000
set_option linter.unusedSimpArgs false
namespace Kr
open Rw (En)
open Kn
def kc (x : Nat) (v : Value) (c : Nat → Int) (V : Nat → Value) (th gr last : Int) : Nat → Value
  | 0 => .pointer (some ⟨x,0,none⟩)
  | 1 => v
  | 2 => .int .i64 (c 0)
  | 3 => .int .i64 (c 1)
  | 4 => .int .i64 (c 2)
  | 5 => .int .i64 (c 3)
  | 6 => V 0
  | 7 => V 1
  | 8 => V 2
  | 9 => V 3
  | 10 => .int .i64 th
  | 11 => .int .i64 gr
  | _ => .int .i64 last
theorem cells13 {j : Nat} (h : j < 13) : j = 0 ∨ j = 1 ∨ j = 2 ∨ j = 3 ∨ j = 4 ∨ j = 5 ∨ j = 6 ∨ j = 7 ∨ j = 8 ∨ j = 9 ∨ j = 10 ∨ j = 11 ∨ j = 12 := by omega
section
variable {x : Nat} {v v' : Value} {c c' : Nat → Int} {V V' : Nat → Value} {th gr last last' : Int} {j : Nat}
theorem kc_v (hj : j < 13) (h : j ≠ 1) : kc x v c V th gr last j = kc x v' c V th gr last j := by
  rcases cells13 hj with rfl | rfl | rfl | rfl | rfl | rfl | rfl | rfl | rfl | rfl | rfl | rfl | rfl <;> first | rfl | exact absurd rfl h
theorem kc_o (hj : j < 13) (h : j < 2 ∨ 2 + 8 ≤ j) : kc x v c V th gr last j = kc x v c' V' th gr last j := by
  rcases cells13 hj with rfl | rfl | rfl | rfl | rfl | rfl | rfl | rfl | rfl | rfl | rfl | rfl | rfl <;> first | rfl | (exfalso; omega)
theorem kc_l (hj : j < 13) (h : j ≠ 12) : kc x v c V th gr last j = kc x v c V th gr last' j := by
  rcases cells13 hj with rfl | rfl | rfl | rfl | rfl | rfl | rfl | rfl | rfl | rfl | rfl | rfl | rfl <;> first | rfl | exact absurd rfl h
theorem kc_c {i : Nat} (hi : i < 4) : kc x v c V th gr last (2 + i) = .int .i64 (c i) ∧ kc x v c V th gr last (2 + 4 + i) = V i := by
  rcases Ob.four hi with rfl | rfl | rfl | rfl <;> exact ⟨rfl,rfl⟩
end
structure RK (base b x : Nat) (th gr : Int) (tv v : Value) (V : Nat → Value) (ls : List En) (k : Kd) (w : World) : Prop where
  blk : ∃ cs,w.heap[b]? = some (.cells cs 55 (0,0)) ∧ cs.size = 13 ∧ ∀ j,j < 13 → cs[j]? = some (kc x v k.c V th gr k.last j)
  bx : base ≤ b
  tx : base ≤ x
  tq : Tq base x tv k.l w
  row : Rw.Row 146 w base v ls.length ls
  rows : ∀ i,i < 4 → Ko.RW base w (V i) (k.W i)
  sor : Kf.Sor ls
  perm : ls.Perm k.M
def Own (b x : Nat) (tv v : Value) (V : Nat → Value) (i : Nat) : Prop := i = b ∨ i = x ∨ tv.ownBlock = some i ∨ v.ownBlock = some i ∨ ∃ j,j < 4 ∧ Ko.sblk (V j) = some i
def ySite (b : Nat) (K : Nat → Value) : Site := ⟨b,1,13,55,K⟩
def oSite (b : Nat) (K : Nat → Value) : Site := ⟨b,2,13,55,K⟩
theorem wide {A B A' B' : Nat → Prop} {w w' : World} (h : Mvp A B w w') (hA : ∀ i,A i → A' i) (hB : ∀ i,B' i → B i ∨ A' i) : Mvp A' B' w w' :=
  ⟨h.os,h.tape,h.output,h.size,fun i hi hn => h.block i hi fun e => hn (hA i e),fun i hi => by
    rcases hB i hi with e | e
    · exact (h.own i e).imp (hA i) id
    · exact .inl e⟩
section
variable {base b x : Nat} {th gr : Int} {tv v : Value} {V : Nat → Value} {ls : List En} {k : Kd} {w w' : World}
theorem RK.lt (h : RK base b x th gr tv v V ls k w) : b < w.heap.size := by
  obtain ⟨cs,h1,_⟩ := h.blk
  exact lt_blk h1
theorem RK.cell (h : RK base b x th gr tv v V ls k w) {j : Nat} (hj : j < 13) : w.cell? ⟨b,j,none⟩ = some (kc x v k.c V th gr k.last j) := by
  obtain ⟨cs,h1,_,h2⟩ := h.blk
  simp [World.cell?,h1,h2 j hj]
theorem RK.free (h : RK base b x th gr tv v V ls k w) (j : Nat) : w.frozen? ⟨b,j,none⟩ = false := by
  obtain ⟨cs,h1,_,h2⟩ := h.blk
  simp [World.frozen?,h1]
theorem RK.ext (h : RK base b x th gr tv v V ls k w) (e : Ext w w') : RK base b x th gr tv v V ls k w' := by
  obtain ⟨cs,h1,h2⟩ := h.blk
  exact ⟨⟨cs,by rw [e.below.block b (lt_blk h1)]; exact h1,h2⟩,h.bx,h.tx,h.tq.ext e,h.row.ext e,fun i hi => (h.rows i hi).ext e,h.sor,h.perm⟩
theorem RK.lower {base' : Nat} (h : RK base b x th gr tv v V ls k w) (hb : base' ≤ base) : RK base' b x th gr tv v V ls k w :=
  ⟨h.blk,Nat.le_trans hb h.bx,Nat.le_trans hb h.tx,⟨h.tq.blk,h.tq.row.base hb⟩,h.row.base hb,fun i hi => (h.rows i hi).imp id fun ⟨g,off,cap,cur,a1,a2,a3,a4,a5⟩ => ⟨g,off,cap,cur,a1,a2,a3,Nat.le_trans hb a4,a5⟩,h.sor,h.perm⟩
theorem RK.apart (h : RK base b x th gr tv v V ls k w) : b ≠ x ∧ tv.ownBlock ≠ some b ∧ tv.ownBlock ≠ some x ∧ v.ownBlock ≠ some b ∧ v.ownBlock ≠ some x ∧ (∀ g,v.ownBlock = some g → tv.ownBlock ≠ some g) ∧
    ∀ i,i < 4 → ∀ g,Ko.sblk (V i) = some g → g ≠ b ∧ g ≠ x ∧ tv.ownBlock ≠ some g ∧ v.ownBlock ≠ some g := by
  obtain ⟨cs,h1,-,-⟩ := h.blk
  have h2 := h.tq.blk
  refine ⟨fun e => ?_,h.tq.row.far h1 (by decide),h.tq.far,h.row.far h1 (by decide),h.row.far h2 (by decide),fun g hg e => ?_,fun i hi g hg => ?_⟩
  · rw [e,h2] at h1
    injection (Option.some.inj h1) with _ ht
    exact absurd ht (by decide)
  · rcases h.tq.row.2 with ⟨q,_⟩ | ⟨g',cap,cur,q,-,q3,-⟩
    · rw [q] at e; cases e
    · rw [q] at e
      cases e
      exact h.row.far q3 (by decide) hg
  · obtain ⟨-,cur,h3⟩ := (h.rows i hi).blk hg
    refine ⟨fun e => ?_,fun e => ?_,h.tq.row.far h3 (by decide),h.row.far h3 (by decide)⟩
    · rw [e,h1] at h3
      injection (Option.some.inj h3) with _ ht
      exact absurd ht (by decide)
    · rw [e,h2] at h3
      injection (Option.some.inj h3) with _ ht
      exact absurd ht (by decide)
theorem RK.own (h : RK base b x th gr tv v V ls k w) : ∀ i,Own b x tv v V i → base ≤ i ∧ i < w.heap.size := by
  rintro i (rfl | rfl | e | e | ⟨j,hj,e⟩)
  · exact ⟨h.bx,h.lt⟩
  · exact ⟨h.tx,h.tq.lt⟩
  · exact h.tq.row.lt i e
  · exact h.row.lt i e
  · obtain ⟨h1,cur,h2⟩ := (h.rows j hj).blk e
    exact ⟨h1,lt_blk h2⟩
theorem RK.keep (h : RK base b x th gr tv v V ls k w) (e : ∀ i,Own b x tv v V i → w'.heap[i]? = w.heap[i]?) : RK base b x th gr tv v V ls k w' := by
  obtain ⟨cs,h1,h2⟩ := h.blk
  refine ⟨⟨cs,by rw [e b (.inl rfl)]; exact h1,h2⟩,h.bx,h.tx,⟨by rw [e x (.inr (.inl rfl))]; exact h.tq.blk,h.tq.row.keep fun g hg => e g (.inr (.inr (.inl hg)))⟩,h.row.keep fun g hg => e g (.inr (.inr (.inr (.inl hg)))),fun i hi => (h.rows i hi).keep fun g hg => e g (.inr (.inr (.inr (.inr ⟨i,hi,hg⟩)))),h.sor,h.perm⟩
theorem RK.rm (h : RK base b x th gr tv v V ls k w) : Kf.Rm base (ySite b (kc x v k.c V th gr k.last)) v ls w := by
  obtain ⟨cs,h1,h2,h3⟩ := h.blk
  exact ⟨⟨cs,h1,h2,(by decide : 1 < 13),h3 1 (by omega),fun j hj _ => h3 j hj⟩,h.row,h.bx⟩
theorem RK.of_rm (h : RK base b x th gr tv v V ls k w) {v' : Value} {ls' M' : List En} (r : Kf.Rm base (ySite b (kc x v k.c V th gr k.last)) v' ls' w') (m : Mvp (Kf.ROwn (ySite b (kc x v k.c V th gr k.last)) v) (Kf.ROwn (ySite b (kc x v k.c V th gr k.last)) v') w w')
    (hs : Kf.Sor ls') (hp : ls'.Perm M') : RK base b x th gr tv v' V ls' { k with M := M' } w' ∧ Mvp (Own b x tv v V) (Own b x tv v' V) w w' := by
  obtain ⟨n1,n2,n3,n4,n5,n6,n7⟩ := h.apart
  have hown := h.own
  obtain ⟨cs,h1,h2,-,h3,h4⟩ := r.blk
  have hk : ∀ i,Own b x tv v V i → i ≠ b → v.ownBlock ≠ some i → w'.heap[i]? = w.heap[i]? := fun i hi hb hv => m.block i (hown i hi).2 fun e => by
    rcases e with e | e
    · exact hb e
    · exact hv e
  refine ⟨⟨⟨cs,h1,h2,fun j hj => ?_⟩,h.bx,h.tx,⟨?_,h.tq.row.keep fun g hg => ?_⟩,r.row,fun i hi => (h.rows i hi).keep fun g hg => ?_,hs,hp⟩,wide m (fun i hi => ?_) fun i hi => ?_⟩
  · by_cases e : j = 1
    · subst e; exact h3
    · rw [← kc_v hj e (v := v)]; exact h4 j hj e
  · rw [hk x (.inr (.inl rfl)) (fun e => n1 e.symm) n5]; exact h.tq.blk
  · exact hk g (.inr (.inr (.inl hg))) (fun e => n2 (e ▸ hg)) fun e => n6 g e hg
  · obtain ⟨m1,m2,m3,m4⟩ := n7 i hi g hg
    exact hk g (.inr (.inr (.inr (.inr ⟨i,hi,hg⟩)))) m1 m4
  · rcases hi with e | e
    · exact .inl e
    · exact .inr (.inr (.inr (.inl e)))
  · rcases hi with e | e | e | e | e
    · exact .inl (.inl e)
    · exact .inr (.inr (.inl e))
    · exact .inr (.inr (.inr (.inl e)))
    · exact .inl (.inr e)
    · exact .inr (.inr (.inr (.inr (.inr e))))
theorem RK.ro (h : RK base b x th gr tv v V ls k w) : Ko.RO base (oSite b (kc x v k.c V th gr k.last)) k.c V k.W w := by
  obtain ⟨cs,h1,h2,h3⟩ := h.blk
  refine ⟨⟨cs,h1,h2,(by decide : 2 + 8 ≤ 13),fun j hj _ => h3 j hj,fun i hi => ?_⟩,h.rows,h.bx,by show 55 ≠ 3; decide⟩
  obtain ⟨e1,e2⟩ := kc_c (x := x) (v := v) (c := k.c) (V := V) (th := th) (gr := gr) (last := k.last) hi
  exact ⟨by rw [← e1]; exact h3 (2 + i) (by omega),by rw [← e2]; exact h3 (2 + 4 + i) (by omega)⟩
theorem RK.of_ro (h : RK base b x th gr tv v V ls k w) {c' : Nat → Int} {V' : Nat → Value} {W' : Nat → List Int} (r : Ko.RO base (oSite b (kc x v k.c V th gr k.last)) c' V' W' w') (m : Mvp (Ko.ROwn (oSite b (kc x v k.c V th gr k.last)) V) (Ko.ROwn (oSite b (kc x v k.c V th gr k.last)) V') w w') :
    RK base b x th gr tv v V' ls { k with c := c',W := W' } w' ∧ Mvp (Own b x tv v V) (Own b x tv v V') w w' := by
  obtain ⟨n1,n2,n3,n4,n5,n6,n7⟩ := h.apart
  have hown := h.own
  obtain ⟨cs,h1,h2,-,h3,h4⟩ := r.blk
  have hk : ∀ i,Own b x tv v V i → i ≠ b → (∀ j,j < 4 → Ko.sblk (V j) ≠ some i) → w'.heap[i]? = w.heap[i]? := fun i hi hb hv => m.block i (hown i hi).2 fun e => by
    rcases e with e | ⟨j,hj,e⟩
    · exact hb e
    · exact hv j hj e
  refine ⟨⟨⟨cs,h1,h2,fun j hj => ?_⟩,h.bx,h.tx,⟨?_,h.tq.row.keep fun g hg => ?_⟩,h.row.keep fun g hg => ?_,r.rows,h.sor,h.perm⟩,wide m (fun i hi => ?_) fun i hi => ?_⟩
  · by_cases e : j < 2 ∨ 2 + 8 ≤ j
    · show cs[j]? = some (kc x v c' V' th gr k.last j)
      rw [← kc_o hj e (c := k.c) (V := V)]; exact h3 j hj e
    · by_cases e2 : j < 6
      · obtain ⟨i,hi,rfl⟩ : ∃ i,i < 4 ∧ j = 2 + i := ⟨j - 2,by omega,by omega⟩
        show cs[2 + i]? = some (kc x v c' V' th gr k.last (2 + i))
        rw [(kc_c hi).1]; exact (h4 i hi).1
      · obtain ⟨i,hi,rfl⟩ : ∃ i,i < 4 ∧ j = 2 + 4 + i := ⟨j - 6,by omega,by omega⟩
        show cs[2 + 4 + i]? = some (kc x v c' V' th gr k.last (2 + 4 + i))
        rw [(kc_c hi).2]; exact (h4 i hi).2
  · rw [hk x (.inr (.inl rfl)) (fun e => n1 e.symm) fun j hj e => (n7 j hj x e).2.1 rfl]; exact h.tq.blk
  · exact hk g (.inr (.inr (.inl hg))) (fun e => n2 (e ▸ hg)) fun j hj e => (n7 j hj g e).2.2.1 hg
  · exact hk g (.inr (.inr (.inr (.inl hg)))) (fun e => n4 (e ▸ hg)) fun j hj e => (n7 j hj g e).2.2.2 hg
  · rcases hi with e | e
    · exact .inl e
    · exact .inr (.inr (.inr (.inr e)))
  · rcases hi with e | e | e | e | e
    · exact .inl (.inl e)
    · exact .inr (.inr (.inl e))
    · exact .inr (.inr (.inr (.inl e)))
    · exact .inr (.inr (.inr (.inr (.inl e))))
    · exact .inl (.inr e)
theorem RK.of_tq (h : RK base b x th gr tv v V ls k w) {tv' : Value} {l' : List Nd} (r : Tq base x tv' l' w') (m : Mv x tv tv' w w') :
    RK base b x th gr tv' v V ls { k with l := l' } w' ∧ Mvp (Own b x tv v V) (Own b x tv' v V) w w' := by
  obtain ⟨n1,n2,n3,n4,n5,n6,n7⟩ := h.apart
  have hown := h.own
  obtain ⟨cs,h1,h2,h3⟩ := h.blk
  have hk : ∀ i,Own b x tv v V i → i ≠ x → tv.ownBlock ≠ some i → w'.heap[i]? = w.heap[i]? := fun i hi hx hv => m.block i (hown i hi).2 hx hv
  refine ⟨⟨⟨cs,by rw [hk b (.inl rfl) n1 n2]; exact h1,h2,h3⟩,h.bx,h.tx,r,h.row.keep fun g hg => ?_,fun i hi => (h.rows i hi).keep fun g hg => ?_,h.sor,h.perm⟩,⟨m.os,m.tape,m.output,m.size,fun i hi hn => m.block i hi (fun e => hn (.inr (.inl e))) fun e => hn (.inr (.inr (.inl e))),fun i hi => ?_⟩⟩
  · exact hk g (.inr (.inr (.inr (.inl hg)))) (fun e => n5 (e ▸ hg)) (n6 g hg)
  · obtain ⟨m1,m2,m3,m4⟩ := n7 i hi g hg
    exact hk g (.inr (.inr (.inr (.inr ⟨i,hi,hg⟩)))) m2 m3
  · rcases hi with e | e | e | e | e
    · exact .inl (.inl e)
    · exact .inl (.inr (.inl e))
    · exact (m.own i e).imp (fun e => .inr (.inr (.inl e))) id
    · exact .inl (.inr (.inr (.inr (.inl e))))
    · exact .inl (.inr (.inr (.inr (.inr e))))
theorem RK.set_last (h : RK base b x th gr tv v V ls k w) (n : Int) : RK base b x th gr tv v V ls { k with last := n } (w.setCell ⟨b,12,none⟩ (.int .i64 n)) ∧ Mvp (Own b x tv v V) (Own b x tv v V) w (w.setCell ⟨b,12,none⟩ (.int .i64 n)) := by
  obtain ⟨n1,n2,n3,n4,n5,n6,n7⟩ := h.apart
  obtain ⟨cs,h1,h2,h3⟩ := h.blk
  have hk : ∀ i,i ≠ b → (w.setCell ⟨b,12,none⟩ (.int .i64 n)).heap[i]? = w.heap[i]? := fun i hi => Below.heap_setCell _ _ _ _ (by simpa using hi)
  refine ⟨⟨⟨_,set_same h1 _ _,by simpa using h2,fun j hj => ?_⟩,h.bx,h.tx,⟨by rw [hk x fun e => n1 e.symm]; exact h.tq.blk,h.tq.row.keep fun g hg => hk g fun e => n2 (e ▸ hg)⟩,h.row.keep fun g hg => hk g fun e => n4 (e ▸ hg),fun i hi => (h.rows i hi).keep fun g hg => hk g (n7 i hi g hg).1,h.sor,h.perm⟩,(Mvp.refl _ _).set (.inl rfl) 12 _⟩
  rw [Array.getElem?_setIfInBounds]
  by_cases e : 12 = j
  · subst e
    rw [if_pos rfl,if_pos (by omega)]
    rfl
  · rw [if_neg e,h3 j hj]
    exact congrArg some (kc_l hj fun q => e q.symm)
end
def RKs (w0 : World) (b : Nat) (th gr : Int) (k : Kd) (A : Nat → Prop) (w : World) : Prop :=
  Ext w0 w ∧ ∃ x tv v V ls,RK w0.heap.size b x th gr tv v V ls k w ∧ A = Own b x tv v V
section
variable {w0 w w' : World} {b : Nat} {th gr : Int} {k : Kd} {A B C : Nat → Prop}
theorem RKs.own (h : RKs w0 b th gr k A w) : ∀ i,A i → w0.heap.size ≤ i ∧ i < w.heap.size := by
  obtain ⟨_,x,tv,v,V,ls,h1,rfl⟩ := h
  exact h1.own
theorem RKs.ext (h : RKs w0 b th gr k A w) (e : Ext w w') : RKs w0 b th gr k A w' := by
  obtain ⟨h0,x,tv,v,V,ls,h1,h2⟩ := h
  exact ⟨h0.trans e,x,tv,v,V,ls,h1.ext e,h2⟩
theorem RKs.keep (h : RKs w0 b th gr k C w) (m : Mvp A B w w') (hAC : ∀ i,A i → ¬ C i) (hA : ∀ i,A i → w0.heap.size ≤ i) : RKs w0 b th gr k C w' ∧ ∀ i,B i → ¬ C i := by
  have hlt := fun i hi => (h.own i hi).2
  obtain ⟨h0,x,tv,v,V,ls,h1,rfl⟩ := h
  refine ⟨⟨m.xt h0 hA,x,tv,v,V,ls,h1.keep fun i hi => m.block i (hlt i hi) fun e => hAC i e hi,rfl⟩,fun i hB hC => ?_⟩
  rcases m.own i hB with h4 | h4
  · exact hAC i h4 hC
  · have := hlt i hC
    omega
def KGo (w0 : World) (b : Nat) (th gr : Int) (k' : Kd) (A : Nat → Prop) (w w' : World) : Prop := ∃ B,RKs w0 b th gr k' B w' ∧ Mvp A B w w'
theorem KGo.of {x : Nat} {tv v tv' v' : Value} {V V' : Nat → Value} {ls' : List En} {k' : Kd} (h0 : Ext w0 w) (hA : ∀ i,Own b x tv v V i → w0.heap.size ≤ i) (r : RK w0.heap.size b x th gr tv' v' V' ls' k' w') (m : Mvp (Own b x tv v V) (Own b x tv' v' V') w w') : KGo w0 b th gr k' (Own b x tv v V) w w' :=
  ⟨_,⟨m.xt h0 hA,x,tv',v',V',ls',r,rfl⟩,m⟩
end
end Kr
end Go.Proofs.YtocicffmajbecaaGreatDoor
namespace Go.Proofs.YtocicffmajbecaaGreatDoor
open Go.RowKit
set_option maxRecDepth 100000
set_option linter.unusedSimpArgs false
namespace Kr
open Rw (En)
open Kn
def cntD (l : List Nd) (t : Bool) : Nat := l.countP fun n => n.thr == t && decide (0 < n.id)
theorem thr_pos {l : List Nd} (hw : Wf l) {n : Nd} (hn : n ∈ l) (ht : n.thr = true) : 0 < n.id := by
  have h0 := (hw.sk.clo n hn).1
  rcases Int.lt_or_eq_of_le h0 with h | h
  · exact h
  · have := (hw.sk.clo n hn).2.1 ((hw.zero_top hn).2 h.symm)
    rw [this] at ht; cases ht
theorem cntD_T {l : List Nd} (hw : Wf l) : cntD l true = cntT l := by
  unfold cntD cntT
  rw [List.countP_map]
  refine List.countP_congr fun n hn => ?_
  have := fun h => thr_pos hw hn h
  cases ht : n.thr with
  | false => simp [isT,kd,ht]
  | true => simp [isT,kd,ht,this ht]
theorem cntD_G (l : List Nd) : cntD l false = cntG l := by
  unfold cntD cntG
  rw [List.countP_map]
  refine List.countP_congr fun n _ => ?_
  cases ht : n.thr <;> by_cases h : 0 < n.id <;> simp [isG,kd,ht,h]
theorem cntD_step {l : List Nd} {i : Nat} (hi : i < l.length) (t : Bool) : cntD (l.take (i + 1)) t = cntD (l.take i) t + if (l[i].thr == t && decide (0 < l[i].id)) = true then 1 else 0 := by
  unfold cntD
  rw [List.take_succ_eq_append_getElem hi,List.countP_append,List.countP_cons,List.countP_nil,Nat.zero_add]
section
variable {base b x : Nat} {th gr : Int} {tv v : Value} {V : Nat → Value} {ls : List En} {k : Kd} {w w' : World}
set_option maxHeartbeats 4000000 in
theorem isThread_any (h : RK base b x th gr tv v V ls k w) (hw : Wf k.l) (id : Int) : Calls Tryz.prog 53 #[.pointer (some ⟨b,0,none⟩),.int .i64 id] w (Yields w (.bool ((stU k.l id).isSome))) := by
  have c0 : w.cell? ⟨b,0,none⟩ = some (.pointer (some ⟨x,0,none⟩)) := h.cell (j := 0) (by omega)
  have c1 := h.tq.cell
  have hb := h.lt
  have hx := h.tq.lt
  cases hg : getU k.l id with
  | none =>
    have hk := atV_no hg
    have e : ((stU k.l id).isSome) = false := by simp [stU,grpU,rdyE,hg]
    rw [e]
    have H := hid h.tq
    have HK := hid hk
    clear h hw hg hk e
    go_enter Tryz.func53,Tryz.ntmps53
    go_wp2_with (go_at_call 66; (with_reducible refine (tat_to HK.out (H.out.ext ext_by)).yields ?_); intro q1)
    go_returns
    exact ⟨by simp,ext_by⟩
  | some n =>
    obtain ⟨hn,hid'⟩ := getU_mem hg
    obtain ⟨j,hj1,hj2,-⟩ := atV_mem hw.sk.ids hn
    rw [hid'] at hj1
    obtain ⟨p,cap,rfl,hc1,hc2,hp0,hp1⟩ := h.tq.row.slice
    obtain ⟨a,rfl⟩ : ∃ a,p = some a := by
      cases p with
      | none => have e := (hp0 rfl).1; rw [e] at hj2; simp at hj2
      | some a => exact ⟨a,rfl⟩
    obtain ⟨g,rfl,hgb,hgl⟩ := hp1 a rfl
    unfold maxLen at hc2
    have hpl : (j : Int) < k.l.length := by have := (List.getElem?_eq_some_iff.1 hj2).1; omega
    obtain ⟨-,-,-,-,e4,e5,-⟩ := h.tq.row.node hj2
    have H := hid h.tq
    have HK := hid hj1
    cases ht : n.thr <;> cases hr : n.rdy <;> (
      have e : ((stU k.l id).isSome) = _ := (by simp only [stU,grpU,rdyE,hg,ht,hr]; rfl)
      rw [e]
      rw [ht] at e4
      rw [hr] at e5
      clear e hp0 hp1 hj1 hj2 hn hid' hg
      have hh := h.bx
      clear h hh hw
      go_enter Tryz.func53,Tryz.ntmps53
      go_wp2_with (go_at_call 66; (with_reducible refine (tat_to HK.out (H.out.ext ext_by)).yields ?_); intro q1)
      go_returns
      exact ⟨by simp,ext_by⟩)
set_option maxHeartbeats 4000000 in
theorem isGroup_any (h : RK base b x th gr tv v V ls k w) (hw : Wf k.l) (id : Int) : Calls Tryz.prog 46 #[.pointer (some ⟨b,0,none⟩),.int .i64 id] w (Yields w (.bool (grpU k.l id))) := by
  have c0 : w.cell? ⟨b,0,none⟩ = some (.pointer (some ⟨x,0,none⟩)) := h.cell (j := 0) (by omega)
  have c1 := h.tq.cell
  have hb := h.lt
  have hx := h.tq.lt
  cases hg : getU k.l id with
  | none =>
    have hk := atV_no hg
    have e : (grpU k.l id) = false := by simp [stU,grpU,rdyE,hg]
    rw [e]
    have H := hid h.tq
    have HK := hid hk
    clear h hw hg hk e
    go_enter Tryz.func46,Tryz.ntmps46
    go_wp2_with (go_at_call 66; (with_reducible refine (tat_to HK.out (H.out.ext ext_by)).yields ?_); intro q1)
    go_returns
    exact ⟨by simp,ext_by⟩
  | some n =>
    obtain ⟨hn,hid'⟩ := getU_mem hg
    obtain ⟨j,hj1,hj2,-⟩ := atV_mem hw.sk.ids hn
    rw [hid'] at hj1
    obtain ⟨p,cap,rfl,hc1,hc2,hp0,hp1⟩ := h.tq.row.slice
    obtain ⟨a,rfl⟩ : ∃ a,p = some a := by
      cases p with
      | none => have e := (hp0 rfl).1; rw [e] at hj2; simp at hj2
      | some a => exact ⟨a,rfl⟩
    obtain ⟨g,rfl,hgb,hgl⟩ := hp1 a rfl
    unfold maxLen at hc2
    have hpl : (j : Int) < k.l.length := by have := (List.getElem?_eq_some_iff.1 hj2).1; omega
    obtain ⟨-,-,-,-,e4,e5,-⟩ := h.tq.row.node hj2
    have H := hid h.tq
    have HK := hid hj1
    cases ht : n.thr <;> cases hr : n.rdy <;> (
      have e : (grpU k.l id) = _ := (by simp only [stU,grpU,rdyE,hg,ht,hr]; rfl)
      rw [e]
      rw [ht] at e4
      rw [hr] at e5
      clear e hp0 hp1 hj1 hj2 hn hid' hg
      have hh := h.bx
      clear h hh hw
      go_enter Tryz.func46,Tryz.ntmps46
      go_wp2_with (go_at_call 66; (with_reducible refine (tat_to HK.out (H.out.ext ext_by)).yields ?_); intro q1)
      go_returns
      exact ⟨by simp,ext_by⟩)
set_option maxHeartbeats 4000000 in
theorem isReady_any (h : RK base b x th gr tv v V ls k w) (hw : Wf k.l) (id : Int) : Calls Tryz.prog 59 #[.pointer (some ⟨b,0,none⟩),.int .i64 id] w (Yields w (.bool ((rdyE k id == 0)))) := by
  have c0 : w.cell? ⟨b,0,none⟩ = some (.pointer (some ⟨x,0,none⟩)) := h.cell (j := 0) (by omega)
  have c1 := h.tq.cell
  have hb := h.lt
  have hx := h.tq.lt
  cases hg : getU k.l id with
  | none =>
    have hk := atV_no hg
    have e : ((rdyE k id == 0)) = false := by simp [stU,grpU,rdyE,hg]
    rw [e]
    have H := hid h.tq
    have HK := hid hk
    clear h hw hg hk e
    go_enter Tryz.func59,Tryz.ntmps59
    go_wp2_with (go_at_call 66; (with_reducible refine (tat_to HK.out (H.out.ext ext_by)).yields ?_); intro q1)
    go_returns
    exact ⟨by simp,ext_by⟩
  | some n =>
    obtain ⟨hn,hid'⟩ := getU_mem hg
    obtain ⟨j,hj1,hj2,-⟩ := atV_mem hw.sk.ids hn
    rw [hid'] at hj1
    obtain ⟨p,cap,rfl,hc1,hc2,hp0,hp1⟩ := h.tq.row.slice
    obtain ⟨a,rfl⟩ : ∃ a,p = some a := by
      cases p with
      | none => have e := (hp0 rfl).1; rw [e] at hj2; simp at hj2
      | some a => exact ⟨a,rfl⟩
    obtain ⟨g,rfl,hgb,hgl⟩ := hp1 a rfl
    unfold maxLen at hc2
    have hpl : (j : Int) < k.l.length := by have := (List.getElem?_eq_some_iff.1 hj2).1; omega
    obtain ⟨-,-,-,-,e4,e5,-⟩ := h.tq.row.node hj2
    have H := hid h.tq
    have HK := hid hj1
    cases ht : n.thr <;> cases hr : n.rdy <;> (
      have e : ((rdyE k id == 0)) = _ := (by simp only [stU,grpU,rdyE,hg,ht,hr]; rfl)
      rw [e]
      rw [ht] at e4
      rw [hr] at e5
      clear e hp0 hp1 hj1 hj2 hn hid' hg
      have hh := h.bx
      clear h hh hw
      go_enter Tryz.func59,Tryz.ntmps59
      go_wp2_with (go_at_call 66; (with_reducible refine (tat_to HK.out (H.out.ext ext_by)).yields ?_); intro q1)
      go_returns
      exact ⟨by simp,ext_by⟩)
set_option maxHeartbeats 4000000 in
theorem count_any (h : RK base b x th gr tv v V ls k w) (t : Bool) : Calls Tryz.prog 47 #[.pointer (some ⟨b,0,none⟩),.bool t] w (Yields w (.int .i64 (cntD k.l t))) := by
  have c0 : w.cell? ⟨b,0,none⟩ = some (.pointer (some ⟨x,0,none⟩)) := h.cell (j := 0) (by omega)
  have c1 := h.tq.cell
  have hb := h.lt
  have hx := h.tq.lt
  obtain ⟨p,cap,rfl,hc1,hc2,hp0,hp1⟩ := h.tq.row.slice
  unfold maxLen at hc2
  have H := hid h.tq
  have HP := hid hp1
  have HN := hid hp0
  clear h hp0 hp1
  generalize k.l = l at *
  go_enter Tryz.func47,Tryz.ntmps47
  go_wp2
  go_loopw [5,6] (fun v5 v6 wr => Ext w wr ∧ ∃ m i : Nat,v5 = .int .i64 m ∧ v6 = .int .i64 i ∧ i ≤ l.length ∧ m ≤ i ∧ Hid (m = cntD (l.take i) t)) (fun _ v6 _ => (l.length - (intOf v6).toNat))
  case atStart => exact ⟨Ext.refl _,0,0,rfl,rfl,Nat.zero_le _,Nat.le_refl _,rfl⟩
  case round =>
    obtain ⟨X,m,i,rfl,rfl,hi,hmi,hm⟩ := hrel
    have d0 := X.cell c0
    have d1 := X.cell c1
    by_cases hlt : i < l.length
    · obtain ⟨a,rfl⟩ : ∃ a,p = some a := by
        cases p with
        | none => exact absurd (HN.out rfl).1 (by intro e; rw [e] at hlt; simp at hlt)
        | some a => exact ⟨a,rfl⟩
      obtain ⟨g,rfl,hg,hgl⟩ := HP.out a rfl
      have hn : l[i]? = some l[i] := List.getElem?_eq_getElem hlt
      obtain ⟨e0,-,-,-,e4,-,-⟩ := H.out.row.node hn
      have f0 := X.cell e0
      have f4 := X.cell e4
      clear e0 e4
      have HS := hid (cntD_step hlt t)
      have i1 : (i : Int) < l.length := by omega
      clear hn
      generalize l[i] = n at *
      cases ht : n.thr <;> cases t <;> by_cases hp : 0 < n.id <;> (
        rw [ht] at f4
        have HM : Hid (cntD (l.take (i + 1)) _ = _) := (by have := HS.out; rw [← hm.out] at this; exact this)
        simp only [ht,hp,decide_true,decide_false,Bool.and_true,Bool.and_false,beq_self_eq_true] at HM
        go_wp2
        go_roundw
        case rel => (first
          | exact ⟨X,m,i + 1,rfl,by go_num,by omega,by omega,by have := HM.out; simp at this; unfold Hid; omega⟩
          | exact ⟨X,m + 1,i + 1,by go_num,by go_num,by omega,by omega,by have := HM.out; simp at this; unfold Hid; omega⟩)
        case measure => simp [intOf]; omega)
    · have HR : Hid (m = cntD l t) := by
        have := hm.out
        rwa [List.take_of_length_le (by omega)] at this
      go_wp2
      go_returns
      exact ⟨by rw [HR.out]; rfl,X⟩
set_option maxHeartbeats 2000000 in
theorem runnable_any (h : RK base b x th gr tv v V ls k w) (hw : Wf k.l) : Calls Tryz.prog 28 #[.pointer (some ⟨b,0,none⟩)] w (Yields w (.bool (rootR k.l))) := by
  have c0 : w.cell? ⟨b,0,none⟩ = some (.pointer (some ⟨x,0,none⟩)) := h.cell (j := 0) (by omega)
  have c1 := h.tq.cell
  have hb := h.lt
  have hx := h.tq.lt
  obtain ⟨r,hr,hr0,-,-⟩ := hw.root
  obtain ⟨n,hn0,hn1⟩ : ∃ n,k.l[0]? = some n ∧ n.id = 0 := by
    cases hl : k.l with
    | nil => rw [hl] at hr; cases hr
    | cons n l =>
      refine ⟨n,rfl,?_⟩
      have hs := hw.sk.ids
      rw [hl] at hs hr
      have hnn : n ∈ k.l := by rw [hl]; simp
      have := (hw.sk.clo n hnn).1
      rcases List.mem_cons.1 hr with e | e
      · rw [← e]; exact hr0
      · have := (List.pairwise_cons.1 hs).1 r e
        omega
  have hmem : n ∈ k.l := List.mem_of_getElem? hn0
  have e : rootR k.l = n.rdy := by
    unfold rootR
    rw [← hn1,getU_of hw.sk.ids hmem]
  rw [e]
  obtain ⟨p,cap,rfl,hc1,hc2,hp0,hp1⟩ := h.tq.row.slice
  obtain ⟨a,rfl⟩ : ∃ a,p = some a := by
    cases p with
    | none => have e := (hp0 rfl).1; rw [e] at hn0; simp at hn0
    | some a => exact ⟨a,rfl⟩
  obtain ⟨g,rfl,hgb,hgl⟩ := hp1 a rfl
  unfold maxLen at hc2
  have hpl : (0 : Int) < k.l.length := by have := (List.getElem?_eq_some_iff.1 hn0).1; omega
  obtain ⟨-,-,-,-,-,e5,-⟩ := h.tq.row.node hn0
  simp only [Nat.zero_mul,Nat.zero_add] at e5
  clear h hw hp0 hp1 hr hr0 hn0 hn1 hmem e
  go_enter Tryz.func28,Tryz.ntmps28
  go_wp2
  go_returns
  exact ⟨by simp,ext_by⟩
end
end Kr
end Go.Proofs.YtocicffmajbecaaGreatDoor
namespace Go.Proofs.YtocicffmajbecaaGreatDoor
open Go.RowKit
set_option maxRecDepth 100000
set_option linter.unusedSimpArgs false
namespace Kr
open Rw (En)
open Kn
def Goes (base b x : Nat) (th gr : Int) (tv v : Value) (V : Nat → Value) (k' : Kd) (w w' : World) : Prop :=
  ∃ tv' v' V' ls',RK base b x th gr tv' v' V' ls' k' w' ∧ Mvp (Own b x tv v V) (Own b x tv' v' V') w w'
section
variable {base b x : Nat} {th gr : Int} {tv v : Value} {V : Nat → Value} {ls : List En} {k k' : Kd} {w w1 w' : World}
theorem RK.goes (h : RK base b x th gr tv v V ls k w) : Goes base b x th gr tv v V k w w := ⟨tv,v,V,ls,h,Mvp.refl _ _⟩
theorem Goes.ext (h : Goes base b x th gr tv v V k' w w1) (e : Ext w1 w') : Goes base b x th gr tv v V k' w w' := by
  obtain ⟨tv',v',V',ls',h1,h2⟩ := h
  exact ⟨tv',v',V',ls',h1.ext e,h2.ext e⟩
theorem Goes.ahead (e : Ext w w1) (h : Goes base b x th gr tv v V k' w1 w') : Goes base b x th gr tv v V k' w w' := by
  obtain ⟨tv',v',V',ls',h1,h2⟩ := h
  exact ⟨tv',v',V',ls',h1,h2.ahead e⟩
theorem Goes.then {k2 : Kd} {w2 : World} (h : Goes base b x th gr tv v V k' w w1) (n : ∀ tv' v' V' ls',RK base b x th gr tv' v' V' ls' k' w1 → Goes base b x th gr tv' v' V' k2 w1 w2) : Goes base b x th gr tv v V k2 w w2 := by
  obtain ⟨tv',v',V',ls',h1,h2⟩ := h
  obtain ⟨tv2,v2,V2,ls2,h3,h4⟩ := n _ _ _ _ h1
  exact ⟨tv2,v2,V2,ls2,h3,h2.trans h4⟩
theorem RK.told (h : RK base b x th gr tv v V ls k w) {c' : Nat → Int} {W' : Nat → List Int} (hc : ∀ j,j < 4 → k.c j = c' j) (hW : ∀ j,j < 4 → k.W j = W' j) : RK base b x th gr tv v V ls { k with c := c',W := W' } w := by
  obtain ⟨cs,h1,h2,h3⟩ := h.blk
  refine ⟨⟨cs,h1,h2,fun j hj => (h3 j hj).trans (congrArg some ?_)⟩,h.bx,h.tx,h.tq,h.row,fun i hi => by show Ko.RW base w (V i) (W' i); rw [← hW i hi]; exact h.rows i hi,h.sor,h.perm⟩
  have c0 := hc 0 (by omega)
  have c1 := hc 1 (by omega)
  have c2 := hc 2 (by omega)
  have c3 := hc 3 (by omega)
  rcases cells13 hj with rfl | rfl | rfl | rfl | rfl | rfl | rfl | rfl | rfl | rfl | rfl | rfl | rfl <;> simp only [kc,c0,c1,c2,c3]
theorem RK.size (h : RK base b x th gr tv v V ls k w) : base ≤ w.heap.size := by
  have := h.lt
  have := h.bx
  omega
theorem RK.few (h : RK base b x th gr tv v V ls k w) (hk : KOk th gr k) : ls.length ≤ 60 ∧ (Ob.flat k.W).length ≤ 60 := by
  have hs := hk.wf.sk.len
  have sub : ∀ l : List Int,l.Nodup → (∀ i ∈ l,stU k.l i = some false) → l.length ≤ 60 := fun l hn hl => by
    have := nodup_len l (k.l.map (·.id)) hn fun i hi => by
      obtain ⟨n,hn,e,-,-⟩ := (stU_some hk.wf.sk.ids).1 (hl i hi)
      exact List.mem_map.2 ⟨n,hn,e⟩
    simp at this
    omega
  refine ⟨?_,sub _ hk.nW hk.wa⟩
  have h1 := sub (k.M.map fun e : En => e.1) hk.nM fun i hi => by
    obtain ⟨e,he,rfl⟩ := List.mem_map.1 hi
    exact hk.sl e he
  rw [h.perm.length_eq]
  simpa using h1
theorem RK.rowsFew (h : RK base b x th gr tv v V ls k w) (hk : KOk th gr k) : ∀ j,j < 4 → (k.W j).length ≤ 1000000 := fun j hj => by
  have h1 := (h.few hk).2
  have h2 := Ob.flat_len (r := k.W) hj
  omega
theorem k_drop (h : RK base b x th gr tv v V ls k w) (hk : KOk th gr k) (id : Int) :
    Calls Tryz.prog 54 #[.pointer (some ⟨b,1,none⟩),.int .i64 id] w fun e w' => (∃ r,e = .returned (.bool r)) ∧ Goes base b x th gr tv v V { k with M := Ti.others id k.M } w w' := by
  have hf := (h.few hk).1
  refine (Kf.drop_any h.rm (by omega) h.size id).mono fun e w' ⟨a,v',r,m⟩ => ⟨⟨_,a⟩,?_⟩
  obtain ⟨h1,h2⟩ := h.of_rm r m (h.sor.filter _) (Ti.others_perm h.perm)
  exact ⟨_,_,_,_,h1,h2⟩
theorem k_set (h : RK base b x th gr tv v V ls k w) (hk : KOk th gr k) (id u : Int) :
    Calls Tryz.prog 60 #[.pointer (some ⟨b,1,none⟩),.int .i64 id,.int .i64 u] w fun e w' => e = .returned (.tuple #[]) ∧ Goes base b x th gr tv v V { k with M := Ti.put id u k.M } w w' := by
  have hf := (h.few hk).1
  refine (Kf.set_any h.rm h.sor (by omega) h.size id u).mono fun e w' ⟨a,v',l',p,s,r,m⟩ => ⟨a,?_⟩
  obtain ⟨h1,h2⟩ := h.of_rm r m s (p.trans (Ti.put_perm h.perm))
  exact ⟨_,_,_,_,h1,h2⟩
theorem due_sorted {M : List En} (hs : Kf.Sor M) (tick : Int) : Ti.dueIds tick M = (Ti.isDue tick M).map (·.1) := by
  refine Ti.sortI_of (List.Perm.refl _) ?_
  refine List.pairwise_map.2 ((List.Pairwise.filter _ hs).imp fun h => ?_)
  omega
theorem k_due (h : RK base b x th gr tv v V ls k w) (hk : KOk th gr k) (tick : Int) :
    Calls Tryz.prog 69 #[.pointer (some ⟨b,1,none⟩),.int .i64 tick] w fun e w' => ∃ vd,e = .returned vd ∧ (∃ v' ls',RK base b x th gr tv v' V ls' { k with M := Ti.sleepOn tick k.M } w' ∧ Mvp (Own b x tv v V) (Own b x tv v' V) w w' ∧ ∀ g,vd.ownBlock = some g → ¬ Own b x tv v' V g) ∧
      w'.ownsRow w.heap.size 3 1 vd (Ti.dueIds tick k.M).length ((Ti.dueIds tick k.M).map fun i => .int .i64 i) := by
  have hf := (h.few hk).1
  refine (Kf.due_any h.rm (by omega) h.size tick).mono fun e w' ⟨vd,v',a,r,m,o,f⟩ => ⟨vd,a,?_,?_⟩
  · obtain ⟨h1,h2⟩ := h.of_rm r m (h.sor.filter _) (Ti.sleepOn_perm h.perm)
    refine ⟨_,_,h1,h2,fun g hg hO => ?_⟩
    have hlt := (World.ownsRow.lt o g hg).1
    have hold := h.own g
    rcases hO with e1 | e1 | e1 | e1 | ⟨j,hj,e1⟩
    · exact f g hg (.inl e1)
    · have := h.tq.lt; omega
    · have := (h.tq.row.lt g e1).2; omega
    · exact f g hg (.inr e1)
    · have := (h.own g (.inr (.inr (.inr (.inr ⟨j,hj,e1⟩))))).2; omega
  · rw [← Ti.dueIds_perm h.perm,due_sorted h.sor,List.length_map,List.map_map]
    exact o
theorem k_odrop (h : RK base b x th gr tv v V ls k w) (hk : KOk th gr k) (id : Int) :
    Calls Tryz.prog 55 #[.pointer (some ⟨b,2,none⟩),.int .i64 id] w fun e w' => (∃ r,e = .returned (.bool r)) ∧ Goes base b x th gr tv v V { k with W := Ob.others id k.W } w w' := by
  refine (Ko.drop_any h.ro h.size id (h.rowsFew hk)).mono fun e w' ⟨a,V',r,m⟩ => ⟨⟨_,a⟩,?_⟩
  obtain ⟨h1,h2⟩ := h.of_ro r m
  exact ⟨_,_,_,_,h1.told (fun _ _ => rfl) (fun j hj => if_pos hj),h2⟩
theorem k_owait (h : RK base b x th gr tv v V ls k w) (hk : KOk th gr k) (id o : Int) (hs : stU k.l id = some true) :
    Calls Tryz.prog 62 #[.pointer (some ⟨b,2,none⟩),.int .i64 id,.int .i64 o] w fun e w' => e = .returned (.tuple #[.bool (waitA k id o).on,.int .i64 (waitA k id o).err]) ∧ Goes base b x th gr tv v V { k with c := (waitA k id o).c,W := (waitA k id o).W } w w' := by
  have hr := h.rowsFew hk
  have hno : ∀ j,j < 4 → (k.W j).contains id = false := fun j hj => by
    have := (hk.sl_ne (id := id) (by rw [hs]; decide)).2
    simp only [List.contains_eq_mem,decide_eq_false_iff_not]
    exact fun c => this (Ob.mem_flat.2 ⟨j,hj,c⟩)
  rcases wait_cases hk id o with ⟨e,-,he,hiff,q,-⟩ | ⟨i,hi,rfl,-,hc,q,-⟩ | ⟨i,hi,rfl,-,hc,q,-⟩
  · have h10 : e = 10 := he.resolve_left fun e13 => (hiff.1 e13) hs
    subst h10
    have ho : o < 0 ∨ 4 ≤ o := by
      apply Classical.byContradiction
      intro hn
      unfold waitA at q
      rw [if_pos (rdyE_zero.2 hs)] at q
      unfold Ob.waitR at q
      rw [if_neg hn] at q
      split at q
      · cases q
      · split at q <;> cases q
    rw [q]
    exact (Ko.wait_form (y := oSite b fun _ => undef) w ho id).mono fun e w' ⟨a,r⟩ => ⟨a,by rw [r]; exact h.goes⟩
  · rw [q]
    refine (Ko.wait_on h.ro hi hr hno hc (hk.cb i hi).2).mono fun e w' ⟨a,r,m⟩ => ⟨a,?_⟩
    obtain ⟨h1,h2⟩ := h.of_ro r m
    exact ⟨_,_,_,_,h1,h2⟩
  · rw [q]
    have hc0 : k.c i = 0 := by have := (hk.cb i hi).1; omega
    refine (Ko.wait_wait h.ro h.size hi hr hno hc0).mono fun e w' ⟨a,V',r,m⟩ => ⟨a,?_⟩
    obtain ⟨h1,h2⟩ := h.of_ro r m
    exact ⟨_,_,_,_,h1,h2⟩
theorem k_osignal (h : RK base b x th gr tv v V ls k w) (hk : KOk th gr k) (o : Int) :
    Calls Tryz.prog 64 #[.pointer (some ⟨b,2,none⟩),.int .i64 o] w fun e w' => e = .returned (.tuple #[.int .i64 (Ob.sigR o k.c k.W).id,.bool (Ob.sigR o k.c k.W).met,.int .i64 (Ob.sigR o k.c k.W).err]) ∧ Goes base b x th gr tv v V { k with c := (Ob.sigR o k.c k.W).c,W := (Ob.sigR o k.c k.W).W } w w' := by
  have hr := h.rowsFew hk
  rcases signal_cases k o with ⟨ho,q,-⟩ | ⟨i,hi,rfl,hW,q,-⟩ | ⟨i,id,rest,hi,rfl,hW,q,-⟩
  · rw [q]
    exact (Ko.signal_form (y := oSite b fun _ => undef) w ho).mono fun e w' ⟨a,r⟩ => ⟨a,by rw [r]; exact h.goes⟩
  · rw [q]
    refine (Ko.signal_none h.ro hi hW (hk.cb i hi)).mono fun e w' ⟨a,r,m⟩ => ⟨a,?_⟩
    obtain ⟨h1,h2⟩ := h.of_ro r m
    exact ⟨_,_,_,_,h1,h2⟩
  · rw [q]
    refine (Ko.signal_one h.ro hi hW (hr i hi)).mono fun e w' ⟨a,V',r,m⟩ => ⟨a,?_⟩
    obtain ⟨h1,h2⟩ := h.of_ro r m
    exact ⟨_,_,_,_,h1,h2⟩
theorem goes_of {r : Int} {l' : List Nd} {e : Ending} (h : RK base b x th gr tv v V ls k w) (g : TGoes base x tv r l' w e w') : e = .returned (.int .i64 r) ∧ Goes base b x th gr tv v V { k with l := l' } w w' := by
  obtain ⟨a,tv',r,m⟩ := g
  obtain ⟨h1,h2⟩ := h.of_tq r m
  exact ⟨a,_,_,_,_,h1,h2⟩
theorem k_rdy (h : RK base b x th gr tv v V ls k w) (hw : Wf k.l) (id : Int) (r : Bool) :
    Calls Tryz.prog 41 #[.pointer (some ⟨x,0,none⟩),.int .i64 id,.bool r] w fun e w' => e = .returned (.int .i64 (rdyK k.l id)) ∧ Goes base b x th gr tv v V { k with l := rdyL k.l id r } w w' :=
  (q_rdy h.tq h.size hw id r).mono fun _ _ g => goes_of h g
theorem k_add (h : RK base b x th gr tv v V ls k w) (hw : Wf k.l) (p id wt : Int) (t : Bool) :
    Calls Tryz.prog 40 #[.pointer (some ⟨x,0,none⟩),.int .i64 p,.int .i64 id,.int .i64 wt,.bool t] w fun e w' => e = .returned (.int .i64 (addK k.l p id wt t)) ∧ Goes base b x th gr tv v V { k with l := addL k.l p id wt t } w w' :=
  (q_add h.tq h.size hw p id wt t).mono fun _ _ g => goes_of h g
theorem k_rem (h : RK base b x th gr tv v V ls k w) (hw : Wf k.l) (id : Int) :
    Calls Tryz.prog 56 #[.pointer (some ⟨x,0,none⟩),.int .i64 id] w fun e w' => e = .returned (.int .i64 (remK k.l id)) ∧ Goes base b x th gr tv v V { k with l := remL k.l id } w w' :=
  (q_rem h.tq h.size hw id).mono fun _ _ g => goes_of h g
theorem k_wt (h : RK base b x th gr tv v V ls k w) (hw : Wf k.l) (id wt : Int) :
    Calls Tryz.prog 21 #[.pointer (some ⟨x,0,none⟩),.int .i64 id,.int .i64 wt] w fun e w' => e = .returned (.int .i64 (wtK k.l id wt)) ∧ Goes base b x th gr tv v V (weightK k id wt) w w' :=
  (q_wt h.tq h.size hw id wt).mono fun _ _ g => goes_of h g
theorem k_run (h : RK base b x th gr tv v V ls k w) (hw : Wf k.l) :
    Calls Tryz.prog 26 #[.pointer (some ⟨x,0,none⟩)] w fun e w' => e = .returned (.tuple #[.int .i64 (runK k.l).1,.bool (runK k.l).2]) ∧ Goes base b x th gr tv v V (runK' k) w w' :=
  (q_run h.tq h.size hw).mono fun _ _ ⟨a,_,r,m⟩ => ⟨a,_,_,_,_,(h.of_tq r m).1,(h.of_tq r m).2⟩
end
end Kr
end Go.Proofs.YtocicffmajbecaaGreatDoor
namespace Go.Proofs.YtocicffmajbecaaGreatDoor
open Go.RowKit
set_option maxRecDepth 100000
set_option linter.unusedSimpArgs false
namespace Kr
open Rw (En)
open Kn
theorem rdyE_13 {k : Kd} {id : Int} (h : ¬ rdyE k id = 0) : rdyE k id = 13 := by
  unfold rdyE
  rw [if_neg fun e => h (rdyE_zero.2 e)]
theorem KOk.fewer {th gr : Int} {k : Kd} (h : KOk th gr k) (id : Int) : KOk th gr { k with M := Ti.others id k.M } :=
  { h with
    nM := (List.filter_sublist.map _).nodup h.nM
    sl := fun e hE => h.sl e (List.mem_filter.1 hE).1
    ap := fun e hE => h.ap e (List.mem_filter.1 hE).1 }
section
variable {base b x : Nat} {th gr : Int} {tv v : Value} {V : Nat → Value} {ls : List En} {k : Kd} {w w' : World}
theorem RK.c0 (h : RK base b x th gr tv v V ls k w) : w.cell? ⟨b,0,none⟩ = some (.pointer (some ⟨x,0,none⟩)) := h.cell (j := 0) (by omega)
theorem RK.c12 (h : RK base b x th gr tv v V ls k w) : w.cell? ⟨b,12,none⟩ = some (.int .i64 k.last) := h.cell (j := 12) (by omega)
set_option maxHeartbeats 4000000 in
theorem exit_any (h : RK base b x th gr tv v V ls k w) (hk : KOk th gr k) (id : Int) :
    Calls Tryz.prog 13 #[.pointer (some ⟨b,0,none⟩),.int .i64 id] w fun e w' => e = .returned (.int .i64 (exitE k id)) ∧ Goes base b x th gr tv v V (exitK k id) w w' := by
  have CT := hid (isThread_any h hk.wf id)
  have hb := h.lt
  by_cases hs : stU k.l id = none
  · have e1 : exitE k id = 13 := by unfold exitE; rw [if_pos hs]
    have e2 : exitK k id = k := by unfold exitK; rw [e1,if_neg (by decide)]
    rw [e1,e2]
    rw [show (stU k.l id).isSome = false by rw [hs]; rfl] at CT
    have G := hid h.goes
    clear h hk hs e1 e2
    go_enter Tryz.func13,Tryz.ntmps13
    go_wp2_with (go_at_call 53; (with_reducible refine CT.out.yields ?_); intro q1)
    go_returns
    exact ⟨by simp,G.out.ext ext_by⟩
  · have e1 : exitE k id = 0 := by unfold exitE; rw [if_neg hs]
    have e2 : exitK k id = { k with l := remL k.l id,M := Ti.others id k.M,W := Ob.others id k.W } := by unfold exitK; rw [if_pos e1]
    rw [e1,e2]
    rw [show (stU k.l id).isSome = true by cases h0 : stU k.l id with | none => exact absurd h0 hs | some _ => rfl] at CT
    have H := hid h
    have HK := hid hk
    have HW := hid hk.wf
    clear h hk hs e1 e2
    go_enter Tryz.func13,Tryz.ntmps13
    go_wp2_with (first
      | (go_at_call 53; (with_reducible refine CT.out.yields ?_); intro q1)
      | (go_at_call 54; (with_reducible refine (k_drop (H.out.ext ext_by) HK.out _).mono ?_); rintro e w2 ⟨⟨r,rfl⟩,tv2,v2,V2,ls2,h2,m2⟩; have hb2 := h2.lt; have M2 := hid (Mvp.ahead (w := w) ext_by m2); have H2 := hid h2; clear h2 m2)
      | (go_at_call 55; (with_reducible refine (k_odrop (H2.out.ext ext_by) (KOk.fewer HK.out id) _).mono ?_); rintro e w3 ⟨⟨r3,rfl⟩,tv3,v3,V3,ls3,h3,m3⟩; have hb3 := h3.lt; have c3 := h3.c0; have M3 := hid (M2.out.trans (Mvp.ahead (w := w2) ext_by m3)); have H3 := hid h3; clear h3 m3)
      | (go_at_call 56; (with_reducible refine (k_rem (H3.out.ext ext_by) HW.out _).mono ?_); rintro e w4 ⟨rfl,tv4,v4,V4,ls4,h4,m4⟩; have M4 := hid (M3.out.trans (Mvp.ahead (w := w3) ext_by m4)); have H4 := hid h4; clear h4 m4))
    go_returns
    exact ⟨by simp,_,_,_,_,H4.out.ext ext_by,M4.out.ext ext_by⟩
set_option maxHeartbeats 4000000 in
theorem sleep_any (h : RK base b x th gr tv v V ls k w) (hk : KOk th gr k) (id u : Int) :
    Calls Tryz.prog 15 #[.pointer (some ⟨b,0,none⟩),.int .i64 id,.int .i64 u] w fun e w' => e = .returned (.int .i64 (rdyE k id)) ∧ Goes base b x th gr tv v V (sleepK k id u) w w' := by
  have CT := hid (isReady_any h hk.wf id)
  have hb := h.lt
  by_cases hs : rdyE k id = 0
  · have e2 : sleepK k id u = { k with l := rdyL k.l id false,M := Ti.put id u k.M } := by unfold sleepK; rw [if_pos hs]
    rw [hs,e2]
    rw [hs] at CT
    have H := hid h
    have HK := hid hk
    have HW := hid hk.wf
    clear h hk hs e2
    go_enter Tryz.func15,Tryz.ntmps15
    go_wp2_with (first
      | (go_at_call 59; (with_reducible refine CT.out.yields ?_); intro q1)
      | (go_at_call 60; (with_reducible refine (k_set (H.out.ext ext_by) HK.out _ _).mono ?_); rintro e w2 ⟨rfl,tv2,v2,V2,ls2,h2,m2⟩; have hb2 := h2.lt; have c2 := h2.c0; have M2 := hid (Mvp.ahead (w := w) ext_by m2); have H2 := hid h2; clear h2 m2)
      | (go_at_call 41; (with_reducible refine (k_rdy (H2.out.ext ext_by) HW.out _ _).mono ?_); rintro e w3 ⟨rfl,tv3,v3,V3,ls3,h3,m3⟩; have M3 := hid (M2.out.trans (Mvp.ahead (w := w2) ext_by m3)); have H3 := hid h3; clear h3 m3))
    go_returns
    exact ⟨by simp,_,_,_,_,H3.out.ext ext_by,M3.out.ext ext_by⟩
  · have e1 : rdyE k id = 13 := rdyE_13 hs
    have e2 : sleepK k id u = k := by unfold sleepK; rw [if_neg hs]
    rw [e1,e2]
    rw [e1] at CT
    have G := hid h.goes
    clear h hk hs e1 e2
    go_enter Tryz.func15,Tryz.ntmps15
    go_wp2_with (go_at_call 59; (with_reducible refine CT.out.yields ?_); intro q1)
    go_returns
    exact ⟨by simp,G.out.ext ext_by⟩
set_option maxHeartbeats 4000000 in
theorem wait_any (h : RK base b x th gr tv v V ls k w) (hk : KOk th gr k) (id o : Int) :
    Calls Tryz.prog 17 #[.pointer (some ⟨b,0,none⟩),.int .i64 id,.int .i64 o] w fun e w' => e = .returned (.tuple #[.bool (waitA k id o).on,.int .i64 (waitA k id o).err]) ∧ Goes base b x th gr tv v V (waitK k id o) w w' := by
  have CT := hid (isReady_any h hk.wf id)
  have hb := h.lt
  by_cases hs : rdyE k id = 0
  · rw [hs] at CT
    have CW := fun w1 (e : Ext w w1) => k_owait (h.ext e) hk id o (rdyE_zero.1 hs)
    have HW := hid hk.wf
    unfold waitK
    generalize waitA k id o = a at *
    obtain ⟨on,er,c',W'⟩ := a
    simp only at CW ⊢
    have CW := hid CW
    clear h hk hs
    by_cases h0 : er = 0
    · subst h0
      cases on with
      | true =>
        simp only [true_and,Bool.true_eq_false,if_false]
        go_enter Tryz.func17,Tryz.ntmps17
        go_wp2_with (first
          | (go_at_call 59; (with_reducible refine CT.out.yields ?_); intro q1)
          | (go_at_call 62; (with_reducible refine (CW.out _ ext_by).mono ?_); rintro e w2 ⟨rfl,g2⟩; have G2 := hid (g2.ahead (w := w) ext_by); clear g2))
        go_returns
        exact ⟨by simp,G2.out.ext ext_by⟩
      | false =>
        simp only [true_and,if_true]
        go_enter Tryz.func17,Tryz.ntmps17
        go_wp2_with (first
          | (go_at_call 59; (with_reducible refine CT.out.yields ?_); intro q1)
          | (go_at_call 62; (with_reducible refine (CW.out _ ext_by).mono ?_); rintro e w2 ⟨rfl,tv2,v2,V2,ls2,h2,m2⟩; have hb2 := h2.lt; have c2 := h2.c0; have M2 := hid (Mvp.ahead (w := w) ext_by m2); have H2 := hid h2; clear h2 m2)
          | (go_at_call 41; (with_reducible refine (k_rdy (H2.out.ext ext_by) HW.out _ _).mono ?_); rintro e w3 ⟨rfl,tv3,v3,V3,ls3,h3,m3⟩; have M3 := hid (M2.out.trans (Mvp.ahead (w := w2) ext_by m3)); have H3 := hid h3; clear h3 m3))
        go_returns
        exact ⟨by simp,_,_,_,_,H3.out.ext ext_by,M3.out.ext ext_by⟩
    · rw [if_neg fun c => h0 c.1]
      have h1 : ((er : Int) = 0) = False := by simp; omega
      have h2 : decide ((er : Int) = 0) = false := by simp; omega
      go_enter Tryz.func17,Tryz.ntmps17
      go_wp2_with (first
        | (go_at_call 59; (with_reducible refine CT.out.yields ?_); intro q1)
        | (go_at_call 62; (with_reducible refine (CW.out _ ext_by).mono ?_); rintro e w2 ⟨rfl,g2⟩; have G2 := hid (g2.ahead (w := w) ext_by); clear g2))
      go_returns
      exact ⟨by simp,G2.out.ext ext_by⟩
  · have e0 : rdyE k id = 13 := rdyE_13 hs
    have e1 : waitA k id o = ⟨false,13,k.c,k.W⟩ := by unfold waitA; rw [if_neg hs]
    have e2 : waitK k id o = k := by unfold waitK; rw [e1,if_neg (by simp)]
    rw [e1,e2]
    rw [e0] at CT
    have G := hid h.goes
    clear h hk hs e0 e1 e2
    go_enter Tryz.func17,Tryz.ntmps17
    go_wp2_with (go_at_call 59; (with_reducible refine CT.out.yields ?_); intro q1)
    go_returns
    exact ⟨by simp,G.out.ext ext_by⟩
set_option maxHeartbeats 4000000 in
theorem signal_any (h : RK base b x th gr tv v V ls k w) (hk : KOk th gr k) (o : Int) :
    Calls Tryz.prog 19 #[.pointer (some ⟨b,0,none⟩),.int .i64 o] w fun e w' => e = .returned (.int .i64 (Ob.sigR o k.c k.W).err) ∧ Goes base b x th gr tv v V (signalK k o) w w' := by
  have CS := hid (k_osignal h hk o)
  have HW := hid hk.wf
  have hb := h.lt
  unfold signalK
  generalize Ob.sigR o k.c k.W = a at *
  obtain ⟨id,met,er,c',W'⟩ := a
  simp only at CS ⊢
  clear h hk
  cases met with
  | true =>
    simp only [if_true]
    go_enter Tryz.func19,Tryz.ntmps19
    go_wp2_with (first
      | (go_at_call 64; (with_reducible refine CS.out.mono ?_); rintro e w2 ⟨rfl,tv2,v2,V2,ls2,h2,m2⟩; have hb2 := h2.lt; have c2 := h2.c0; have M2 := hid m2; have H2 := hid h2; clear h2 m2)
      | (go_at_call 41; (with_reducible refine (k_rdy (H2.out.ext ext_by) HW.out _ _).mono ?_); rintro e w3 ⟨rfl,tv3,v3,V3,ls3,h3,m3⟩; have M3 := hid (M2.out.trans (Mvp.ahead (w := w2) ext_by m3)); have H3 := hid h3; clear h3 m3))
    go_returns
    exact ⟨by simp,_,_,_,_,H3.out.ext ext_by,M3.out.ext ext_by⟩
  | false =>
    simp only [Bool.false_eq_true,if_false]
    go_enter Tryz.func19,Tryz.ntmps19
    go_wp2_with (go_at_call 64; (with_reducible refine CS.out.mono ?_); rintro e w2 ⟨rfl,g2⟩; have G2 := hid g2; clear g2)
    go_returns
    exact ⟨by simp,G2.out.ext ext_by⟩
end
end Kr
end Go.Proofs.YtocicffmajbecaaGreatDoor
namespace Go.Proofs.YtocicffmajbecaaGreatDoor
open Go.RowKit
set_option maxRecDepth 100000
set_option linter.unusedSimpArgs false
namespace Kr
open Rw (En)
open Kn
section
variable {base b x : Nat} {th gr : Int} {tv v : Value} {V : Nat → Value} {ls : List En} {k : Kd} {w w' : World}
theorem RK.c10 (h : RK base b x th gr tv v V ls k w) : w.cell? ⟨b,10,none⟩ = some (.int .i64 th) := h.cell (j := 10) (by omega)
theorem RK.c11 (h : RK base b x th gr tv v V ls k w) : w.cell? ⟨b,11,none⟩ = some (.int .i64 gr) := h.cell (j := 11) (by omega)
set_option maxHeartbeats 8000000 in
theorem spawn_any (h : RK base b x th gr tv v V ls k w) (hk : KOk th gr k) (g wt : Int) (hlast : k.last ≤ 1000000) :
    Calls Tryz.prog 9 #[.pointer (some ⟨b,0,none⟩),.int .i64 g,.int .i64 wt] w fun e w' => e = .returned (.tuple #[.int .i64 (spawnN th k g wt),.int .i64 (spawnE th k g wt)]) ∧ Goes base b x th gr tv v V (spawnK th k g wt) w w' := by
  have hb := h.lt
  have CG := hid (isGroup_any h hk.wf g)
  have CC := hid (count_any h true)
  rw [cntD_T hk.wf] at CC
  have c0 := h.c0
  have c10 := h.c10
  have c12 := h.c12
  have f12 := h.free 12
  have hl1 := hk.l1
  unfold spawnK spawnN
  cases hw : isW wt with
  | false =>
    have e1 : spawnE th k g wt = 10 := by unfold spawnE; rw [if_pos hw]
    have CW := hid (fun w1 => risW_to hw w1)
    rw [e1,if_neg (by decide),if_neg (by decide)]
    have G := hid h.goes
    clear h hk CG CC c0 c10 c12 f12 hl1 hw e1
    go_enter Tryz.func9,Tryz.ntmps9
    go_wp2_with (go_at_call 45; (with_reducible refine (CW.out _).yields ?_); intro q1)
    go_returns
    exact ⟨by simp,G.out.ext ext_by⟩
  | true =>
    have CW := hid (fun w1 => risW_to hw w1)
    cases hg : grpU k.l g with
    | false =>
      have e1 : spawnE th k g wt = 13 := by unfold spawnE; rw [if_neg (by rw [hw]; decide),if_pos hg]
      rw [e1,if_neg (by decide),if_neg (by decide)]
      rw [hg] at CG
      have G := hid h.goes
      have CG := hid (fun w1 (e : Ext w w1) => isGroup_any (h.ext e) hk.wf g)
      rw [hg] at CG
      clear h hk CC c0 c10 c12 f12 hl1 hw e1 hg
      go_enter Tryz.func9,Tryz.ntmps9
      go_wp2_with (first
        | (go_at_call 45; (with_reducible refine (CW.out _).yields ?_); intro q1)
        | (go_at_call 46; (with_reducible refine (CG.out _ ext_by).yields ?_); intro q2))
      go_returns
      exact ⟨by simp,G.out.ext ext_by⟩
    | true =>
      have CG := hid (fun w1 (e : Ext w w1) => isGroup_any (h.ext e) hk.wf g)
      rw [hg] at CG
      have CC := hid (fun w1 (e : Ext w w1) => count_any (h.ext e) true)
      rw [cntD_T hk.wf] at CC
      by_cases ht : th ≤ cntT k.l
      · have e1 : spawnE th k g wt = 14 := by unfold spawnE; rw [if_neg (by rw [hw]; decide),if_neg (by rw [hg]; decide),if_pos ht]
        rw [e1,if_neg (by decide),if_neg (by decide)]
        have G := hid h.goes
        clear h hk c0 c12 f12 hl1 hw e1 hg
        generalize cntT k.l = cnt at *
        go_enter Tryz.func9,Tryz.ntmps9
        go_wp2_with (first
          | (go_at_call 45; (with_reducible refine (CW.out _).yields ?_); intro q1)
          | (go_at_call 46; (with_reducible refine (CG.out _ ext_by).yields ?_); intro q2))
        have d10 := more_cell c10
        ((first | refine wp_region_more (by kernel_rfl) (by kernel_rfl) ?_ | refine wp_region_ext (by kernel_rfl) (by kernel_rfl) ?_); (try dsimp only [append_cons',append_nil']); (repeat (go_big_quiet_step (((go_at_call 47; with_reducible refine Calls.more_of (CC.out _ (ext_more _ _))))))); refine wpQuiet_nil ?_; rintro _ ⟨pq,rfl⟩)
        go_wp2
        go_returns
        exact ⟨by simp,G.out.ext ext_by⟩
      · have e1 : spawnE th k g wt = 0 := by unfold spawnE; rw [if_neg (by rw [hw]; decide),if_neg (by rw [hg]; decide),if_neg ht]
        rw [e1,if_pos rfl,if_pos rfl]
        have HW := hid hk.wf
        have HW3 := hid (hk.wf.addL g (k.last + 1) wt true)
        have d10 := more_cell c10
        have ht' : ¬ th ≤ ((cntT k.l : Nat) : Int) := ht
        clear hk hw e1 hg ht
        generalize cntT k.l = cnt at *
        go_enter Tryz.func9,Tryz.ntmps9
        go_wp2_with (first
          | (go_at_call 45; (with_reducible refine (CW.out _).yields ?_); intro q1)
          | (go_at_call 46; (with_reducible refine (CG.out _ ext_by).yields ?_); intro q2))
        ((first | refine wp_region_more (by kernel_rfl) (by kernel_rfl) ?_ | refine wp_region_ext (by kernel_rfl) (by kernel_rfl) ?_); (try dsimp only [append_cons',append_nil']); (repeat (go_big_quiet_step (((go_at_call 47; with_reducible refine Calls.more_of (CC.out _ (ext_more _ _))))))); refine wpQuiet_nil ?_; rintro _ ⟨pq,rfl⟩)
        go_wp2
        refine wp_forget (fun w2 => RK base b x th gr tv v V ls { k with last := k.last + 1 } w2 ∧ Mvp (Own b x tv v V) (Own b x tv v V) w w2) (by
          have r := h.set_last (k.last + 1)
          exact ⟨r.1.ext (ext_more _ _),r.2.ext (ext_more _ _)⟩) ?_
        rintro w2 ⟨h2,m2⟩
        have X2 : Ext w2 w2.drew := Ext.drew (Ext.refl _)
        have h2 := h2.ext X2
        have M2 := hid (m2.ext X2)
        clear m2 X2
        have HSS : w2.drew.cell? ⟨b,0,none⟩ = some (.pointer (some ⟨x,0,none⟩)) ∧ w2.drew.cell? ⟨b,12,none⟩ = some (.int .i64 (k.last + 1)) := ⟨h2.c0,h2.c12⟩
        refine wp_region_T 10 1 (fun u => u.cell? ⟨b,0,none⟩ = some (.pointer (some ⟨x,0,none⟩)) ∧ u.cell? ⟨b,12,none⟩ = some (.int .i64 (k.last + 1))) (by kernel_rfl) (by kernel_rfl) ?_
        generalize w2.drew = z2 at *
        refine wpT_tk 0 HSS ?_; (try simp only [nrm])
        refine wpT_tk 1 HSS ?_; (try simp only [nrm])
        refine wpT_tk 2 HSS ?_; (try simp only [nrm])
        refine wpT_tk 3 HSS ?_; (try simp only [nrm])
        refine wpT_tk 4 HSS ?_; (try simp only [nrm])
        refine wpT_tk 5 HSS ?_; (try simp only [nrm])
        refine wpT_tk 6 HSS ?_; (try simp only [nrm])
        refine wpT_tk 7 HSS ?_; (try simp only [nrm])
        refine wpT_tk 8 HSS ?_; (try simp only [nrm])
        refine wpT_tk 9 HSS ?_; (try simp only [nrm])
        refine wpT_done (by kernel_rfl) ?_
        refine wpAny_on 10 (fun K' hK => ?_); go_simp
        (with_reducible refine (k_add h2 HW.out g (k.last + 1) wt true).mono ?_)
        rintro e w3 ⟨rfl,tv3,v3,V3,ls3,h3,m3⟩
        refine hK.out _ _ ?_
        clear hK K'
        refine wpAny_done (by kernel_rfl) ?_ _
        (try simp only [nrm])
        simp only [Exit.then]
        refine ‹∀ (a : Act) (w : World),Code.wp _ _ _ a w → _› _ _ ?_
        have M3 := hid (M2.out.trans m3)
        clear m3 h2 HSS
        (try go_wp2)
        have X3 : Ext w3 w3.drew := Ext.drew (Ext.refl _)
        have h3 := h3.ext X3
        have M3 := hid (M3.out.ext X3)
        clear X3
        have HSS : w3.drew.cell? ⟨b,0,none⟩ = some (.pointer (some ⟨x,0,none⟩)) ∧ w3.drew.cell? ⟨b,12,none⟩ = some (.int .i64 (k.last + 1)) := ⟨h3.c0,h3.c12⟩
        refine wp_region_T 8 1 (fun u => u.cell? ⟨b,0,none⟩ = some (.pointer (some ⟨x,0,none⟩)) ∧ u.cell? ⟨b,12,none⟩ = some (.int .i64 (k.last + 1))) (by kernel_rfl) (by kernel_rfl) ?_
        generalize w3.drew = z3 at *
        refine wpT_tk 0 HSS ?_; (try simp only [nrm])
        refine wpT_tk 1 HSS ?_; (try simp only [nrm])
        refine wpT_tk 2 HSS ?_; (try simp only [nrm])
        refine wpT_tk 3 HSS ?_; (try simp only [nrm])
        refine wpT_tk 4 HSS ?_; (try simp only [nrm])
        refine wpT_tk 5 HSS ?_; (try simp only [nrm])
        refine wpT_tk 6 HSS ?_; (try simp only [nrm])
        refine wpT_tk 7 HSS ?_; (try simp only [nrm])
        refine wpT_done (by kernel_rfl) ?_
        refine wpAny_on 8 (fun K' hK => ?_); go_simp
        (with_reducible refine (k_rdy h3 HW3.out (k.last + 1) true).mono ?_)
        rintro e w4 ⟨rfl,tv4,v4,V4,ls4,h4,m4⟩
        refine hK.out _ _ ?_
        clear hK K'
        refine wpAny_done (by kernel_rfl) ?_ _
        (try simp only [nrm])
        simp only [Exit.then]
        refine ‹∀ (a : Act) (w : World),Code.wp _ _ _ a w → _› _ _ ?_
        have M4 := hid (M3.out.trans m4)
        have hb4 := h4.lt
        have c12 := h4.c12
        have H4 := hid h4
        clear m4 h3 h4 HSS
        go_wp2
        go_returns
        exact ⟨by simp,_,_,_,_,H4.out.ext ext_by,M4.out.ext ext_by⟩
end
end Kr
end Go.Proofs.YtocicffmajbecaaGreatDoor
namespace Go.Proofs.YtocicffmajbecaaGreatDoor
open Go.RowKit
set_option maxRecDepth 100000
set_option linter.unusedSimpArgs false
namespace Kr
open Rw (En)
open Kn
section
variable {base b x : Nat} {th gr : Int} {tv v : Value} {V : Nat → Value} {ls : List En} {k : Kd} {w w' : World}
set_option maxHeartbeats 8000000 in
theorem group_any (h : RK base b x th gr tv v V ls k w) (hk : KOk th gr k) (g wt : Int) (hlast : k.last ≤ 1000000) :
    Calls Tryz.prog 11 #[.pointer (some ⟨b,0,none⟩),.int .i64 g,.int .i64 wt] w fun e w' => e = .returned (.tuple #[.int .i64 (groupN gr k g wt),.int .i64 (groupE gr k g wt)]) ∧ Goes base b x th gr tv v V (groupK gr k g wt) w w' := by
  have hb := h.lt
  have c0 := h.c0
  have c11 := h.c11
  have c12 := h.c12
  have f12 := h.free 12
  have hl1 := hk.l1
  unfold groupK groupN
  cases hw : isW wt with
  | false =>
    have e1 : groupE gr k g wt = 10 := by unfold groupE; rw [if_pos hw]
    have CW := hid (fun w1 => risW_to hw w1)
    rw [e1,if_neg (by decide),if_neg (by decide)]
    have G := hid h.goes
    clear h hk c0 c11 c12 f12 hl1 hw e1
    go_enter Tryz.func11,Tryz.ntmps11
    go_wp2_with (go_at_call 45; (with_reducible refine (CW.out _).yields ?_); intro q1)
    go_returns
    exact ⟨by simp,G.out.ext ext_by⟩
  | true =>
    have CW := hid (fun w1 => risW_to hw w1)
    cases hg : grpU k.l g with
    | false =>
      have e1 : groupE gr k g wt = 13 := by unfold groupE; rw [if_neg (by rw [hw]; decide),if_pos hg]
      rw [e1,if_neg (by decide),if_neg (by decide)]
      have G := hid h.goes
      have CG := hid (fun w1 (e : Ext w w1) => isGroup_any (h.ext e) hk.wf g)
      rw [hg] at CG
      clear h hk c0 c11 c12 f12 hl1 hw e1 hg
      go_enter Tryz.func11,Tryz.ntmps11
      go_wp2_with (first
        | (go_at_call 45; (with_reducible refine (CW.out _).yields ?_); intro q1)
        | (go_at_call 46; (with_reducible refine (CG.out _ ext_by).yields ?_); intro q2))
      go_returns
      exact ⟨by simp,G.out.ext ext_by⟩
    | true =>
      have CG := hid (fun w1 (e : Ext w w1) => isGroup_any (h.ext e) hk.wf g)
      rw [hg] at CG
      have CC := hid (fun w1 (e : Ext w w1) => count_any (h.ext e) false)
      rw [cntD_G] at CC
      by_cases ht : gr ≤ cntG k.l
      · have e1 : groupE gr k g wt = 14 := by unfold groupE; rw [if_neg (by rw [hw]; decide),if_neg (by rw [hg]; decide),if_pos ht]
        rw [e1,if_neg (by decide),if_neg (by decide)]
        have G := hid h.goes
        clear h hk c0 c12 f12 hl1 hw e1 hg
        generalize cntG k.l = cnt at *
        go_enter Tryz.func11,Tryz.ntmps11
        go_wp2_with (first
          | (go_at_call 45; (with_reducible refine (CW.out _).yields ?_); intro q1)
          | (go_at_call 46; (with_reducible refine (CG.out _ ext_by).yields ?_); intro q2))
        have d11 := more_cell c11
        ((first | refine wp_region_more (by kernel_rfl) (by kernel_rfl) ?_ | refine wp_region_ext (by kernel_rfl) (by kernel_rfl) ?_); (try dsimp only [append_cons',append_nil']); (repeat (go_big_quiet_step (((go_at_call 47; with_reducible refine Calls.more_of (CC.out _ (ext_more _ _))))))); refine wpQuiet_nil ?_; rintro _ ⟨pq,rfl⟩)
        go_wp2
        go_returns
        exact ⟨by simp,G.out.ext ext_by⟩
      · have CD := hid (fun w1 (e : Ext w w1) => q_deep (h.tq.ext e) hk.wf g)
        have hd5 := (hk.wf.dn g).2
        have d11 := more_cell c11
        by_cases hd : 4 ≤ dnU 6 k.l g
        · have e1 : groupE gr k g wt = 12 := by unfold groupE; rw [if_neg (by rw [hw]; decide),if_neg (by rw [hg]; decide),if_neg ht,if_pos hd]
          rw [e1,if_neg (by decide),if_neg (by decide)]
          have G := hid h.goes
          have hx := h.tq.lt
          clear h hk c12 f12 hl1 hw e1 hg
          generalize cntG k.l = cnt at *
          generalize dnU 6 k.l g = dn at *
          go_enter Tryz.func11,Tryz.ntmps11
          go_wp2_with (first
            | (go_at_call 45; (with_reducible refine (CW.out _).yields ?_); intro q1)
            | (go_at_call 46; (with_reducible refine (CG.out _ ext_by).yields ?_); intro q2))
          ((first | refine wp_region_more (by kernel_rfl) (by kernel_rfl) ?_ | refine wp_region_ext (by kernel_rfl) (by kernel_rfl) ?_); (try dsimp only [append_cons',append_nil']); (repeat (go_big_quiet_step (((go_at_call 47; with_reducible refine Calls.more_of (CC.out _ (ext_more _ _))))))); refine wpQuiet_nil ?_; rintro _ ⟨pq,rfl⟩)
          go_wp2_with (go_at_call 48; (with_reducible refine (CD.out _ ext_by).yields ?_); intro q3)
          go_returns
          exact ⟨by simp,G.out.ext ext_by⟩
        · have e1 : groupE gr k g wt = 0 := by unfold groupE; rw [if_neg (by rw [hw]; decide),if_neg (by rw [hg]; decide),if_neg ht,if_neg hd]
          rw [e1,if_pos rfl,if_pos rfl]
          have HW := hid hk.wf
          have hx := h.tq.lt
          clear hk hw e1 hg
          generalize cntG k.l = cnt at *
          generalize dnU 6 k.l g = dn at *
          go_enter Tryz.func11,Tryz.ntmps11
          go_wp2_with (first
            | (go_at_call 45; (with_reducible refine (CW.out _).yields ?_); intro q1)
            | (go_at_call 46; (with_reducible refine (CG.out _ ext_by).yields ?_); intro q2))
          ((first | refine wp_region_more (by kernel_rfl) (by kernel_rfl) ?_ | refine wp_region_ext (by kernel_rfl) (by kernel_rfl) ?_); (try dsimp only [append_cons',append_nil']); (repeat (go_big_quiet_step (((go_at_call 47; with_reducible refine Calls.more_of (CC.out _ (ext_more _ _))))))); refine wpQuiet_nil ?_; rintro _ ⟨pq,rfl⟩)
          go_wp2_with (go_at_call 48; (with_reducible refine (CD.out _ ext_by).yields ?_); intro q3)
          refine wp_forget (fun w2 => RK base b x th gr tv v V ls { k with last := k.last + 1 } w2 ∧ Mvp (Own b x tv v V) (Own b x tv v V) w w2) (by
            have r := h.set_last (k.last + 1)
            exact ⟨r.1.ext (ext_more _ _),r.2.ext (ext_more _ _)⟩) ?_
          rintro w2 ⟨h2,m2⟩
          have X2 : Ext w2 w2.drew := Ext.drew (Ext.refl _)
          have h2 := h2.ext X2
          have M2 := hid (m2.ext X2)
          clear m2 X2
          have HSS : w2.drew.cell? ⟨b,0,none⟩ = some (.pointer (some ⟨x,0,none⟩)) ∧ w2.drew.cell? ⟨b,12,none⟩ = some (.int .i64 (k.last + 1)) := ⟨h2.c0,h2.c12⟩
          refine wp_region_T 10 1 (fun u => u.cell? ⟨b,0,none⟩ = some (.pointer (some ⟨x,0,none⟩)) ∧ u.cell? ⟨b,12,none⟩ = some (.int .i64 (k.last + 1))) (by kernel_rfl) (by kernel_rfl) ?_
          generalize w2.drew = z2 at *
          refine wpT_tk 0 HSS ?_; (try simp only [nrm])
          refine wpT_tk 1 HSS ?_; (try simp only [nrm])
          refine wpT_tk 2 HSS ?_; (try simp only [nrm])
          refine wpT_tk 3 HSS ?_; (try simp only [nrm])
          refine wpT_tk 4 HSS ?_; (try simp only [nrm])
          refine wpT_tk 5 HSS ?_; (try simp only [nrm])
          refine wpT_tk 6 HSS ?_; (try simp only [nrm])
          refine wpT_tk 7 HSS ?_; (try simp only [nrm])
          refine wpT_tk 8 HSS ?_; (try simp only [nrm])
          refine wpT_tk 9 HSS ?_; (try simp only [nrm])
          refine wpT_done (by kernel_rfl) ?_
          refine wpAny_on 10 (fun K' hK => ?_); go_simp
          (with_reducible refine (k_add h2 HW.out g (k.last + 1) wt false).mono ?_)
          rintro e w3 ⟨rfl,tv3,v3,V3,ls3,h3,m3⟩
          refine hK.out _ _ ?_
          clear hK K'
          refine wpAny_done (by kernel_rfl) ?_ _
          (try simp only [nrm])
          simp only [Exit.then]
          refine ‹∀ (a : Act) (w : World),Code.wp _ _ _ a w → _› _ _ ?_
          have M3 := hid (M2.out.trans m3)
          have hb3 := h3.lt
          have c13 := h3.c12
          have H3 := hid h3
          clear m3 h2 h3 HSS
          go_wp2
          go_returns
          exact ⟨by simp,_,_,_,_,H3.out.ext ext_by,M3.out.ext ext_by⟩
end
end Kr
end Go.Proofs.YtocicffmajbecaaGreatDoor
namespace Go.Proofs.YtocicffmajbecaaGreatDoor
open Go.RowKit
set_option maxRecDepth 100000
set_option linter.unusedSimpArgs false
namespace Kr
open Rw (En)
open Kn
theorem wakes_wf : ∀ (is : List Int) {l : List Nd},Wf l → Wf (wakes l is)
  | [],_,h => h
  | i :: is,_,h => wakes_wf is (h.rdyL i true)
theorem wakes_next (l : List Nd) (ds : List Int) {i : Nat} {d : Int} (h : ds[i]? = some d) : wakes l (ds.take (i + 1)) = rdyL (wakes l (ds.take i)) d true := by
  obtain ⟨hi,e⟩ := List.getElem?_eq_some_iff.1 h
  unfold wakes
  rw [List.take_succ_eq_append_getElem hi,List.foldl_append,e]
  rfl
def ks (k : Kd) (tick : Int) (i : Nat) : Kd := { k with l := wakes k.l ((Ti.dueIds tick k.M).take i),M := Ti.sleepOn tick k.M }
def WkI (base b x : Nat) (th gr : Int) (tv v : Value) (V : Nat → Value) (k : Kd) (tick : Int) (w : World) (i : Nat) (vd : Value) (wr : World) : Prop :=
  ∃ tv' v' V' ls',RK base b x th gr tv' v' V' ls' (ks k tick i) wr ∧ Mvp (Own b x tv v V) (Own b x tv' v' V') w wr ∧ (∀ g,vd.ownBlock = some g → ¬ Own b x tv' v' V' g) ∧
    wr.ownsRow w.heap.size 3 1 vd (Ti.dueIds tick k.M).length ((Ti.dueIds tick k.M).map fun i => .int .i64 i)
section
variable {base b x : Nat} {th gr : Int} {tv v vd : Value} {V : Nat → Value} {ls : List En} {k : Kd} {w w' wr z : World} {tick : Int} {i : Nat}
theorem WkI.ext (h : WkI base b x th gr tv v V k tick w i vd wr) (e : Ext wr z) : WkI base b x th gr tv v V k tick w i vd z := by
  obtain ⟨tv',v',V',ls',h1,h2,h3,h4⟩ := h
  exact ⟨tv',v',V',ls',h1.ext e,h2.ext e,h3,owns_keep h4 fun g hg => e.below.block g (owns_below h4 g hg).2⟩
theorem WkI.c0 (h : WkI base b x th gr tv v V k tick w i vd wr) : wr.cell? ⟨b,0,none⟩ = some (.pointer (some ⟨x,0,none⟩)) ∧ b < wr.heap.size := by
  obtain ⟨tv',v',V',ls',h1,-⟩ := h
  exact ⟨h1.cell (j := 0) (by omega),h1.lt⟩
theorem WkI.rw' (h : WkI base b x th gr tv v V k tick w i vd wr) : Ko.RW w.heap.size wr vd (Ti.dueIds tick k.M) := by
  obtain ⟨tv',v',V',ls',-,-,-,h4⟩ := h
  exact Ko.RW.of_owns h4 (Nat.le_refl _)
theorem WkI.step (h : WkI base b x th gr tv v V k tick w i vd z) (hw : Wf k.l) {d : Int} (hd : (Ti.dueIds tick k.M)[i]? = some d) :
    Calls Tryz.prog 41 #[.pointer (some ⟨x,0,none⟩),.int .i64 d,.bool true] z fun e w' => (∃ r,e = .returned r) ∧ WkI base b x th gr tv v V k tick w (i + 1) vd w' := by
  obtain ⟨tv',v',V',ls',h1,h2,h3,h4⟩ := h
  refine (k_rdy h1 (wakes_wf _ hw) d true).mono fun e w' ⟨a,tv2,v2,V2,ls2,r,m⟩ => ⟨⟨_,a⟩,tv2,v2,V2,ls2,?_,h2.trans m,fun g hg hO => ?_,owns_keep h4 fun g hg => m.block g (owns_below h4 g hg).2 (h3 g hg)⟩
  · have e1 : ks k tick (i + 1) = { ks k tick i with l := rdyL (ks k tick i).l d true } := by
      unfold ks
      rw [wakes_next _ _ hd]
    rw [e1]; exact r
  · rcases m.own g hO with e1 | e1
    · exact h3 g hg e1
    · have := (owns_below h4 g hg).2
      omega
set_option maxHeartbeats 4000000 in
theorem wake_any (h : RK base b x th gr tv v V ls k w) (hk : KOk th gr k) (tick : Int) :
    Calls Tryz.prog 24 #[.pointer (some ⟨b,0,none⟩),.int .i64 tick] w fun e w' => ∃ vd,e = .returned vd ∧ (∃ tv' v' V' ls',RK base b x th gr tv' v' V' ls' (wakeK k tick) w' ∧ Mvp (Own b x tv v V) (Own b x tv' v' V') w w') ∧ Ints w' vd (Ti.dueIds tick k.M) := by
  have CD := hid (k_due h hk tick)
  have hb := h.lt
  have HW := hid hk.wf
  have hlen : (Ti.dueIds tick k.M).length ≤ 60 := by
    have h1 := Ti.dueIds_length tick k.M
    have h2 := (h.few hk).1
    rw [h.perm.length_eq] at h2
    omega
  have HF := hid (fun vd wr (q : WkI base b x th gr tv v V k tick w (Ti.dueIds tick k.M).length vd wr) => (show (∃ tv' v' V' ls',RK base b x th gr tv' v' V' ls' (wakeK k tick) wr ∧ Mvp (Own b x tv v V) (Own b x tv' v' V') w wr) ∧ Ints wr vd (Ti.dueIds tick k.M) from by
    obtain ⟨tv',v',V',ls',h1,h2,_,h4⟩ := q
    have e : ks k tick (Ti.dueIds tick k.M).length = wakeK k tick := by unfold ks wakeK; rw [List.take_length]
    rw [e] at h1
    exact ⟨⟨_,_,_,_,h1,h2⟩,ints_of_owns h4⟩))
  clear h hk
  obtain ⟨ds,hds⟩ : ∃ ds,Ti.dueIds tick k.M = ds := ⟨_,rfl⟩
  rw [hds] at hlen
  have HD := hid hds
  clear hds
  go_enter Tryz.func24,Tryz.ntmps24
  go_wp2_with (go_at_call 69; (with_reducible refine CD.out.mono ?_); rintro e w2 ⟨vd,rfl,⟨v2,ls2,h2,m2,f2⟩,o2⟩; have I0 : Hid (WkI base b x th gr tv v V k tick w 0 vd w2) := ⟨tv,v2,V,ls2,h2,m2,f2,o2⟩; have hb2 := h2.lt; clear h2 m2 f2 o2)
  obtain ⟨p,cap,hvd,hc1,hc2⟩ := I0.out.rw'.shape
  rw [HD.out] at hvd hc1
  subst hvd
  unfold maxLen at hc2
  go_loopw [6] (fun v6 wr => ∃ i : Nat,v6 = .int .i64 i ∧ i ≤ ds.length ∧ b < wr.heap.size ∧ Hid (WkI base b x th gr tv v V k tick w i (.slice p ds.length cap) wr)) (fun v6 _ => (ds.length - (intOf v6).toNat))
  case atStart => exact ⟨0,rfl,Nat.zero_le _,hb2,I0.out⟩
  case round =>
    obtain ⟨i,rfl,hi,hbr,I⟩ := hrel
    by_cases hlt : i < ds.length
    · obtain ⟨d,hd⟩ : ∃ d,ds[i]? = some d := ⟨_,List.getElem?_eq_getElem hlt⟩
      have hdk : (Ti.dueIds tick k.M)[i]? = some d := by rw [HD.out]; exact hd
      obtain ⟨g,off,cap',e,hg,hcg⟩ := I.out.rw'.at' hdk
      injection e with e1 e3 e2
      subst e1 e2
      clear e3
      have i1 : (i : Int) < ds.length := by omega
      have X3 : Ext wr wr.drew := Ext.drew (Ext.refl _)
      have I3 := hid (I.out.ext X3)
      have HSS : wr.drew.cell? ⟨b,0,none⟩ = some (.pointer (some ⟨x,0,none⟩)) ∧ wr.drew.cell? ⟨g,off + i,none⟩ = some (.int .i64 d) := ⟨I3.out.c0.1,X3.cell hcg⟩
      go_wp2
      refine wp_region_T 8 1 (fun u => u.cell? ⟨b,0,none⟩ = some (.pointer (some ⟨x,0,none⟩)) ∧ u.cell? ⟨g,off + i,none⟩ = some (.int .i64 d)) (by kernel_rfl) (by kernel_rfl) ?_
      generalize wr.drew = z3 at *
      refine wpT_tk 0 HSS ?_; (try simp only [nrm])
      refine wpT_tk 1 HSS ?_; (try simp only [nrm])
      refine wpT_tk 2 HSS ?_; (try simp only [nrm])
      refine wpT_tk 3 HSS ?_; (try simp only [nrm])
      refine wpT_tk 4 HSS ?_; (try simp only [nrm])
      refine wpT_tk 5 HSS ?_; (try simp only [nrm])
      refine wpT_tk 6 HSS ?_; (try simp only [nrm])
      refine wpT_tk 7 HSS ?_; (try simp only [nrm])
      refine wpT_done (by kernel_rfl) ?_
      refine wpAny_on 8 (fun K' hK => ?_); go_simp
      (with_reducible refine (I3.out.step HW.out hdk).mono ?_)
      rintro e w4 ⟨⟨r,rfl⟩,I4⟩
      refine hK.out _ _ ?_
      clear hK K'
      refine wpAny_done (by kernel_rfl) ?_ _
      (try simp only [nrm])
      (try simp only [Exit.then])
      have hb4 := I4.c0.2
      have HI4 := hid I4
      clear I4 HSS X3
      go_wp2
      go_roundw
      case rel => exact ⟨i + 1,by go_num,by omega,hb4,HI4.out⟩
      case measure => simp [intOf]; omega
    · have he : i = (Ti.dueIds tick k.M).length := by rw [HD.out]; omega
      subst he
      go_wp2
      go_returns
      exact ⟨_,rfl,(HF.out _ _ (I.out.ext ext_by))⟩
end
end Kr
end Go.Proofs.YtocicffmajbecaaGreatDoor
namespace Go.Proofs.YtocicffmajbecaaGreatDoor
open Go.RowKit
set_option maxRecDepth 100000
set_option linter.unusedSimpArgs false
namespace Kr
open Rw (En)
open Kn
def kz : Kd := ⟨[rootN],[],fun _ => 0,fun _ => [],1⟩
def kobj (x : Nat) (T G : Int) : Obj := .cells #[.pointer (some ⟨x,0,none⟩),.slice none 0 0,.int .i64 0,.int .i64 0,.int .i64 0,.int .i64 0,.slice none 0 0,.slice none 0 0,.slice none 0 0,.slice none 0 0,.int .i64 T,.int .i64 G,.int .i64 1] 55 (0,0)
theorem rk_new {w w2 : World} {x : Nat} {tv : Value} (h : Tq w.heap.size x tv [rootN] w2) (hx : w.heap.size ≤ x) (e : Ext w w2) (T G : Int) : RK w.heap.size w2.heap.size x T G tv (.slice none 0 0) (fun _ => .slice none 0 0) [] kz (w2.alloc (kobj x T G)) := by
  refine ⟨⟨_,heap_alloc_new _ _,rfl,fun j hj => ?_⟩,e.size,hx,h.ext (Ext.alloc (Ext.refl _) _),Rw.Row.nil _ _,fun i hi => .inl ⟨rfl,rfl⟩,List.Pairwise.nil,List.Perm.refl _⟩
  rcases cells13 hj with rfl | rfl | rfl | rfl | rfl | rfl | rfl | rfl | rfl | rfl | rfl | rfl | rfl <;> rfl
set_option maxHeartbeats 4000000 in
theorem new_any (w : World) (threads groups : Int) :
    Calls Tryz.prog 6 #[.int .i64 threads,.int .i64 groups] w fun e w' => ∃ b x tv v V ls,e = .returned (.pointer (some ⟨b,0,none⟩)) ∧ RK w.heap.size b x (max 1 (min threads 8)) (max 0 (min groups 4)) tv v V ls k0 w' ∧ Ext w w' := by
  have kzw : Wf kz.l := rootN_wf
  have hw1 : Wf (addL kz.l 0 1 1 true) := rootN_wf.addL 0 1 1 true
  have CN := hid (tnew_any w)
  have HW1 := hid hw1
  have HW0 := hid kzw
  clear hw1 kzw
  go_enter Tryz.func6,Tryz.ntmps6
  go_upto_region 2 with (go_at_call 39; (with_reducible refine CN.out.mono ?_); rintro e w2 ⟨tv,rfl,h2,x2⟩; have HN := hid (rk_new h2 (Nat.le_succ _) x2); have X2 := hid x2; clear h2 x2)
  refine wp_forget (fun w3 => RK w.heap.size w2.heap.size (w.heap.size + 1) _ _ tv (.slice none 0 0) (fun _ => .slice none 0 0) [] kz w3 ∧ Ext w w3) ⟨HN.out _ _,X2.out.trans (Ext.alloc (Ext.refl _) _)⟩ ?_
  rintro w3 ⟨h3,x3⟩
  have hb3 := h3.lt
  have c3 : w3.cell? ⟨w2.heap.size,0,none⟩ = some (.pointer (some ⟨w.heap.size + 1,0,none⟩)) := h3.cell (j := 0) (by omega)
  have H3 := hid h3
  have X3 := hid x3
  clear h3 x3 HN X2 CN
  generalize w2.heap.size = b at *
  go_wp2_with (first
    | (go_at_call 40; (with_reducible refine (k_add (H3.out.ext ext_by) HW0.out 0 1 1 true).mono ?_); rintro e w4 ⟨rfl,tv4,v4,V4,ls4,h4,m4⟩; have hb4 := h4.lt; have c4 := h4.cell (j := 0) (by omega); simp only [kc] at c4; have H4 := hid h4; have X4 := hid (m4.xt (X3.out.trans ext_by) fun i hi => ((H3.out.own i hi).1)); clear h4 m4)
    | (go_at_call 41; (with_reducible refine (k_rdy (H4.out.ext ext_by) HW1.out 1 true).mono ?_); rintro e w5 ⟨rfl,tv5,v5,V5,ls5,h5,m5⟩; have hb5 := h5.lt; have H5 := hid h5; have X5 := hid (m5.xt (X4.out.trans ext_by) fun i hi => ((H4.out.own i hi).1)); clear h5 m5))
  go_returns
  exact ⟨_,_,_,_,_,_,rfl,H5.out.ext ext_by,X5.out.trans ext_by⟩
end Kr
end Go.Proofs.YtocicffmajbecaaGreatDoor
namespace Go.Proofs.YtocicffmajbecaaGreatDoor
open Go.RowKit
set_option maxRecDepth 100000
set_option linter.unusedSimpArgs false
namespace Kr
open Rw (En)
open Kn
structure LvI (w : World) (l : List Nd) (i : Nat) (vd : Value) (wr : World) : Prop where
  xt : Ext w wr
  row : wr.ownsRow w.heap.size 3 1 vd (tids (l.take i)).length ((tids (l.take i)).map fun k => .int .i64 k)
section
variable {base b x : Nat} {th gr : Int} {tv v : Value} {V : Nat → Value} {ls : List En} {k : Kd} {w w' wr w2 : World}
theorem LvI.push {l : List Nd} {i : Nat} {vd vd' : Value} {o : Obj} (h : LvI w l i vd wr) (g : (wr.alloc o).grownBy w2 vd.ownBlock) {n : Nd} (hs : tids (l.take (i + 1)) = tids (l.take i) ++ [n.id])
    (ho : w2.ownsRow w.heap.size 3 1 vd' ((tids (l.take i)).length + 1) (((tids (l.take i)).map fun k => .int .i64 k) ++ [.int .i64 n.id])) : LvI w l (i + 1) vd' w2 := by
  refine ⟨Kf.grown_ext (Ext.alloc h.xt o) g fun i hi => (owns_below h.row i hi).1,?_⟩
  rw [hs,List.length_append,List.map_append]
  exact ho
set_option maxHeartbeats 4000000 in
theorem live_any (h : RK base b x th gr tv v V ls k w) (hw : Wf k.l) :
    Calls Tryz.prog 30 #[.pointer (some ⟨b,0,none⟩)] w fun e w' => ∃ vd,e = .returned vd ∧ Ext w w' ∧ Ints w' vd (tids k.l) := by
  have c0 : w.cell? ⟨b,0,none⟩ = some (.pointer (some ⟨x,0,none⟩)) := h.cell (j := 0) (by omega)
  have c1 := h.tq.cell
  have hb := h.lt
  have hx := h.tq.lt
  have hlen := hw.sk.len
  obtain ⟨p,cap,rfl,hc1,hc2,hp0,hp1⟩ := h.tq.row.slice
  unfold maxLen at hc2
  obtain ⟨i0,hi0,hz0,hz1,hz2⟩ := info_parts infoI
  have H := hid h.tq
  have HP := hid hp1
  have HN := hid hp0
  clear h hp0 hp1 hw
  generalize k.l = l at *
  go_enter Tryz.func30,Tryz.ntmps30
  go_wp2_with fail
  go_loopw [3,4] (fun vd s wr => ∃ i : Nat,s = .int .i64 i ∧ i ≤ l.length ∧ Hid (LvI w l i vd wr)) (fun _ s _ => (l.length - (intOf s).toNat))
  case atStart => exact ⟨0,rfl,Nat.zero_le _,⟨Ext.refl _,World.ownsRow_nil _ _ _ _⟩⟩
  case round =>
    obtain ⟨i,rfl,hi,I⟩ := hrel
    have X := I.out.xt
    have d0 := X.cell c0
    have d1 := X.cell c1
    by_cases hlt : i < l.length
    · obtain ⟨a,rfl⟩ : ∃ a,p = some a := by
        cases p with
        | none => exact absurd (HN.out rfl).1 (by intro e; rw [e] at hlt; simp at hlt)
        | some a => exact ⟨a,rfl⟩
      obtain ⟨g,rfl,hg,hgl⟩ := HP.out a rfl
      have hn : l[i]? = some l[i] := List.getElem?_eq_getElem hlt
      obtain ⟨e0,-,-,-,e4,-,-⟩ := H.out.row.node hn
      have f0 := X.cell e0
      have f4 := X.cell e4
      clear e0 e4
      have HS := hid (tids_step hlt)
      have HTL := hid (tids_len l i)
      have hws := X.size
      have HXS := hid hws
      have i1 : (i : Int) < l.length := by omega
      clear hn hws
      generalize l[i] = n at *
      cases ht : n.thr
      · rw [ht] at f4
        have HT : Hid (tids (l.take (i + 1)) = tids (l.take i)) := by have := HS.out; rw [ht] at this; exact hid (by simpa using this)
        go_wp2
        go_roundw
        case rel => exact ⟨i + 1,by go_num,by omega,⟨I.out.xt,by rw [HT.out]; exact I.out.row⟩⟩
        case measure => simp [intOf]; omega
      · rw [ht] at f4
        have HT : Hid (tids (l.take (i + 1)) = tids (l.take i) ++ [n.id]) := by have := HS.out; rw [ht] at this; exact hid (by simpa using this)
        have q3 : (wr.alloc (.cells #[.int .i64 n.id] 3 (0,0))).heap.size = wr.heap.size + 1 := by simp
        clear HS X
        go_wp2_with (at_builtin; refine wpList_append_own_at _ rfl _ _ 50 rfl w.heap.size 3 i0 (.int .i64 0) 1 8 Tryz.underlying50 hi0 hz0 hz1 hz2 rfl (by decide) _ _ _ rfl (I.out.row.alloc _) ⟨wr.heap.size,0,none⟩ 1 1 [.int .i64 n.id] rfl rfl (cell_one_new _ _ _) (ints_oneCell .i64 [n.id]) (by unfold maxLen; have := HTL.out; omega) (by have := HTL.out; omega) (by have := HXS.out; simp; omega) ?_; intro vd' w2 hown' hgrow hnil hloc; have H2 := hid (I.out.push (n := n) hgrow HT.out hown'); clear hnil hloc hgrow hown')
        go_roundw
        case rel => exact ⟨i + 1,by go_num,by omega,H2⟩
        case measure => simp [intOf]; omega
    · have he : i = l.length := by omega
      have hrow := I.out.row
      rw [he,List.take_length] at hrow
      have HR := hid hrow
      clear hrow
      go_wp2
      go_returns
      exact ⟨_,rfl,X,ints_of_owns HR.out⟩
end
end Kr
end Go.Proofs.YtocicffmajbecaaGreatDoor
