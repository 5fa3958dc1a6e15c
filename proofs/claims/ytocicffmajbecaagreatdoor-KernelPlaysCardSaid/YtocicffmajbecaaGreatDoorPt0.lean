/- The program's own tree in memory: its nodes, their groups' indexes, what a change of it may touch. -/
import Derived.Test.YtocicffmajbecaaGreatDoorInts
import Derived.Test.YtocicffmajbecaaGreatDoorRows
import Derived.Test.YtocicffmajbecaaGreatDoorNd
import Derived.Test.YtocicffmajbecaaGreatDoorFl
import Derived.Test.YtocicffmajbecaaGreatDoorSd0
import Derived.Test.YtocicffmajbecaaGreatDoorPq5
import Derived.Test.YtocicffmajbecaaGreatDoorPiece
import Derived.Test.YtocicffmajbecaaGreatDoorSite
import Derived.WalkKit
import Derived.WalkSpells
import Derived.WalkLawsBesides
import Derived.Deep.QuietTactic
import Derived.Deep.LoopGhost
import Derived.BigQuiet
import Derived.Deep.RegionHeld3
import Derived.OwnWalk
import Derived.Handy
namespace Go.Proofs.YtocicffmajbecaaGreatDoor
open Go.RowKit
structure Fr (S S' : Nat → Prop) (w w' : World) : Prop where
  os : w'.os = w.os
  tape : w'.tape = w.tape
  output : w'.output = w.output
  size : w.heap.size ≤ w'.heap.size
  block : ∀ k,k < w.heap.size → ¬ S k → w'.heap[k]? = w.heap[k]?
  own : ∀ k,S' k → S k ∨ w.heap.size ≤ k
theorem Fr.refl (S : Nat → Prop) (w : World) : Fr S S w w := ⟨rfl,rfl,rfl,Nat.le_refl _,fun _ _ _ => rfl,fun _ h => .inl h⟩
theorem Fr.trans {S S1 S2 : Nat → Prop} {w w1 w2 : World} (h : Fr S S1 w w1) (k : Fr S1 S2 w1 w2) : Fr S S2 w w2 :=
  ⟨k.os.trans h.os,k.tape.trans h.tape,k.output.trans h.output,Nat.le_trans h.size k.size,
    fun i hi hS => (k.block i (Nat.lt_of_lt_of_le hi h.size) fun e => by
      rcases h.own i e with h1 | h1
      · exact hS h1
      · omega).trans (h.block i hi hS),
    fun i hi => by
      rcases k.own i hi with h1 | h1
      · exact h.own i h1
      · exact .inr (Nat.le_trans h.size h1)⟩
theorem Fr.of_ext {S : Nat → Prop} {w w1 : World} (k : Ext w w1) : Fr S S w w1 :=
  ⟨k.below.os,k.below.tape,k.below.output,k.size,fun i hi _ => k.below.block i hi,fun _ h => .inl h⟩
theorem Fr.ext {S S1 : Nat → Prop} {w w1 w2 : World} (h : Fr S S1 w w1) (k : Ext w1 w2) : Fr S S1 w w2 := h.trans (.of_ext k)
theorem Fr.set {S : Nat → Prop} {w : World} {b : Nat} (h : S b) (j : Nat) (u : Value) : Fr S S w (w.setCell ⟨b,j,none⟩ u) :=
  ⟨rfl,rfl,rfl,by simp [World.setCell],fun k _ hS => Below.heap_setCell _ _ _ _ (fun e => hS (by rw [show k = b from e]; exact h)),fun _ h => .inl h⟩
theorem Fr.to {S S1 S2 : Nat → Prop} {w w1 : World} (h : Fr S S1 w w1) (k : ∀ i,S2 i → S1 i) : Fr S S2 w w1 := ⟨h.os,h.tape,h.output,h.size,h.block,fun i hi => h.own i (k i hi)⟩
theorem Fr.ext_of {S S' : Nat → Prop} {w0 w w' : World} (h : Fr S S' w w') (k : Ext w0 w) (hb : ∀ i,S i → w0.heap.size ≤ i) : Ext w0 w' :=
  ⟨h.os.trans k.below.os,h.tape.trans k.below.tape,h.output.trans k.below.output,Nat.le_trans k.size h.size,fun i hi => (h.block i (Nat.lt_of_lt_of_le hi k.size) fun e => by have := hb i e; omega).trans (k.below.block i hi)⟩
theorem blk_ne {w : World} {a b : Nat} {cs ds : Array Value} {T T' : TypeId} (ha : w.heap[a]? = some (.cells cs T (0,0))) (hb : w.heap[b]? = some (.cells ds T' (0,0))) (hT : T ≠ T') : a ≠ b := by
  rintro rfl
  rw [ha] at hb
  injection (Option.some.inj hb) with _ h
  exact hT h
theorem owns_ne {w : World} {base n m T b : Nat} {v : Value} {xs : List Value} {cs : Array Value} {T' : TypeId} (h : w.ownsRow base T n v m xs) (hb : w.heap[b]? = some (.cells cs T' (0,0))) (hT : T ≠ T') : v.ownBlock ≠ some b := by
  intro hg
  rcases h.2 with ⟨rfl,_⟩ | ⟨g',cap,cur,rfl,e2,e3,r⟩
  · cases hg
  · simp only [Value.ownBlock,Option.some.injEq] at hg
    subst hg
    exact blk_ne e3 hb hT rfl
theorem Row.ne {w : World} {base n b : Nat} {v : Value} {rows : List En} {cs : Array Value} {T : TypeId} (h : Row w base v n rows) (hb : w.heap[b]? = some (.cells cs T (0,0))) (hT : T ≠ 187) : v.ownBlock ≠ some b := h.far hb hT
theorem Ix.keep {w w' : World} {base x : Nat} {v : Value} {room : Int} {n : Nat} {rows : List En} (h : Ix base x v room n rows w) (k0 : w'.heap[x]? = w.heap[x]?) (k : ∀ g,v.ownBlock = some g → w'.heap[g]? = w.heap[g]?) : Ix base x v room n rows w' := ⟨by rw [k0]; exact h.blk,h.row.keep k⟩
structure Wit where
  v : Value
  nb : Int → Nat
  qb : Int → Nat
  qv : Int → Value
  rw : Int → List En
def Wit.grp (W : Wit) (n : Nd) : Value := if n.par < 0 then .pointer none else .pointer (some ⟨W.nb n.par,0,none⟩)
def Wit.que (W : Wit) (n : Nd) : Value := if n.thr = true then .pointer none else .pointer (some ⟨W.qb n.id,0,none⟩)
def pnc (W : Wit) (n : Nd) : Array Value := #[.int .i64 n.id,.int .i64 n.wt,.bool n.thr,W.grp n,.complex .f64 (Fz n.pass) (Fz n.now),W.que n]
def Wit.ptrs (W : Wit) (l : List Nd) : List Value := l.map fun n => .pointer (some ⟨W.nb n.id,0,none⟩)
structure Pt (base : Nat) (x : Site) (W : Wit) (l : List Nd) (w : World) : Prop where
  blk : x.At [W.v] w
  ty : x.T ≠ 124 ∧ x.T ≠ 174 ∧ x.T ≠ 187 ∧ x.T ≠ 119
  hx : base ≤ x.b
  row : w.ownsRow base 119 1 W.v l.length (W.ptrs l)
  node : ∀ n ∈ l,w.heap[W.nb n.id]? = some (.cells (pnc W n) 124 (0,0)) ∧ base ≤ W.nb n.id
  idx : ∀ n ∈ l,n.thr = false → Ix base (W.qb n.id) (W.qv n.id) 60 (W.rw n.id).length (W.rw n.id) w ∧ base ≤ W.qb n.id
  injN : ∀ n ∈ l,∀ m ∈ l,W.nb n.id = W.nb m.id → n.id = m.id
  injQ : ∀ n ∈ l,∀ m ∈ l,n.thr = false → m.thr = false → W.qb n.id = W.qb m.id → n.id = m.id
  injV : ∀ n ∈ l,∀ m ∈ l,n.thr = false → m.thr = false → ∀ g,(W.qv n.id).ownBlock = some g → (W.qv m.id).ownBlock = some g → n.id = m.id
def Own (x : Site) (W : Wit) (l : List Nd) (k : Nat) : Prop := k = x.b ∨ W.v.ownBlock = some k ∨ ∃ n ∈ l,k = W.nb n.id ∨ (n.thr = false ∧ (k = W.qb n.id ∨ (W.qv n.id).ownBlock = some k))
section
variable {base : Nat} {x : Site} {W : Wit} {l : List Nd} {w w' : World}
theorem Pt.lt (h : Pt base x W l w) : x.b < w.heap.size := h.blk.lt
theorem Pt.nlt (h : Pt base x W l w) {n : Nd} (hn : n ∈ l) : W.nb n.id < w.heap.size := lt_blk (h.node n hn).1
theorem Pt.own_lt (h : Pt base x W l w) {k : Nat} (hk : Own x W l k) : base ≤ k ∧ k < w.heap.size := by
  rcases hk with rfl | hk | ⟨n,hn,rfl | ⟨ht,rfl | hk⟩⟩
  · exact ⟨h.hx,h.lt⟩
  · exact h.row.lt k hk
  · exact ⟨(h.node n hn).2,h.nlt hn⟩
  · exact ⟨(h.idx n hn ht).2,(h.idx n hn ht).1.lt⟩
  · exact (h.idx n hn ht).1.row.lt k hk
theorem Pt.keep (h : Pt base x W l w) (k : ∀ b,Own x W l b → w'.heap[b]? = w.heap[b]?) : Pt base x W l w' :=
  ⟨h.blk.same (k x.b (.inl rfl)),h.ty,h.hx,owns_keep h.row fun g hg => k g (.inr (.inl hg)),
    fun n hn => ⟨by rw [k _ (.inr (.inr ⟨n,hn,.inl rfl⟩))]; exact (h.node n hn).1,(h.node n hn).2⟩,
    fun n hn ht => ⟨(h.idx n hn ht).1.keep (k _ (.inr (.inr ⟨n,hn,.inr ⟨ht,.inl rfl⟩⟩))) fun g hg => k g (.inr (.inr ⟨n,hn,.inr ⟨ht,.inr hg⟩⟩)),(h.idx n hn ht).2⟩,
    h.injN,h.injQ,h.injV⟩
theorem Pt.ext (h : Pt base x W l w) (k : Ext w w') : Pt base x W l w' := h.keep fun b hb => k.below.block b (h.own_lt hb).2
theorem owns_bne {base n m T : Nat} {v : Value} {xs : List Value} {w : World} {y : Site} {vs : List Value} (h : w.ownsRow base T n v m xs) (hb : y.At vs w) (hT : y.T ≠ T) : v.ownBlock ≠ some y.b := by
  obtain ⟨cs,h1,_⟩ := hb
  exact owns_ne h h1 (Ne.symm hT)
theorem Pt.n_x (h : Pt base x W l w) {n : Nd} (hn : n ∈ l) : x.b ≠ W.nb n.id := h.blk.ne (h.node n hn).1 h.ty.1
theorem Pt.n_v (h : Pt base x W l w) {n : Nd} (hn : n ∈ l) : W.v.ownBlock ≠ some (W.nb n.id) := owns_ne h.row (h.node n hn).1 (by decide)
theorem Pt.n_q (h : Pt base x W l w) {n m : Nd} (hn : n ∈ l) (hm : m ∈ l) (ht : m.thr = false) : W.qb m.id ≠ W.nb n.id := blk_ne (h.idx m hm ht).1.blk (h.node n hn).1 (by decide)
theorem Pt.n_r (h : Pt base x W l w) {n m : Nd} (hn : n ∈ l) (hm : m ∈ l) (ht : m.thr = false) : (W.qv m.id).ownBlock ≠ some (W.nb n.id) := (h.idx m hm ht).1.row.ne (h.node n hn).1 (by decide)
theorem Pt.q_x (h : Pt base x W l w) {m : Nd} (hm : m ∈ l) (ht : m.thr = false) : x.b ≠ W.qb m.id := h.blk.ne (h.idx m hm ht).1.blk h.ty.2.1
theorem Pt.q_v (h : Pt base x W l w) {m : Nd} (hm : m ∈ l) (ht : m.thr = false) : W.v.ownBlock ≠ some (W.qb m.id) := owns_ne h.row (h.idx m hm ht).1.blk (by decide)
theorem Pt.q_r (h : Pt base x W l w) {n m : Nd} (hn : n ∈ l) (hm : m ∈ l) (hs : n.thr = false) (ht : m.thr = false) : (W.qv m.id).ownBlock ≠ some (W.qb n.id) := (h.idx m hm ht).1.row.ne (h.idx n hn hs).1.blk (by decide)
theorem Pt.r_x (h : Pt base x W l w) {m : Nd} (hm : m ∈ l) (ht : m.thr = false) : (W.qv m.id).ownBlock ≠ some x.b := by
  obtain ⟨cs,h1,_⟩ := h.blk
  exact (h.idx m hm ht).1.row.ne h1 h.ty.2.2.1
theorem Pt.r_v (h : Pt base x W l w) {m : Nd} (hm : m ∈ l) (ht : m.thr = false) {g : Nat} (hg : (W.qv m.id).ownBlock = some g) : W.v.ownBlock ≠ some g := by
  rcases h.row.2 with ⟨e,_⟩ | ⟨g',cap,cur,e,e2,e3,r⟩
  · rw [e]; intro h; cases h
  · intro hv
    rw [e] at hv
    simp only [Value.ownBlock,Option.some.injEq] at hv
    subst hv
    exact (h.idx m hm ht).1.row.ne e3 (by decide) hg
theorem Pt.setNode (h : Pt base x W l w) {n : Nd} (hn : n ∈ l) (hs : Ids l) (f : Nd → Nd) (hf : ∀ n,(f n).id = n.id ∧ (f n).par = n.par ∧ (f n).thr = n.thr) (hb : w'.heap[W.nb n.id]? = some (.cells (pnc W (f n)) 124 (0,0)))
    (k : ∀ b,b ≠ W.nb n.id → w'.heap[b]? = w.heap[b]?) : Pt base x W (upd n.id f l) w' := by
  have hi : ∀ m : Nd,(if m.id = n.id then f m else m).id = m.id := fun m => by split <;> simp [hf]
  have ht : ∀ m : Nd,(if m.id = n.id then f m else m).thr = m.thr := fun m => by split <;> simp [hf]
  refine ⟨h.blk.same (k x.b (h.n_x hn)),h.ty,h.hx,?_,?_,?_,?_,?_,?_⟩
  · have e : W.ptrs (upd n.id f l) = W.ptrs l := by
      unfold Wit.ptrs upd
      rw [List.map_map]
      refine List.map_congr_left fun m _ => ?_
      simp only [Function.comp,hi]
    rw [e,upd_length]
    exact owns_keep h.row fun g hg => k g fun e => h.n_v hn (by rw [hg,e])
  · intro m' hm'
    obtain ⟨m,hm,rfl⟩ := mem_upd.1 hm'
    rw [hi]
    by_cases e : m.id = n.id
    · rw [if_pos e]
      obtain rfl := uniqU hs hm hn e
      exact ⟨hb,(h.node m hm).2⟩
    · rw [if_neg e]
      exact ⟨by rw [k _ fun e' => e (h.injN m hm n hn e')]; exact (h.node m hm).1,(h.node m hm).2⟩
  · intro m' hm' hth
    obtain ⟨m,hm,rfl⟩ := mem_upd.1 hm'
    rw [ht] at hth
    rw [hi]
    exact ⟨(h.idx m hm hth).1.keep (k _ (h.n_q hn hm hth)) fun g hg => k g fun e => h.n_r hn hm hth (by rw [hg,e]),(h.idx m hm hth).2⟩
  · intro a' ha' b' hb'
    obtain ⟨a,ha,rfl⟩ := mem_upd.1 ha'
    obtain ⟨b,hb,rfl⟩ := mem_upd.1 hb'
    rw [hi,hi]; exact h.injN a ha b hb
  · intro a' ha' b' hb'
    obtain ⟨a,ha,rfl⟩ := mem_upd.1 ha'
    obtain ⟨b,hb,rfl⟩ := mem_upd.1 hb'
    rw [hi,hi,ht,ht]; exact h.injQ a ha b hb
  · intro a' ha' b' hb'
    obtain ⟨a,ha,rfl⟩ := mem_upd.1 ha'
    obtain ⟨b,hb,rfl⟩ := mem_upd.1 hb'
    rw [hi,hi,ht,ht]; exact h.injV a ha b hb
theorem own_upd {id : Int} {f : Nd → Nd} (hf : ∀ n,(f n).id = n.id ∧ (f n).par = n.par ∧ (f n).thr = n.thr) (k : Nat) : Own x W (upd id f l) k ↔ Own x W l k := by
  have hi : ∀ m : Nd,(if m.id = id then f m else m).id = m.id := fun m => by split <;> simp [hf]
  have ht : ∀ m : Nd,(if m.id = id then f m else m).thr = m.thr := fun m => by split <;> simp [hf]
  unfold Own
  refine or_congr Iff.rfl (or_congr Iff.rfl ?_)
  constructor
  · rintro ⟨m',hm',h⟩
    obtain ⟨m,hm,rfl⟩ := mem_upd.1 hm'
    rw [hi,ht] at h
    exact ⟨m,hm,h⟩
  · rintro ⟨m,hm,h⟩
    exact ⟨_,mem_upd.2 ⟨m,hm,rfl⟩,by rw [hi,ht]; exact h⟩
theorem Pt.setAt (h : Pt base x W l w) {n : Nd} (hn : n ∈ l) (hs : Ids l) (f : Nd → Nd) (hf : ∀ n,(f n).id = n.id ∧ (f n).par = n.par ∧ (f n).thr = n.thr ∧ (f n).wt = n.wt) : Pt base x W (upd n.id f l) (w.setCell ⟨W.nb n.id,4,none⟩ (.complex .f64 (Fz (f n).pass) (Fz (f n).now))) := by
  refine h.setNode hn hs f (fun m => ⟨(hf m).1,(hf m).2.1,(hf m).2.2.1⟩) ?_ fun b hb => Below.heap_setCell _ _ _ _ (by simpa using hb)
  rw [set_same (h.node n hn).1]
  obtain ⟨h1,h2,h3,h4⟩ := hf n
  simp [pnc,Wit.grp,Wit.que,h1,h2,h3,h4]
theorem Pt.setWt (h : Pt base x W l w) {n : Nd} (hn : n ∈ l) (hs : Ids l) (f : Nd → Nd) (hf : ∀ n,(f n).id = n.id ∧ (f n).par = n.par ∧ (f n).thr = n.thr ∧ (f n).pass = n.pass ∧ (f n).now = n.now) : Pt base x W (upd n.id f l) (w.setCell ⟨W.nb n.id,1,none⟩ (.int .i64 (f n).wt)) := by
  refine h.setNode hn hs f (fun m => ⟨(hf m).1,(hf m).2.1,(hf m).2.2.1⟩) ?_ fun b hb => Below.heap_setCell _ _ _ _ (by simpa using hb)
  rw [set_same (h.node n hn).1]
  obtain ⟨h1,h2,h3,h4,h5⟩ := hf n
  simp [pnc,Wit.grp,Wit.que,h1,h2,h3,h4,h5]
theorem Pt.setRdy (h : Pt base x W l w) (hs : Ids l) (id : Int) (f : Nd → Nd) (hf : ∀ n,(f n).id = n.id ∧ (f n).par = n.par ∧ (f n).thr = n.thr ∧ (f n).wt = n.wt ∧ (f n).pass = n.pass ∧ (f n).now = n.now) : Pt base x W (upd id f l) w := by
  cases hg : getU l id with
  | none => rw [upd_same fun n hn e => absurd e (getU_none.1 hg n hn)]; exact h
  | some n =>
    obtain ⟨hn,rfl⟩ := getU_mem hg
    refine h.setNode hn hs f (fun m => ⟨(hf m).1,(hf m).2.1,(hf m).2.2.1⟩) ?_ fun b hb => rfl
    rw [(h.node n hn).1]
    obtain ⟨h1,h2,h3,h4,h5,h6⟩ := hf n
    simp [pnc,Wit.grp,Wit.que,h1,h2,h3,h4,h5,h6]
def Wit.setQ (W : Wit) (id : Int) (v : Value) (rows : List En) : Wit := { W with qv := fun i => if i = id then v else W.qv i,rw := fun i => if i = id then rows else W.rw i }
theorem Pt.setIdx (h : Pt base x W l w) {g : Nd} (hg : g ∈ l) (ht : g.thr = false) {rows' : List En} (hw : Went base (W.qb g.id) (W.qv g.id) 60 rows' w w') :
    ∃ v',Pt base x (W.setQ g.id v' rows') l w' ∧ Fr (Own x W l) (Own x (W.setQ g.id v' rows') l) w w' := by
  obtain ⟨v',hI,hM⟩ := hw
  have hk : ∀ b,b < w.heap.size → b ≠ W.qb g.id → (W.qv g.id).ownBlock ≠ some b → w'.heap[b]? = w.heap[b]? := fun b hb h1 h2 => hM.block b hb h1 h2
  refine ⟨v',⟨?_,h.ty,h.hx,?_,?_,?_,h.injN,h.injQ,?_⟩,⟨hM.os,hM.tape,hM.output,hM.size,?_,?_⟩⟩
  · exact h.blk.same (hk x.b h.lt (h.q_x hg ht) (h.r_x hg ht))
  · refine owns_keep h.row fun b hb => hk b (h.row.lt b hb).2 (fun e => h.q_v hg ht (by rw [← e]; exact hb)) (fun e => h.r_v hg ht e hb)
  · intro n hn
    refine ⟨?_,(h.node n hn).2⟩
    show w'.heap[W.nb n.id]? = _
    rw [hk _ (h.nlt hn) (fun e => h.n_q hn hg ht e.symm) (h.n_r hn hg ht)]
    exact (h.node n hn).1
  · intro n hn hnt
    refine ⟨?_,(h.idx n hn hnt).2⟩
    simp only [Wit.setQ]
    by_cases e : n.id = g.id
    · simp only [e,if_true]
      exact hI
    · simp only [e,if_false]
      refine (h.idx n hn hnt).1.keep (hk _ (h.idx n hn hnt).1.lt (fun e' => e (h.injQ n hn g hg hnt ht e')) (h.q_r hn hg hnt ht)) fun b hb => hk b ((h.idx n hn hnt).1.row.lt b hb).2 (fun e' => ?_) (fun e' => e (h.injV n hn g hg hnt ht b hb e'))
      subst e'
      exact h.q_r hg hn ht hnt hb
  · intro a ha b hb h1 h2 k hk1 hk2
    simp only [Wit.setQ] at hk1 hk2
    by_cases e1 : a.id = g.id <;> by_cases e2 : b.id = g.id
    · rw [e1,e2]
    · simp only [e1,e2,if_true,if_false] at hk1 hk2
      rcases hM.own k hk1 with h3 | h3
      · exact absurd (h.injV b hb g hg h2 ht k hk2 h3) e2
      · have := ((h.idx b hb h2).1.row.lt k hk2).2; omega
    · simp only [e1,e2,if_true,if_false] at hk1 hk2
      rcases hM.own k hk2 with h3 | h3
      · exact absurd (h.injV a ha g hg h1 ht k hk1 h3) e1
      · have := ((h.idx a ha h1).1.row.lt k hk1).2; omega
    · simp only [e1,e2,if_false] at hk1 hk2
      exact h.injV a ha b hb h1 h2 k hk1 hk2
  · intro k hk' hS
    refine hk k hk' (fun e => hS (.inr (.inr ⟨g,hg,.inr ⟨ht,.inl e⟩⟩))) (fun e => hS (.inr (.inr ⟨g,hg,.inr ⟨ht,.inr e⟩⟩)))
  · rintro k (rfl | hk1 | ⟨n,hn,rfl | ⟨hnt,rfl | hk1⟩⟩)
    · exact .inl (.inl rfl)
    · exact .inl (.inr (.inl hk1))
    · exact .inl (.inr (.inr ⟨n,hn,.inl rfl⟩))
    · exact .inl (.inr (.inr ⟨n,hn,.inr ⟨hnt,.inl rfl⟩⟩))
    · simp only [Wit.setQ] at hk1
      by_cases e : n.id = g.id
      · simp only [e,if_true] at hk1
        rcases hM.own k hk1 with h3 | h3
        · exact .inl (.inr (.inr ⟨g,hg,.inr ⟨ht,.inr h3⟩⟩))
        · exact .inr h3
      · simp only [e,if_false] at hk1
        exact .inl (.inr (.inr ⟨n,hn,.inr ⟨hnt,.inr hk1⟩⟩))
theorem Pt.cells (h : Pt base x W l w) {n : Nd} (hn : n ∈ l) : w.cell? ⟨W.nb n.id,0,none⟩ = some (.int .i64 n.id) ∧ w.cell? ⟨W.nb n.id,1,none⟩ = some (.int .i64 n.wt) ∧ w.cell? ⟨W.nb n.id,2,none⟩ = some (.bool n.thr) ∧
    w.cell? ⟨W.nb n.id,3,none⟩ = some (W.grp n) ∧ w.cell? ⟨W.nb n.id,4,none⟩ = some (.complex .f64 (Fz n.pass) (Fz n.now)) ∧ w.cell? ⟨W.nb n.id,5,none⟩ = some (W.que n) := by
  have hb := (h.node n hn).1
  refine ⟨?_,?_,?_,?_,?_,?_⟩ <;> simp [World.cell?,hb,pnc]
theorem Pt.free (h : Pt base x W l w) {n : Nd} (hn : n ∈ l) (j : Nat) : w.frozen? ⟨W.nb n.id,j,none⟩ = false := by simp [World.frozen?,(h.node n hn).1]
theorem Pt.cell (h : Pt base x W l w) : w.cell? ⟨x.b,x.d,none⟩ = some W.v := h.blk.cell1
theorem Pt.xfree (h : Pt base x W l w) : w.frozen? ⟨x.b,x.d,none⟩ = false := h.blk.free _
theorem grp_up {n : Nd} (h : ¬ n.par < 0) : W.grp n = .pointer (some ⟨W.nb n.par,0,none⟩) := if_neg h
theorem grp_top {n : Nd} (h : n.par < 0) : W.grp n = .pointer none := if_pos h
theorem que_of {n : Nd} (h : n.thr = false) : W.que n = .pointer (some ⟨W.qb n.id,0,none⟩) := by simp [Wit.que,h]
end
end Go.Proofs.YtocicffmajbecaaGreatDoor
