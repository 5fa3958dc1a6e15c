/- A kernel in a statement's walk: its nodes, who sleeps, who waits; each call by what it comes to. -/
import Derived.Test.YtocicffmajbecaaGreatDoorTmM
import Derived.Test.YtocicffmajbecaaGreatDoorTiAll
import Derived.Test.YtocicffmajbecaaGreatDoorObAll
import Derived.WalkKit
import Derived.WalkSpells
import Derived.WalkLawsBesides
import Derived.Deep.RegionLaw
import Derived.Handy
import Derived.Test.YtocicffmajbecaaGreatDoorTail
import Derived.OwnWalk
import Derived.Maps.AppendAt
namespace Go.Proofs.YtocicffmajbecaaGreatDoor
open Go.RowKit
set_option linter.unusedSimpArgs false
namespace Kn
def stU (l : List Nd) (id : Int) : Option Bool := match getU l id with
  | none => none
  | some n => if n.thr = true then some n.rdy else none
theorem stU_some {l : List Nd} (hs : Ids l) {id : Int} {b : Bool} : stU l id = some b ↔ ∃ n ∈ l,n.id = id ∧ n.thr = true ∧ n.rdy = b := by
  constructor
  · intro h
    unfold stU at h
    cases hg : getU l id with
    | none => rw [hg] at h; cases h
    | some n =>
      obtain ⟨hn,he⟩ := getU_mem hg
      rw [hg] at h
      (try simp only at h)
      split at h
      · exact ⟨n,hn,he,‹_›,Option.some.inj h⟩
      · cases h
  · rintro ⟨n,hn,rfl,ht,rfl⟩
    unfold stU
    rw [getU_of hs hn]
    simp [ht]
theorem stU_none {l : List Nd} (hs : Ids l) {id : Int} : stU l id = none ↔ ∀ n ∈ l,n.id = id → n.thr = false := by
  constructor
  · intro h n hn e
    cases ht : n.thr with
    | false => rfl
    | true =>
      have := (stU_some hs (b := n.rdy)).2 ⟨n,hn,e,ht,rfl⟩
      rw [h] at this; cases this
  · intro h
    cases hh : stU l id with
    | none => rfl
    | some b =>
      obtain ⟨n,hn,e,ht,-⟩ := (stU_some hs).1 hh
      rw [h n hn e] at ht; cases ht
theorem stU_ext {l' : List Nd} (hs' : Ids l') {f : Int → Option Bool} (h1 : ∀ n ∈ l',n.thr = true → f n.id = some n.rdy) (h2 : ∀ id b,f id = some b → ∃ n ∈ l',n.id = id ∧ n.thr = true) (id : Int) : stU l' id = f id := by
  cases hf : f id with
  | none =>
    refine (stU_none hs').2 fun n hn e => ?_
    cases ht : n.thr with
    | false => rfl
    | true =>
      have := h1 n hn ht
      rw [e,hf] at this; cases this
  | some b =>
    obtain ⟨n,hn,e,ht⟩ := h2 id b hf
    have := h1 n hn ht
    rw [e,hf] at this
    exact (stU_some hs').2 ⟨n,hn,e,ht,(Option.some.inj this).symm⟩
section
variable {l l' : List Nd} {id : Int} {b : Bool}
theorem stU_sim (hs : Ids l) (hs' : Ids l') (h : SimR l l') (j : Int) : stU l' j = stU l j := by
  refine stU_ext hs' (f := stU l) (fun n hn ht => ?_) (fun i b hi => ?_) j
  · obtain ⟨m,hm,e⟩ := h.back hn
    obtain ⟨e1,-,e3,-,e5⟩ := keyR_eq e
    exact (stU_some hs).2 ⟨m,hm,e1,by rw [e3]; exact ht,e5⟩
  · obtain ⟨m,hm,e,ht,-⟩ := (stU_some hs).1 hi
    obtain ⟨n,hn,ek⟩ := h.fwd hm
    obtain ⟨e1,-,e3,-,-⟩ := keyR_eq ek
    exact ⟨n,hn,e1.trans e,by rw [e3]; exact ht⟩
theorem stU_one (hs : Ids l) (hs' : Ids l') (h : SimS l l') {r : Bool} (hself : ∃ n ∈ l',n.id = id ∧ n.thr = true ∧ n.rdy = r) (hk : ∀ m ∈ l,m.thr = true → m.id ≠ id → m ∈ l') (j : Int) : stU l' j = if j = id then some r else stU l j := by
  obtain ⟨s,hsl,e1,e2,e3⟩ := hself
  refine stU_ext hs' (f := fun j => if j = id then some r else stU l j) (fun n hn ht => ?_) (fun i b hi => ?_) j
  · (try simp only)
    split
    · rename_i e
      rw [← e3,uniqU hs' hn hsl (e.trans e1.symm)]
    · rename_i e
      obtain ⟨m,hm,ek⟩ := h.back hn
      obtain ⟨k1,-,k3,-⟩ := keyS_eq ek
      have ht' : m.thr = true := by rw [k3]; exact ht
      have hm' := hk m hm ht' (by rw [k1]; exact e)
      have := uniqU hs' hm' hn k1
      rw [← this]
      exact (stU_some hs).2 ⟨m,hm,rfl,ht',rfl⟩
  · (try simp only at hi)
    split at hi
    · rename_i e
      exact ⟨s,hsl,e1.trans e.symm,e2⟩
    · rename_i e
      obtain ⟨m,hm,k1,k2,-⟩ := (stU_some hs).1 hi
      exact ⟨m,hk m hm k2 (by rw [k1]; exact e),k1,k2⟩
theorem par_thr (hw : Wf l) {n : Nd} (hn : n ∈ l) (ht : n.thr = true) : 0 ≤ n.par := by
  rcases Int.lt_or_le n.par 0 with h | h
  · rw [(hw.sk.clo n hn).2.1 h] at ht; cases ht
  · exact h
theorem rdyL_eq {n : Nd} (hs : Ids l) (hn : n ∈ l) (ht : n.thr = true) (r : Bool) : rdyL l n.id r = rdyU r l n.id := by
  have : rdyK l n.id = 0 := by simp [rdyK,getU_of hs hn,ht]
  rw [rdyL,if_pos this]
theorem rdyL_sim (l : List Nd) (id : Int) (r : Bool) : SimS l (rdyL l id r) := by
  unfold rdyL
  split
  · exact rdyU_sim r l id
  · exact SimS.refl l
theorem stU_rdy (hw : Wf l) (h : stU l id = some b) (r : Bool) (j : Int) : stU (rdyL l id r) j = if j = id then some r else stU l j := by
  have hs := hw.sk.ids
  have hs' := (hw.rdyL id r).sk.ids
  obtain ⟨n,hn,rfl,ht,-⟩ := (stU_some hs).1 h
  have h0 := par_thr hw hn ht
  refine stU_one hs hs' (rdyL_sim l _ r) ?_ ?_ j
  · rw [rdyL_eq hs hn ht]
    cases r with
    | false => exact ⟨offF n,rest_self (f := 4) hs hw.sk.clo hn ht h0,rfl,ht,rfl⟩
    | true =>
      cases hr : n.rdy with
      | true =>
        have e : wakeU 5 l n.id = l := wakeU_rdy hs hn hr
        exact ⟨n,by show n ∈ wakeU 5 l n.id; rw [e]; exact hn,rfl,ht,hr⟩
      | false =>
        obtain ⟨p,hp,he,hpt⟩ := (hw.sk.clo n hn).2.2 h0
        exact ⟨rdyF p.now n,wake_self (f := 4) hs hw.sk.clo hn ht h0 hp he hpt hr,rfl,ht,rfl⟩
  · intro m hm hmt hne
    rw [rdyL_eq hs hn ht]
    cases r with
    | false => exact rest_keep 5 hs hw.sk.clo hm hmt hne
    | true => exact wake_keep 5 hs hw.sk.clo hm hmt hne
theorem addL_eq {parent wt : Int} {thr : Bool} (hk : addK l parent id wt thr = 0) : addL l parent id wt thr = insT (newN l parent id wt thr) l := by rw [addL,if_pos hk]
theorem stU_add (hw : Wf l) {parent wt : Int} {thr : Bool} (hk : addK l parent id wt thr = 0) (j : Int) : stU (addL l parent id wt thr) j = if j = id then (if thr = true then some false else none) else stU l j := by
  have hs := hw.sk.ids
  have hs' := (hw.addL parent id wt thr).sk.ids
  obtain ⟨-,-,-,hnew,-,-⟩ := addC_ok hk
  have hnew := getU_none.1 hnew
  rw [addL_eq hk] at hs' ⊢
  refine stU_ext hs' (f := fun j => if j = id then (if thr = true then some false else none) else stU l j) (fun n hn ht => ?_) (fun i b hi => ?_) j
  · (try simp only)
    rcases mem_insT.1 hn with rfl | hn
    · rw [if_pos (show (newN l parent id wt thr).id = id from rfl)]
      have : thr = true := ht
      rw [if_pos this]; rfl
    · rw [if_neg (hnew n hn)]
      exact (stU_some hs).2 ⟨n,hn,rfl,ht,rfl⟩
  · (try simp only at hi)
    split at hi
    · rename_i e
      split at hi
      · rename_i ht
        exact ⟨_,mem_insT.2 (.inl rfl),e.symm,ht⟩
      · cases hi
    · obtain ⟨m,hm,k1,k2,-⟩ := (stU_some hs).1 hi
      exact ⟨m,mem_insT.2 (.inr hm),k1,k2⟩
theorem thr_noKids (hw : Wf l) {n : Nd} (hn : n ∈ l) (ht : n.thr = true) : ∀ m ∈ l,m.par ≠ n.id := fun m hm e => by
  have h0 := (hw.sk.clo n hn).1
  obtain ⟨p,hp,k1,k2⟩ := (hw.sk.clo m hm).2.2 (by omega)
  rw [uniqU hw.sk.ids hp hn (k1.trans e),ht] at k2; cases k2
theorem remK_thr (hw : Wf l) (h : stU l id = some b) : remK l id = 0 := by
  obtain ⟨n,hn,rfl,ht,-⟩ := (stU_some hw.sk.ids).1 h
  have h0 := par_thr hw hn ht
  simp only [remK,getU_of hw.sk.ids hn]
  rw [if_neg (by omega),if_pos (by rw [kids_nil.2 (thr_noKids hw hn ht)]; rfl)]
theorem remL_eq (hk : remK l id = 0) : remL l id = delU (restU 5 l id) id := by rw [remL,if_pos hk]
theorem mem_remL (hw : Wf l) (h : stU l id = some b) {m : Nd} : m ∈ remL l id ↔ m ∈ restU 5 l id ∧ m.id ≠ id := by
  rw [remL_eq (remK_thr hw h)]
  obtain ⟨n,hn,rfl,ht,-⟩ := (stU_some hw.sk.ids).1 h
  obtain ⟨h1,⟨n1,hn1,e1,-,-⟩,-⟩ := hw.rested hn (par_thr hw hn ht) (thr_noKids hw hn ht)
  have := mem_delU h1.sk.ids hn1 (m := m)
  rwa [e1] at this
theorem stU_rem (hw : Wf l) (h : stU l id = some b) (j : Int) : stU (remL l id) j = if j = id then none else stU l j := by
  have hs := hw.sk.ids
  have hs' := (hw.remL id).sk.ids
  have hsim := rest_sim 5 l id
  have hm1 := fun m => mem_remL hw h (m := m)
  have hwr : Ids (restU 5 l id) := by
    obtain ⟨n,hn,rfl,ht,-⟩ := (stU_some hs).1 h
    exact (hw.rested hn (par_thr hw hn ht) (thr_noKids hw hn ht)).1.sk.ids
  refine stU_ext hs' (f := fun j => if j = id then none else stU l j) (fun n hn ht => ?_) (fun i b hi => ?_) j
  · obtain ⟨h1,h2⟩ := (hm1 n).1 hn
    (try simp only)
    rw [if_neg h2]
    obtain ⟨m,hm,ek⟩ := hsim.back h1
    obtain ⟨k1,-,k3,-⟩ := keyS_eq ek
    have ht' : m.thr = true := by rw [k3]; exact ht
    have hm' := rest_keep 5 hs hw.sk.clo hm ht' (id := id) (by rw [k1]; exact h2)
    rw [← uniqU hwr hm' h1 k1]
    exact (stU_some hs).2 ⟨m,hm,rfl,ht',rfl⟩
  · (try simp only at hi)
    split at hi
    · cases hi
    · rename_i e
      obtain ⟨m,hm,k1,k2,-⟩ := (stU_some hs).1 hi
      have hne : m.id ≠ id := by rw [k1]; exact e
      exact ⟨m,(hm1 m).2 ⟨rest_keep 5 hs hw.sk.clo hm k2 hne,hne⟩,k1,k2⟩
theorem wtA_map (l : List Nd) (id wt : Int) : (wtA l id wt).map (fun n => (n.id,n.thr,n.rdy)) = l.map fun n => (n.id,n.thr,n.rdy) := by
  unfold wtA
  split
  · unfold upd
    rw [List.map_map]
    refine List.map_congr_left fun n _ => ?_
    simp only [Function.comp]
    split <;> rfl
  · rfl
theorem stU_map (hs : Ids l) (hs' : Ids l') (h : l'.map (fun n => (n.id,n.thr,n.rdy)) = l.map fun n => (n.id,n.thr,n.rdy)) (j : Int) : stU l' j = stU l j := by
  refine stU_ext hs' (f := stU l) (fun n hn ht => ?_) (fun i b hi => ?_) j
  · have : (n.id,n.thr,n.rdy) ∈ l.map fun n => (n.id,n.thr,n.rdy) := by rw [← h]; exact List.mem_map.2 ⟨n,hn,rfl⟩
    obtain ⟨m,hm,e⟩ := List.mem_map.1 this
    simp only [Prod.mk.injEq] at e
    exact (stU_some hs).2 ⟨m,hm,e.1,by rw [e.2.1]; exact ht,e.2.2⟩
  · obtain ⟨m,hm,k1,k2,-⟩ := (stU_some hs).1 hi
    have : (m.id,m.thr,m.rdy) ∈ l'.map fun n => (n.id,n.thr,n.rdy) := by rw [h]; exact List.mem_map.2 ⟨m,hm,rfl⟩
    obtain ⟨n,hn,e⟩ := List.mem_map.1 this
    simp only [Prod.mk.injEq] at e
    exact ⟨n,hn,e.1.trans k1,by rw [e.2.1]; exact k2⟩
theorem stU_wt (hw : Wf l) (wt j : Int) : stU (wtA l id wt) j = stU l j := stU_map hw.sk.ids (hw.wtA id wt).sk.ids (wtA_map l id wt) j
theorem runL_sim (l : List Nd) : SimR l (runL l) := by
  unfold runL
  split
  · exact SimR.refl l
  · exact (run_sim 6 ‹_›).trans (up_sim 6 _ _)
theorem stU_run (hw : Wf l) (j : Int) : stU (runL l) j = stU l j := stU_sim hw.sk.ids hw.runL.sk.ids (runL_sim l) j
def isT (k : Int × Bool) : Bool := k.2
def isG (k : Int × Bool) : Bool := !k.2 && decide (0 < k.1)
def kd (n : Nd) : Int × Bool := (n.id,n.thr)
def cntT (l : List Nd) : Nat := (l.map kd).countP isT
def cntG (l : List Nd) : Nat := (l.map kd).countP isG
theorem kd_sim (h : SimS l l') : l'.map kd = l.map kd := by
  have := congrArg (List.map fun k : Int × Int × Bool × Int => (k.1,k.2.2.1)) h
  rw [List.map_map,List.map_map] at this
  exact this
theorem kd_wt (l : List Nd) (id wt : Int) : (wtA l id wt).map kd = l.map kd := by
  have := congrArg (List.map fun k : Int × Bool × Bool => (k.1,k.2.1)) (wtA_map l id wt)
  rw [List.map_map,List.map_map] at this
  exact this
theorem cnt_of (h : l'.map kd = l.map kd) : cntT l' = cntT l ∧ cntG l' = cntG l ∧ l'.length = l.length := by
  refine ⟨by unfold cntT; rw [h],by unfold cntG; rw [h],?_⟩
  have := congrArg List.length h
  simpa using this
theorem low_of (h : l'.map kd = l.map kd) {b : Int} (hl : ∀ n ∈ l,n.id ≤ b) : ∀ n ∈ l',n.id ≤ b := fun n hn => by
  have : kd n ∈ l.map kd := by rw [← h]; exact List.mem_map.2 ⟨n,hn,rfl⟩
  obtain ⟨m,hm,e⟩ := List.mem_map.1 this
  have := congrArg Prod.fst e
  simp only [kd] at this
  rw [← this]; exact hl m hm
theorem ins_perm (d : Nd) (l : List Nd) : (insT d l).Perm (d :: l) := by
  unfold insT
  have := List.perm_middle (a := d) (l₁ := l.take (placeT l d.id)) (l₂ := l.drop (placeT l d.id))
  rwa [List.take_append_drop] at this
theorem cnt_add {parent wt : Int} {thr : Bool} (h0 : 0 < id) (hk : addK l parent id wt thr = 0) : cntT (addL l parent id wt thr) = cntT l + (if thr = true then 1 else 0) ∧ cntG (addL l parent id wt thr) = cntG l + (if thr = true then 0 else 1) ∧ (addL l parent id wt thr).length = l.length + 1 := by
  rw [addL_eq hk]
  have p := (ins_perm (newN l parent id wt thr) l).map kd
  refine ⟨?_,?_,insT_length _ _⟩
  · unfold cntT
    rw [p.countP_eq,List.map_cons,List.countP_cons]
    cases thr <;> simp [kd,isT,newN]
  · unfold cntG
    rw [p.countP_eq,List.map_cons,List.countP_cons]
    cases thr <;> simp [kd,isG,newN,h0]
theorem erase_perm {α : Type} {l : List α} {i : Nat} (h : i < l.length) : (l[i] :: l.eraseIdx i).Perm l := by
  rw [List.eraseIdx_eq_take_drop_succ]
  have p := List.perm_middle (a := l[i]) (l₁ := l.take i) (l₂ := l.drop (i + 1))
  refine p.symm.trans ?_
  rw [List.getElem_cons_drop,List.take_append_drop]
theorem cnt_rem (hw : Wf l) (h : stU l id = some b) : cntT (remL l id) + 1 = cntT l ∧ cntG (remL l id) = cntG l ∧ (remL l id).length + 1 = l.length := by
  rw [remL_eq (remK_thr hw h)]
  obtain ⟨n,hn,rfl,ht,-⟩ := (stU_some hw.sk.ids).1 h
  obtain ⟨h1,⟨n1,hn1,e1,-,-⟩,-⟩ := hw.rested hn (par_thr hw hn ht) (thr_noKids hw hn ht)
  obtain ⟨c1,c2,c3⟩ := cnt_of (kd_sim (rest_sim 5 l n.id))
  have hl := delU_length h1.sk.ids hn1
  obtain ⟨hp,hpe⟩ := place_get h1.sk.ids hn1
  have ht1 : n1.thr = true := by
    obtain ⟨m,hm,ek⟩ := (rest_sim 5 l n.id).back hn1
    obtain ⟨k1,-,k3,-⟩ := keyS_eq ek
    rw [← k3,uniqU hw.sk.ids hm hn (k1.trans e1)]; exact ht
  have p := (erase_perm hp).map kd
  rw [hpe] at p
  rw [e1] at hl p hp
  have q1 := p.countP_eq isT
  have q2 := p.countP_eq isG
  rw [List.map_cons,List.countP_cons] at q1 q2
  refine ⟨?_,?_,by omega⟩
  · unfold cntT at c1 ⊢
    rw [← c1,← q1]
    simp [kd,isT,ht1,delU]
  · unfold cntG at c2 ⊢
    rw [← c2,← q2]
    simp [kd,isG,ht1,delU]
end
end Kn
end Go.Proofs.YtocicffmajbecaaGreatDoor
namespace Go.Proofs.YtocicffmajbecaaGreatDoor
open Go.RowKit
set_option linter.unusedSimpArgs false
namespace Kn
open Rw (En)
structure Kd where
  l : List Nd
  M : List En
  c : Nat → Int
  W : Nat → List Int
  last : Int
structure KOk (th gr : Int) (k : Kd) : Prop where
  tb : 1 ≤ th ∧ th ≤ 8
  gb : 0 ≤ gr ∧ gr ≤ 4
  wf : Wf k.l
  l1 : 1 ≤ k.last
  low : ∀ n ∈ k.l,n.id ≤ k.last
  nM : Ti.Apart k.M
  sl : ∀ e ∈ k.M,stU k.l e.1 = some false
  nW : (Ob.flat k.W).Nodup
  wa : ∀ i ∈ Ob.flat k.W,stU k.l i = some false
  ap : ∀ e ∈ k.M,e.1 ∉ Ob.flat k.W
  cb : ∀ j,j < 4 → 0 ≤ k.c j ∧ k.c j ≤ 255
  ct : (cntT k.l : Int) ≤ th
  cg : (cntG k.l : Int) ≤ gr
  len : k.l.length = 1 + cntT k.l + cntG k.l
def spawnE (th : Int) (k : Kd) (g wt : Int) : Nat := if isW wt = false then 10 else if grpU k.l g = false then 13 else if th ≤ cntT k.l then 14 else 0
def spawnK (th : Int) (k : Kd) (g wt : Int) : Kd := if spawnE th k g wt = 0 then { k with l := rdyL (addL k.l g (k.last + 1) wt true) (k.last + 1) true,last := k.last + 1 } else k
def spawnN (th : Int) (k : Kd) (g wt : Int) : Int := if spawnE th k g wt = 0 then k.last + 1 else 0
def groupE (gr : Int) (k : Kd) (g wt : Int) : Nat := if isW wt = false then 10 else if grpU k.l g = false then 13 else if gr ≤ cntG k.l then 14 else if 4 ≤ dnU 6 k.l g then 12 else 0
def groupK (gr : Int) (k : Kd) (g wt : Int) : Kd := if groupE gr k g wt = 0 then { k with l := addL k.l g (k.last + 1) wt false,last := k.last + 1 } else k
def groupN (gr : Int) (k : Kd) (g wt : Int) : Int := if groupE gr k g wt = 0 then k.last + 1 else 0
def exitE (k : Kd) (id : Int) : Nat := if stU k.l id = none then 13 else 0
def exitK (k : Kd) (id : Int) : Kd := if exitE k id = 0 then { k with l := remL k.l id,M := Ti.others id k.M,W := Ob.others id k.W } else k
def rdyE (k : Kd) (id : Int) : Nat := if stU k.l id = some true then 0 else 13
def sleepK (k : Kd) (id u : Int) : Kd := if rdyE k id = 0 then { k with l := rdyL k.l id false,M := Ti.put id u k.M } else k
def waitA (k : Kd) (id o : Int) : Ob.WAns := if rdyE k id = 0 then Ob.waitR id o k.c k.W else ⟨false,13,k.c,k.W⟩
def waitK (k : Kd) (id o : Int) : Kd := { k with l := if (waitA k id o).err = 0 ∧ (waitA k id o).on = false then rdyL k.l id false else k.l,c := (waitA k id o).c,W := (waitA k id o).W }
def signalK (k : Kd) (o : Int) : Kd := { k with l := if (Ob.sigR o k.c k.W).met = true then rdyL k.l (Ob.sigR o k.c k.W).id true else k.l,c := (Ob.sigR o k.c k.W).c,W := (Ob.sigR o k.c k.W).W }
def wakes (l : List Nd) (is : List Int) : List Nd := is.foldl (fun l id => rdyL l id true) l
def wakeK (k : Kd) (tick : Int) : Kd := { k with l := wakes k.l (Ti.dueIds tick k.M),M := Ti.sleepOn tick k.M }
def weightK (k : Kd) (id wt : Int) : Kd := { k with l := wtA k.l id wt }
def runK' (k : Kd) : Kd := { k with l := runL k.l }
section
variable {th gr : Int} {k : Kd} {l' : List Nd}
theorem KOk.fresh (h : KOk th gr k) : getU k.l (k.last + 1) = none := getU_none.2 fun n hn e => by
  have := h.low n hn
  omega
theorem KOk.small (h : KOk th gr k) : k.l.length ≤ 13 := by
  have h1 := h.tb; have h2 := h.gb; have h3 := h.ct; have h4 := h.cg; have h5 := h.len
  omega
theorem KOk.same (h : KOk th gr k) (hw : Wf l') (hkd : l'.map kd = k.l.map kd) (hst : ∀ j,stU l' j = stU k.l j) : KOk th gr { k with l := l' } := by
  obtain ⟨c1,c2,c3⟩ := cnt_of hkd
  exact ⟨h.tb,h.gb,hw,h.l1,low_of hkd h.low,h.nM,fun e he => (hst _).trans (h.sl e he),h.nW,fun i hi => (hst i).trans (h.wa i hi),h.ap,h.cb,by show (cntT l' : Int) ≤ th; rw [c1]; exact h.ct,by show (cntG l' : Int) ≤ gr; rw [c2]; exact h.cg,by show l'.length = 1 + cntT l' + cntG l'; rw [c1,c2,c3]; exact h.len⟩
theorem KOk.weight (h : KOk th gr k) (id wt : Int) : KOk th gr (weightK k id wt) := h.same (h.wf.wtA id wt) (kd_wt _ _ _) fun j => stU_wt h.wf wt j
theorem KOk.run (h : KOk th gr k) : KOk th gr (runK' k) := h.same h.wf.runL (kd_sim (runL_sim k.l).s) fun j => stU_run h.wf j
theorem KOk.sl_ne (h : KOk th gr k) {id : Int} (hi : stU k.l id ≠ some false) : (∀ e ∈ k.M,e.1 ≠ id) ∧ id ∉ Ob.flat k.W := ⟨fun e he c => hi (by rw [← c]; exact h.sl e he),fun c => hi (h.wa id c)⟩
theorem KOk.more (h : KOk th gr k) {g wt : Int} {thr : Bool} (hk : addK k.l g (k.last + 1) wt thr = 0) (ht : thr = true → (cntT k.l : Int) < th) (hg : thr = false → (cntG k.l : Int) < gr) : KOk th gr { k with l := addL k.l g (k.last + 1) wt thr,last := k.last + 1 } := by
  have h1 := h.l1
  obtain ⟨c1,c2,c3⟩ := cnt_add (l := k.l) (by omega) hk
  have hst := fun j => stU_add h.wf hk j
  have hne : ∀ j,stU k.l j = some false → j ≠ k.last + 1 := fun j hj e => by
    obtain ⟨n,hn,e1,-,-⟩ := (stU_some h.wf.sk.ids).1 hj
    have := h.low n hn
    omega
  refine ⟨h.tb,h.gb,h.wf.addL _ _ _ _,by show 1 ≤ k.last + 1; omega,fun n hn => ?_,h.nM,fun e he => ?_,h.nW,fun i hi => ?_,h.ap,h.cb,?_,?_,?_⟩
  · show n.id ≤ k.last + 1
    simp only [addL_eq hk] at hn
    rcases mem_insT.1 hn with rfl | hn
    · exact Int.le_refl _
    · have := h.low n hn
      omega
  · rw [hst,if_neg (hne _ (h.sl e he))]; exact h.sl e he
  · rw [hst,if_neg (hne _ (h.wa i hi))]; exact h.wa i hi
  · have h2 := h.ct
    show (cntT (addL k.l g (k.last + 1) wt thr) : Int) ≤ th
    rw [c1]
    cases thr with
    | true => have := ht rfl; simp; omega
    | false => simpa using h2
  · have h2 := h.cg
    show (cntG (addL k.l g (k.last + 1) wt thr) : Int) ≤ gr
    rw [c2]
    cases thr with
    | true => simpa using h2
    | false => have := hg rfl; simp; omega
  · show (addL k.l g (k.last + 1) wt thr).length = _
    rw [c1,c2,c3,h.len]
    cases thr <;> simp <;> omega
theorem KOk.turn (h : KOk th gr k) {id : Int} {b : Bool} (hi : stU k.l id = some b) (r : Bool) (hM : ∀ e ∈ k.M,r = true → e.1 ≠ id) (hW : r = true → id ∉ Ob.flat k.W) : KOk th gr { k with l := rdyL k.l id r } := by
  have hkd := kd_sim (rdyL_sim k.l id r)
  obtain ⟨c1,c2,c3⟩ := cnt_of hkd
  have hst := fun j => stU_rdy h.wf hi r j
  refine ⟨h.tb,h.gb,h.wf.rdyL _ _,h.l1,low_of hkd h.low,h.nM,fun e he => ?_,h.nW,fun i hi => ?_,h.ap,h.cb,by show (cntT (rdyL k.l id r) : Int) ≤ th; rw [c1]; exact h.ct,by show (cntG (rdyL k.l id r) : Int) ≤ gr; rw [c2]; exact h.cg,by show (rdyL k.l id r).length = _; rw [c3]; show _ = 1 + cntT (rdyL k.l id r) + cntG (rdyL k.l id r); rw [c1,c2]; exact h.len⟩
  · show stU (rdyL k.l id r) e.1 = some false
    rw [hst]
    split
    · rename_i e1
      cases r with
      | false => rfl
      | true => exact absurd e1 (hM e he rfl)
    · exact h.sl e he
  · show stU (rdyL k.l id r) i = some false
    rw [hst]
    split
    · rename_i e1
      cases r with
      | false => rfl
      | true => exact absurd (e1 ▸ hi) (hW rfl)
    · exact h.wa i hi
end
section
variable {th gr : Int} {k : Kd}
theorem grpU_mem {l : List Nd} {g : Int} (h : grpU l g = true) : ∃ p ∈ l,p.id = g ∧ p.thr = false := by
  unfold grpU at h
  cases hg : getU l g with
  | none => rw [hg] at h; cases h
  | some p =>
    obtain ⟨hp,e⟩ := getU_mem hg
    rw [hg] at h
    exact ⟨p,hp,e,by simpa using h⟩
theorem spawn_ok (h : KOk th gr k) {g wt : Int} (he : spawnE th k g wt = 0) : addK k.l g (k.last + 1) wt true = 0 ∧ (cntT k.l : Int) < th := by
  unfold spawnE at he
  cases hw : isW wt with
  | false => rw [if_pos hw] at he; cases he
  | true =>
    rw [if_neg (by rw [hw]; decide)] at he
    cases hg : grpU k.l g with
    | false => rw [if_pos hg] at he; cases he
    | true =>
      rw [if_neg (by rw [hg]; decide)] at he
      by_cases ht : th ≤ cntT k.l
      · rw [if_pos ht] at he; cases he
      · obtain ⟨p,hp,e1,e2⟩ := grpU_mem hg
        have := h.small
        have := h.l1
        exact ⟨addC_zero hw (by omega) h.wf.sk.ids hp e1 e2 h.fresh (fun e => by cases e) (by omega),by omega⟩
theorem group_ok (h : KOk th gr k) {g wt : Int} (he : groupE gr k g wt = 0) : addK k.l g (k.last + 1) wt false = 0 ∧ (cntG k.l : Int) < gr := by
  unfold groupE at he
  cases hw : isW wt with
  | false => rw [if_pos hw] at he; cases he
  | true =>
    rw [if_neg (by rw [hw]; decide)] at he
    cases hg : grpU k.l g with
    | false => rw [if_pos hg] at he; cases he
    | true =>
      rw [if_neg (by rw [hg]; decide)] at he
      by_cases ht : gr ≤ cntG k.l
      · rw [if_pos ht] at he; cases he
      · rw [if_neg ht] at he
        by_cases hd : 4 ≤ dnU 6 k.l g
        · rw [if_pos hd] at he; cases he
        · obtain ⟨p,hp,e1,e2⟩ := grpU_mem hg
          have := h.small
          have := h.l1
          exact ⟨addC_zero hw (by omega) h.wf.sk.ids hp e1 e2 h.fresh (fun _ => by omega) (by omega),by omega⟩
theorem spawn_st (h : KOk th gr k) {g wt : Int} (he : spawnE th k g wt = 0) : stU (addL k.l g (k.last + 1) wt true) (k.last + 1) = some false := by
  rw [stU_add h.wf (spawn_ok h he).1,if_pos rfl,if_pos rfl]
theorem KOk.spawn (h : KOk th gr k) (g wt : Int) : KOk th gr (spawnK th k g wt) := by
  unfold spawnK
  split
  · rename_i he
    obtain ⟨h1,h2⟩ := spawn_ok h he
    have hm := h.more h1 (fun _ => h2) (fun e => by cases e)
    have hf := h.fresh
    refine hm.turn (spawn_st h he) true (fun e hE _ c => ?_) fun _ c => ?_
    · obtain ⟨n,hn,e1,-,-⟩ := (stU_some h.wf.sk.ids).1 (h.sl e hE)
      exact getU_none.1 hf n hn (e1.trans c)
    · obtain ⟨n,hn,e1,-,-⟩ := (stU_some h.wf.sk.ids).1 (h.wa _ c)
      exact getU_none.1 hf n hn e1
  · exact h
theorem KOk.group (h : KOk th gr k) (g wt : Int) : KOk th gr (groupK gr k g wt) := by
  unfold groupK
  split
  · rename_i he
    obtain ⟨h1,h2⟩ := group_ok h he
    exact h.more h1 (fun e => by cases e) fun _ => h2
  · exact h
theorem mem_others {id : Int} {M : List En} {e : En} : e ∈ Ti.others id M ↔ e ∈ M ∧ e.1 ≠ id := by
  unfold Ti.others
  rw [List.mem_filter]
  simp
theorem flat_others (id : Int) (W : Nat → List Int) : Ob.flat (Ob.others id W) = (Ob.flat W).filter (· != id) := by
  simp [Ob.flat,Ob.others,List.filter_append]
theorem KOk.exit (h : KOk th gr k) (id : Int) : KOk th gr (exitK k id) := by
  unfold exitK
  split
  · rename_i he
    cases hi : stU k.l id with
    | none => unfold exitE at he; rw [if_pos hi] at he; cases he
    | some b =>
      obtain ⟨c1,c2,c3⟩ := cnt_rem h.wf hi
      have hst := fun j => stU_rem h.wf hi j
      have h1 := h.ct; have h2 := h.cg; have h3 := h.len
      refine ⟨h.tb,h.gb,h.wf.remL id,h.l1,fun n hn => ?_,?_,fun e hE => ?_,?_,fun i hI => ?_,fun e hE c => ?_,h.cb,by show (cntT (remL k.l id) : Int) ≤ th; omega,by show (cntG (remL k.l id) : Int) ≤ gr; omega,by show (remL k.l id).length = 1 + cntT (remL k.l id) + cntG (remL k.l id); omega⟩
      · obtain ⟨h4,-⟩ := (mem_remL h.wf hi).1 hn
        exact low_of (kd_sim (rest_sim 5 k.l id)) h.low n h4
      · exact (((List.filter_sublist).map _).nodup h.nM : ((Ti.others id k.M).map (·.1)).Nodup)
      · obtain ⟨h4,h5⟩ := mem_others.1 hE
        show stU (remL k.l id) e.1 = some false
        rw [hst,if_neg h5]; exact h.sl e h4
      · show (Ob.flat (Ob.others id k.W)).Nodup
        rw [flat_others]; exact List.filter_sublist.nodup h.nW
      · have hI : i ∈ Ob.flat (Ob.others id k.W) := hI
        rw [flat_others,List.mem_filter] at hI
        show stU (remL k.l id) i = some false
        rw [hst,if_neg (by simpa using hI.2)]; exact h.wa i hI.1
      · obtain ⟨h4,-⟩ := mem_others.1 hE
        have c : e.1 ∈ Ob.flat (Ob.others id k.W) := c
        rw [flat_others,List.mem_filter] at c
        exact h.ap e h4 c.1
  · exact h
theorem rdyE_zero {id : Int} : rdyE k id = 0 ↔ stU k.l id = some true := by
  unfold rdyE
  split
  · rename_i h; simp [h]
  · rename_i h; simp [h]
theorem KOk.sleep (h : KOk th gr k) (id u : Int) : KOk th gr (sleepK k id u) := by
  unfold sleepK
  split
  · rename_i he
    have hi := rdyE_zero.1 he
    obtain ⟨n1,n2⟩ := h.sl_ne (id := id) (by rw [hi]; decide)
    have ht := h.turn hi false (fun _ _ e => by cases e) (fun e => by cases e)
    refine { ht with nM := ?_,sl := fun e hE => ?_,ap := fun e hE c => ?_ }
    · show ((Ti.put id u k.M).map (·.1)).Nodup
      unfold Ti.put
      rw [List.map_cons,List.nodup_cons]
      refine ⟨fun c => ?_,(List.filter_sublist.map _).nodup h.nM⟩
      obtain ⟨e,h4,h5⟩ := List.mem_map.1 c
      exact (mem_others.1 h4).2 h5
    · rcases List.mem_cons.1 (show e ∈ (id,u) :: Ti.others id k.M from hE) with rfl | h4
      · show stU (rdyL k.l id false) id = some false
        rw [stU_rdy h.wf hi,if_pos rfl]
      · exact ht.sl e (mem_others.1 h4).1
    · rcases List.mem_cons.1 (show e ∈ (id,u) :: Ti.others id k.M from hE) with rfl | h4
      · exact n2 c
      · exact h.ap e (mem_others.1 h4).1 c
  · exact h
end
end Kn
end Go.Proofs.YtocicffmajbecaaGreatDoor
namespace Go.Proofs.YtocicffmajbecaaGreatDoor
open Go.RowKit
set_option linter.unusedSimpArgs false
namespace Kn
open Rw (En)
section
variable {th gr : Int} {k : Kd}
theorem wait_cases (h : KOk th gr k) (id o : Int) :
    (∃ e : Nat,e ≠ 0 ∧ (e = 13 ∨ e = 10) ∧ (e = 13 ↔ stU k.l id ≠ some true) ∧ waitA k id o = ⟨false,e,k.c,k.W⟩ ∧ waitK k id o = k) ∨
    (∃ i : Nat,i < 4 ∧ o = i ∧ stU k.l id = some true ∧ 0 < k.c i ∧ waitA k id o = ⟨true,0,Ob.upd k.c i (k.c i - 1),k.W⟩ ∧ waitK k id o = { k with c := Ob.upd k.c i (k.c i - 1) }) ∨
    (∃ i : Nat,i < 4 ∧ o = i ∧ stU k.l id = some true ∧ ¬ 0 < k.c i ∧ waitA k id o = ⟨false,0,k.c,Ob.upd k.W i (k.W i ++ [id])⟩ ∧ waitK k id o = { k with l := rdyL k.l id false,W := Ob.upd k.W i (k.W i ++ [id]) }) := by
  have key : ∀ a,waitA k id o = a → waitK k id o = { k with l := if a.err = 0 ∧ a.on = false then rdyL k.l id false else k.l,c := a.c,W := a.W } := fun a e => by subst e; rfl
  by_cases hr : rdyE k id = 0
  · have ea : waitA k id o = Ob.waitR id o k.c k.W := by unfold waitA; rw [if_pos hr]
    have hi := rdyE_zero.1 hr
    obtain ⟨n1,n2⟩ := h.sl_ne (id := id) (by rw [hi]; decide)
    have hwt : ¬ Ob.waits id k.W = true := by unfold Ob.waits; simpa using n2
    unfold Ob.waitR at ea
    by_cases ho : o < 0 ∨ 4 ≤ o
    · rw [if_pos ho] at ea
      refine .inl ⟨10,by decide,.inr rfl,by simp [hi],ea,?_⟩
      rw [key _ ea,if_neg (by simp)]
    · rw [if_neg ho,if_neg hwt] at ea
      obtain ⟨i,hi4,rfl⟩ : ∃ i : Nat,i < 4 ∧ o = i := ⟨o.toNat,by omega,by omega⟩
      rw [Int.toNat_natCast] at ea
      by_cases hc : 0 < k.c i
      · rw [if_pos hc] at ea
        refine .inr (.inl ⟨i,hi4,rfl,hi,hc,ea,?_⟩)
        rw [key _ ea,if_neg (by simp)]
      · rw [if_neg hc] at ea
        refine .inr (.inr ⟨i,hi4,rfl,hi,hc,ea,?_⟩)
        rw [key _ ea,if_pos ⟨rfl,rfl⟩]
  · have ea : waitA k id o = ⟨false,13,k.c,k.W⟩ := by unfold waitA; rw [if_neg hr]
    refine .inl ⟨13,by decide,.inl rfl,by simpa using fun e => hr (rdyE_zero.2 e),ea,?_⟩
    rw [key _ ea,if_neg (by simp)]
theorem KOk.counts (h : KOk th gr k) {i : Nat} {v : Int} (hv : 0 ≤ v ∧ v ≤ 255) : KOk th gr { k with c := Ob.upd k.c i v } := by
  refine { h with cb := fun j hj => ?_ }
  show 0 ≤ Ob.upd k.c i v j ∧ Ob.upd k.c i v j ≤ 255
  by_cases e : j = i
  · rw [e,Ob.upd_same]; exact hv
  · rw [Ob.upd_other e]; exact h.cb j hj
theorem KOk.wait (h : KOk th gr k) (id o : Int) : KOk th gr (waitK k id o) := by
  rcases wait_cases h id o with ⟨e,-,-,-,-,q⟩ | ⟨i,hi,-,-,hc,-,q⟩ | ⟨i,hi,-,hs,hc,-,q⟩
  · rw [q]; exact h
  · rw [q]
    have := h.cb i hi
    exact h.counts ⟨by omega,by omega⟩
  · rw [q]
    obtain ⟨n1,n2⟩ := h.sl_ne (id := id) (by rw [hs]; decide)
    have ht := h.turn hs false (fun _ _ e => by cases e) (fun e => by cases e)
    have hp := Ob.flat_in (r := k.W) hi id
    refine { ht with nW := ?_,wa := fun j hj => ?_,ap := fun e hE c => ?_ }
    · show (Ob.flat (Ob.upd k.W i (k.W i ++ [id]))).Nodup
      rw [hp.nodup_iff,List.nodup_cons]
      exact ⟨n2,h.nW⟩
    · have hj : j ∈ Ob.flat (Ob.upd k.W i (k.W i ++ [id])) := hj
      rw [hp.mem_iff] at hj
      rcases List.mem_cons.1 hj with rfl | hj
      · show stU (rdyL k.l j false) j = some false
        rw [stU_rdy h.wf hs,if_pos rfl]
      · exact ht.wa j hj
    · have c : e.1 ∈ Ob.flat (Ob.upd k.W i (k.W i ++ [id])) := c
      rw [hp.mem_iff] at c
      rcases List.mem_cons.1 c with c | c
      · exact n1 e hE c
      · exact h.ap e hE c
theorem signal_cases (k : Kd) (o : Int) :
    ((o < 0 ∨ 4 ≤ o) ∧ Ob.sigR o k.c k.W = ⟨0,false,10,k.c,k.W⟩ ∧ signalK k o = k) ∨
    (∃ i : Nat,i < 4 ∧ o = i ∧ k.W i = [] ∧ Ob.sigR o k.c k.W = ⟨0,false,0,Ob.upd k.c i (min (k.c i + 1) 255),k.W⟩ ∧ signalK k o = { k with c := Ob.upd k.c i (min (k.c i + 1) 255) }) ∨
    (∃ (i : Nat) (id : Int) (rest : List Int),i < 4 ∧ o = i ∧ k.W i = id :: rest ∧ Ob.sigR o k.c k.W = ⟨id,true,0,k.c,Ob.upd k.W i rest⟩ ∧ signalK k o = { k with l := rdyL k.l id true,W := Ob.upd k.W i rest }) := by
  have key : ∀ a,Ob.sigR o k.c k.W = a → signalK k o = { k with l := if a.met = true then rdyL k.l a.id true else k.l,c := a.c,W := a.W } := fun a e => by subst e; rfl
  by_cases ho : o < 0 ∨ 4 ≤ o
  · have ea : Ob.sigR o k.c k.W = ⟨0,false,10,k.c,k.W⟩ := by unfold Ob.sigR; rw [if_pos ho]
    refine .inl ⟨ho,ea,?_⟩
    rw [key _ ea,if_neg (by simp)]
  · obtain ⟨i,hi4,rfl⟩ : ∃ i : Nat,i < 4 ∧ o = i := ⟨o.toNat,by omega,by omega⟩
    cases hW : k.W i with
    | nil =>
      have ea : Ob.sigR i k.c k.W = ⟨0,false,0,Ob.upd k.c i (min (k.c i + 1) 255),k.W⟩ := by unfold Ob.sigR; rw [if_neg ho,Int.toNat_natCast,hW]
      refine .inr (.inl ⟨i,hi4,rfl,hW,ea,?_⟩)
      rw [key _ ea,if_neg (by simp)]
    | cons id rest =>
      have ea : Ob.sigR i k.c k.W = ⟨id,true,0,k.c,Ob.upd k.W i rest⟩ := by unfold Ob.sigR; rw [if_neg ho,Int.toNat_natCast,hW]
      refine .inr (.inr ⟨i,id,rest,hi4,rfl,hW,ea,?_⟩)
      rw [key _ ea,if_pos rfl]
theorem KOk.head (h : KOk th gr k) {i : Nat} (hi : i < 4) {id : Int} {rest : List Int} (hW : k.W i = id :: rest) : stU k.l id = some false ∧ KOk th gr { k with l := rdyL k.l id true,W := Ob.upd k.W i rest } := by
  have hp := Ob.flat_out (r := k.W) (L1 := []) (L2 := rest) (e := id) hi hW
  rw [List.nil_append] at hp
  have hn := (hp.nodup_iff).1 h.nW
  rw [List.nodup_cons] at hn
  have hmem : id ∈ Ob.flat k.W := hp.mem_iff.2 (by simp)
  have hst := h.wa id hmem
  have h1 : KOk th gr { k with W := Ob.upd k.W i rest } := { h with
    nW := hn.2
    wa := fun j hj => h.wa j (hp.mem_iff.2 (List.mem_cons_of_mem _ hj))
    ap := fun e hE c => h.ap e hE (hp.mem_iff.2 (List.mem_cons_of_mem _ c)) }
  exact ⟨hst,h1.turn hst true (fun e hE _ c => h.ap e hE (by rw [c]; exact hmem)) fun _ => hn.1⟩
theorem KOk.signal (h : KOk th gr k) (o : Int) : KOk th gr (signalK k o) := by
  rcases signal_cases k o with ⟨-,-,q⟩ | ⟨i,hi,-,-,-,q⟩ | ⟨i,id,rest,hi,-,hW,-,q⟩
  · rw [q]; exact h
  · rw [q]
    have := h.cb i hi
    exact h.counts ⟨by omega,by omega⟩
  · rw [q]; exact (h.head hi hW).2
theorem wakes_ok : ∀ (is : List Int) {k : Kd},KOk th gr k → (∀ i ∈ is,stU k.l i ≠ none ∧ (∀ e ∈ k.M,e.1 ≠ i) ∧ i ∉ Ob.flat k.W) → KOk th gr { k with l := wakes k.l is } ∧ ∀ j,stU (wakes k.l is) j = if j ∈ is then some true else stU k.l j
  | [],_,h,_ => ⟨h,fun j => by simp [wakes]⟩
  | i :: is,k,h,hi => by
    obtain ⟨h1,h2,h3⟩ := hi i (by simp)
    obtain ⟨b,hb⟩ : ∃ b,stU k.l i = some b := Option.ne_none_iff_exists'.1 h1
    have ht := h.turn hb true (fun e hE _ => h2 e hE) (fun _ => h3)
    have hst := fun j => stU_rdy h.wf hb true j
    obtain ⟨k1,k2⟩ := wakes_ok is (k := { k with l := rdyL k.l i true }) ht fun j hj => by
      obtain ⟨a1,a2,a3⟩ := hi j (by simp [hj])
      refine ⟨?_,a2,a3⟩
      show stU (rdyL k.l i true) j ≠ none
      rw [hst]
      split
      · decide
      · exact a1
    refine ⟨k1,fun j => (k2 j).trans ?_⟩
    show (if j ∈ is then some true else stU (rdyL k.l i true) j) = _
    rw [hst]
    by_cases e1 : j ∈ is
    · rw [if_pos e1,if_pos (by simp [e1])]
    · rw [if_neg e1]
      by_cases e2 : j = i
      · rw [if_pos e2,if_pos (by simp [e2])]
      · rw [if_neg e2,if_neg (by simp [e1,e2])]
theorem KOk.asleep (h : KOk th gr k) (tick : Int) : KOk th gr { k with M := Ti.sleepOn tick k.M } :=
  { h with
    nM := (List.filter_sublist.map _).nodup h.nM
    sl := fun e hE => h.sl e (List.mem_filter.1 hE).1
    ap := fun e hE => h.ap e (List.mem_filter.1 hE).1 }
theorem due_facts (h : KOk th gr k) (tick : Int) : ∀ i ∈ Ti.dueIds tick k.M,stU k.l i = some false ∧ (∀ e ∈ Ti.sleepOn tick k.M,e.1 ≠ i) ∧ i ∉ Ob.flat k.W := fun i hi => by
  obtain ⟨e,h1,h2,rfl⟩ := Ti.mem_dueIds.1 hi
  refine ⟨h.sl e h1,fun f hf c => ?_,h.ap e h1⟩
  obtain ⟨f1,f2⟩ := List.mem_filter.1 hf
  obtain ⟨p,hp⟩ := List.mem_iff_getElem?.1 f1
  obtain ⟨q,hq⟩ := List.mem_iff_getElem?.1 h1
  have hpq := h.nM.at hp hq c
  subst hpq
  rw [hp] at hq
  rw [Option.some.inj hq] at f2
  simp at f2
  omega
theorem KOk.wake (h : KOk th gr k) (tick : Int) : KOk th gr (wakeK k tick) ∧ ∀ j,stU (wakeK k tick).l j = if j ∈ Ti.dueIds tick k.M then some true else stU k.l j :=
  wakes_ok (Ti.dueIds tick k.M) (h.asleep tick) fun i hi => by
    obtain ⟨h1,h2,h3⟩ := due_facts h tick i hi
    exact ⟨by show stU k.l i ≠ none; rw [h1]; decide,h2,h3⟩
def rootR (l : List Nd) : Bool := match getU l 0 with
  | none => false
  | some n => n.rdy
def k0 : Kd := ⟨rdyL (addL [rootN] 0 1 1 true) 1 true,[],fun _ => 0,fun _ => [],1⟩
theorem k0_ok (th gr : Int) (ht : 1 ≤ th ∧ th ≤ 8) (hg : 0 ≤ gr ∧ gr ≤ 4) : KOk th gr k0 := by
  have hk : addK [rootN] 0 1 1 true = 0 := by decide
  have h1 := (rootN_wf.addL 0 1 1 true)
  refine ⟨ht,hg,h1.rdyL 1 true,Int.le_refl _,by decide,List.nodup_nil,(fun e hE => by cases hE),by decide,(fun i hI => by cases hI),(fun e hE => by cases hE),(fun _ _ => ⟨Int.le_refl _,(by omega : (0 : Int) ≤ 255)⟩),?_,?_,by decide⟩
  · have : cntT k0.l = 1 := by decide
    rw [this]; omega
  · have : cntG k0.l = 0 := by decide
    rw [this]; omega
end
def tids (l : List Nd) : List Int := (l.filter fun n => n.thr).map fun n => n.id
theorem tids_step {l : List Nd} {i : Nat} (hi : i < l.length) : tids (l.take (i + 1)) = if l[i].thr = true then tids (l.take i) ++ [l[i].id] else tids (l.take i) := by
  unfold tids
  rw [List.take_succ_eq_append_getElem hi,List.filter_append,List.map_append]
  cases h : l[i].thr <;> simp [h]
theorem tids_len (l : List Nd) (i : Nat) : (tids (l.take i)).length ≤ i := by
  unfold tids
  rw [List.length_map]
  have h1 := List.length_filter_le (fun n : Nd => n.thr) (l.take i)
  have h2 := List.length_take_le i l
  omega
theorem nodup_len : ∀ (l m : List Int),l.Nodup → (∀ i ∈ l,i ∈ m) → l.length ≤ m.length
  | [],_,_,_ => Nat.zero_le _
  | a :: l,m,hn,hs => by
    obtain ⟨h1,h2⟩ := List.nodup_cons.1 hn
    have ha := hs a (by simp)
    have h3 := nodup_len l (m.erase a) h2 fun i hi => (List.mem_erase_of_ne (fun e => h1 (by rw [← e]; exact hi))).2 (hs i (by simp [hi]))
    rw [List.length_erase_of_mem ha] at h3
    have := List.length_pos_of_mem ha
    simp only [List.length_cons]
    omega
end Kn
end Go.Proofs.YtocicffmajbecaaGreatDoor
namespace Go.Proofs.YtocicffmajbecaaGreatDoor
open Go.RowKit
set_option maxRecDepth 100000
set_option linter.unusedSimpArgs false
theorem Pt.move {base : Nat} {x x' : Site} {W : Wit} {l : List Nd} {w w' : World} (h : Pt base x W l w) (k : ∀ b,Own x W l b → b ≠ x.b → w'.heap[b]? = w.heap[b]?) (hb : x'.At [W.v] w')
    (ht : x'.T ≠ 124 ∧ x'.T ≠ 174 ∧ x'.T ≠ 187 ∧ x'.T ≠ 119) (hx : base ≤ x'.b) : Pt base x' W l w' :=
  ⟨hb,ht,hx,owns_keep h.row fun g hg => k g (.inr (.inl hg)) fun e => owns_bne h.row h.blk h.ty.2.2.2 (by rw [← e]; exact hg),
    fun n hn => ⟨by rw [k _ (.inr (.inr ⟨n,hn,.inl rfl⟩)) (h.n_x hn).symm]; exact (h.node n hn).1,(h.node n hn).2⟩,
    fun n hn ht => ⟨(h.idx n hn ht).1.keep (k _ (.inr (.inr ⟨n,hn,.inr ⟨ht,.inl rfl⟩⟩)) (h.q_x hn ht).symm) fun g hg => k g (.inr (.inr ⟨n,hn,.inr ⟨ht,.inr hg⟩⟩)) fun e => h.r_x hn ht (by rw [← e]; exact hg),(h.idx n hn ht).2⟩,
    h.injN,h.injQ,h.injV⟩
namespace Ti
open Rw
theorem Tm.move {base : Nat} {x x' : Site} {v m : Value} {l : List En} {D : DataW Unit} {w w' : World} (h : Tm base x v m l D w) (k : ∀ b,Own x v m b → b ≠ x.b → w'.heap[b]? = w.heap[b]?) (hb : x'.At [v,m] w')
    (ht : x'.T ≠ 142) (hx : base ≤ x'.b) : Tm base x' v m l D w' :=
  ⟨hb,ht,h.row.keep fun g hg => k g (.inr (.inl hg)) fun e => h.far (by rw [← e]; exact hg),h.map.keep fun b hb => k b (.inr (.inr hb)) (h.mapFar hb).1,hx⟩
end Ti
namespace Ob
theorem Seg.site {w : World} {x x' : Site} {i : Nat} (hb : x'.b = x.b) (hd : x'.d = x.d) : ∀ {L : List Wt} {a n : Value},Seg w x i a L n → Seg w x' i a L n
  | [],_,_,_ => trivial
  | e :: L,a,n,h => ⟨by have h1 := h.1; unfold NAt objV at h1 ⊢; rw [hb,hd]; exact h1,Seg.site hb hd h.2⟩
theorem Obs.site {base : Nat} {x x' : Site} {c : Nat → Int} {r : Nat → List Wt} {m : Value} {D : DataW Value} {w w' : World} (h : Obs base x c r m D w) (k : ∀ b,Own x m r b → b ≠ x.b → w'.heap[b]? = w.heap[b]?) (hb : x'.b = x.b) (hd : x'.d = x.d)
    (ha : OAt w' x' c (fun i => headOr (r i) nilV) (fun i => lastOr nilV (r i)) m) : Obs base x' c r m D w' :=
  ⟨ha,fun i hi => ((h.seg i hi).keep fun e he => k e.2 (.inr (.inr ⟨e,mem_flat.2 ⟨i,hi,he⟩,rfl⟩)) (h.node (mem_flat.2 ⟨i,hi,he⟩)).2).site hb hd,h.apart,h.ids,h.wf,h.low,h.map.keep fun b hb => k b (.inr (.inl hb)) (h.mapFar hb).1,h.full,by rw [hb]; exact h.bx,h.cb⟩
end Ob
namespace Pk
open Rw (En)
open Kn
abbrev KT : TypeId := 89
abbrev tS (b : Nat) (F : Nat → Value) : Site := ⟨b,0,19,KT,F⟩
abbrev mS (b : Nat) (F : Nat → Value) : Site := ⟨b,1,19,KT,F⟩
abbrev oS (b : Nat) (F : Nat → Value) : Site := ⟨b,3,19,KT,F⟩
def Full (b : Nat) (F : Nat → Value) (w : World) : Prop := ∃ cs,w.heap[b]? = some (.cells cs KT (0,0)) ∧ cs.size = 19 ∧ ∀ j,j < 19 → cs[j]? = some (F j)
section
variable {w0 w w' : World} {b : Nat} {F F' : Nat → Value} {l : List Nd} {M : List En} {c : Nat → Int} {W : Nat → List Int} {A : Nat → Prop}
theorem Full.lt (h : Full b F w) : b < w.heap.size := by
  obtain ⟨cs,h1,_⟩ := h
  exact lt_blk h1
theorem Full.cell (h : Full b F w) {j : Nat} (hj : j < 19) : w.cell? ⟨b,j,none⟩ = some (F j) := by
  obtain ⟨cs,h1,_,h2⟩ := h
  simp [World.cell?,h1,h2 j hj]
theorem Full.free (h : Full b F w) (j : Nat) : w.frozen? ⟨b,j,none⟩ = false := by
  obtain ⟨cs,h1,_⟩ := h
  simp [World.frozen?,h1]
theorem Full.same (h : Full b F w) (k : w'.heap[b]? = w.heap[b]?) : Full b F w' := by
  obtain ⟨cs,h1,h2⟩ := h
  exact ⟨cs,k.trans h1,h2⟩
theorem Full.of {cs : Array Value} (h : w.heap[b]? = some (.cells cs KT (0,0))) (hs : cs.size = 19) : Full b (fun j => (cs[j]?).getD undef) w :=
  ⟨cs,h,hs,fun j hj => by
    show cs[j]? = some ((cs[j]?).getD undef)
    have : j < cs.size := by omega
    rw [Array.getElem?_eq_getElem this]; rfl⟩
theorem Full.set (h : Full b F w) {j : Nat} (hj : j < 19) (u : Value) : Full b (fun i => if i = j then u else F i) (w.setCell ⟨b,j,none⟩ u) := by
  obtain ⟨cs,h1,h2,h3⟩ := h
  refine ⟨_,set_same h1 _ _,by simpa using h2,fun i hi => ?_⟩
  show _ = some (if i = j then u else F i)
  rw [Array.getElem?_setIfInBounds]
  by_cases e : j = i
  · subst e; rw [if_pos rfl,if_pos (by omega),if_pos rfl]
  · rw [if_neg e,if_neg (fun q : i = j => e q.symm)]; exact h3 i hi
theorem Full.at1 (h : Full b F w) {d : Nat} (hd : d < 19) {v : Value} (hv : w.cell? ⟨b,d,none⟩ = some v) : Site.At ⟨b,d,19,KT,F⟩ [v] w := by
  have e := (h.cell hd).symm.trans hv
  obtain ⟨cs,h1,h2,h3⟩ := h
  refine ⟨cs,h1,h2,hd,fun j hj => ?_,fun j hj _ => h3 j hj⟩
  obtain rfl : j = 0 := by simp at hj; omega
  exact (h3 d hd).trans e
theorem Full.at2 (h : Full b F w) {d : Nat} (hd : d + 1 < 19) {v u : Value} (hv : w.cell? ⟨b,d,none⟩ = some v) (hu : w.cell? ⟨b,d + 1,none⟩ = some u) : Site.At ⟨b,d,19,KT,F⟩ [v,u] w := by
  have e := (h.cell (by omega)).symm.trans hv
  have e' := (h.cell hd).symm.trans hu
  obtain ⟨cs,h1,h2,h3⟩ := h
  refine ⟨cs,h1,h2,hd,fun j hj => ?_,fun j hj _ => h3 j hj⟩
  rcases j with - | - | j
  · exact (h3 d (by omega)).trans e
  · exact (h3 (d + 1) hd).trans e'
  · simp at hj; omega
theorem tyT : KT ≠ 124 ∧ KT ≠ 174 ∧ KT ≠ 187 ∧ KT ≠ 119 := by decide
theorem tyM : KT ≠ 142 := by decide
theorem tyO : KT ≠ 153 := by decide
theorem ta_site (h : TA w0 (tS b F) l A w) (x : Ext w0 w') (hF : Full b F' w') (hc : w'.cell? ⟨b,0,none⟩ = w.cell? ⟨b,0,none⟩) (k : ∀ i,A i → i ≠ b → w'.heap[i]? = w.heap[i]?) : TA w0 (tS b F') l A w' := by
  obtain ⟨V,h1,h2,-,rfl⟩ := h
  exact ⟨V,h1.move k (hF.at1 (by decide) (hc.trans h1.cell)) tyT h1.hx,h2,x,rfl⟩
theorem ti_site (h : Ti.St w0 (mS b F) M A w) (x : Ext w0 w') (hF : Full b F' w') (hc : ∀ j,1 ≤ j → j < 3 → w'.cell? ⟨b,j,none⟩ = w.cell? ⟨b,j,none⟩) (k : ∀ i,A i → i ≠ b → w'.heap[i]? = w.heap[i]?) : Ti.St w0 (mS b F') M A w' := by
  obtain ⟨-,v,m,l,D,h1,h2,h3,rfl⟩ := h
  exact ⟨x,v,m,l,D,h1.move k (hF.at2 (d := 1) (by decide) ((hc 1 (by omega) (by omega)).trans h1.cells.1) ((hc 2 (by omega) (by omega)).trans h1.cells.2.1)) tyM h1.bx,h2,h3,rfl⟩
theorem ob_site (h : Ob.St w0 (oS b F) c W A w) (x : Ext w0 w') (hF : Full b F' w') (hc : ∀ j,3 ≤ j → j < 16 → w'.cell? ⟨b,j,none⟩ = w.cell? ⟨b,j,none⟩) (k : ∀ i,A i → i ≠ b → w'.heap[i]? = w.heap[i]?) : Ob.St w0 (oS b F') c W A w' := by
  obtain ⟨-,r,m,D,h1,h2,rfl⟩ := h
  refine ⟨x,r,m,D,h1.site k rfl rfl ?_,h2,rfl⟩
  have hcell : ∀ {j : Nat} {v : Value},j < 19 → w'.cell? ⟨b,j,none⟩ = some v → F' j = v := fun hj e => Option.some.inj ((hF.cell hj).symm.trans e)
  have a := h1.at'
  have am := hcell (j := 15) (by omega) ((hc 15 (by omega) (by omega)).trans a.map)
  have ac := fun (i : Nat) (hi : i < 4) => a.cell hi
  obtain ⟨cs,q1,q2,q3⟩ := hF
  refine ⟨cs,q1,⟨q2,(by decide : 3 + 13 ≤ 19),tyO,fun j hj _ => q3 j hj⟩,(q3 15 (by omega)).trans (congrArg some am),fun i hi => ?_⟩
  obtain ⟨e1,e2,e3⟩ := ac i hi
  have f1 := hcell (j := 3 + i * 3) (by omega) ((hc _ (by omega) (by omega)).trans e1)
  have f2 := hcell (j := 3 + i * 3 + 1) (by omega) ((hc _ (by omega) (by omega)).trans e2)
  have f3 := hcell (j := 3 + i * 3 + 2) (by omega) ((hc _ (by omega) (by omega)).trans e3)
  exact ⟨(q3 (3 + i * 3) (by omega)).trans (congrArg some f1),(q3 (3 + i * 3 + 1) (by omega)).trans (congrArg some f2),(q3 (3 + i * 3 + 2) (by omega)).trans (congrArg some f3)⟩
theorem ta_full (h : TA w0 (tS b F) l A w) : ∃ F',Full b F' w ∧ ∀ j,j < 19 → 1 ≤ j → F' j = F j := by
  obtain ⟨V,h1,-,-,-⟩ := h
  obtain ⟨cs,q1,q2,-,-,q5⟩ := h1.blk
  exact ⟨_,Full.of q1 q2,fun j hj h1 => by rw [q5 j hj (.inr h1)]; rfl⟩
theorem ti_full (h : Ti.St w0 (mS b F) M A w) : ∃ F',Full b F' w ∧ ∀ j,j < 19 → j < 1 ∨ 3 ≤ j → F' j = F j := by
  obtain ⟨-,v,m,l,D,h1,-,-,-⟩ := h
  obtain ⟨cs,q1,q2,-,-,q5⟩ := h1.blk
  exact ⟨_,Full.of q1 q2,fun j hj h1 => by rw [q5 j hj h1]; rfl⟩
theorem ob_full (h : Ob.St w0 (oS b F) c W A w) : ∃ F',Full b F' w ∧ ∀ j,j < 19 → j < 3 ∨ 16 ≤ j → F' j = F j := by
  obtain ⟨-,r,m,D,h1,-,-⟩ := h
  obtain ⟨cs,q1,⟨q2,-,-,q5⟩,-⟩ := h1.at'
  exact ⟨_,Full.of q1 q2,fun j hj h1 => by rw [q5 j hj h1]; rfl⟩
end
structure Parts (w0 : World) (b : Nat) (a g : Int) (k : Kd) (F : Nat → Value) (T M O : Nat → Prop) (w : World) : Prop where
  xt : Ext w0 w
  bx : w0.heap.size ≤ b
  full : Full b F w
  tree : TA w0 (tS b F) k.l T w
  tim : Ti.St w0 (mS b F) k.M M w
  obj : Ob.St w0 (oS b F) k.c k.W O w
  num : F 16 = .int .i64 a ∧ F 17 = .int .i64 g ∧ F 18 = .int .i64 (k.last + 1)
  tm : ∀ i,T i → M i → i = b
  tob : ∀ i,T i → O i → i = b
  mo : ∀ i,M i → O i → i = b
  own : T b ∧ M b ∧ O b
def PK (w0 : World) (b : Nat) (a g : Int) (k : Kd) (A : Nat → Prop) (w : World) : Prop := ∃ F T M O,Parts w0 b a g k F T M O w ∧ A = fun i => T i ∨ M i ∨ O i
def PG (w0 : World) (b : Nat) (a g : Int) (k : Kd) (A : Nat → Prop) (v w : World) : Prop := ∃ B,PK w0 b a g k B w ∧ Mvp A B v w
section
variable {w0 v w w' : World} {b : Nat} {a g : Int} {k : Kd} {F : Nat → Value} {T M O A B C : Nat → Prop}
theorem Parts.lt (h : Parts w0 b a g k F T M O w) : b < w.heap.size := h.full.lt
theorem PK.own (h : PK w0 b a g k A w) : ∀ i,A i → w0.heap.size ≤ i ∧ i < w.heap.size := by
  obtain ⟨F,T,M,O,h,rfl⟩ := h
  rintro i (q | q | q)
  · exact h.tree.own i q
  · exact h.tim.own i q
  · exact h.obj.own i q
theorem PK.xt (h : PK w0 b a g k A w) : Ext w0 w := by obtain ⟨F,T,M,O,h,-⟩ := h; exact h.xt
theorem PK.lt (h : PK w0 b a g k A w) : b < w.heap.size := by obtain ⟨F,T,M,O,h,-⟩ := h; exact h.full.lt
theorem PK.start (h : PK w0 b a g k A w) : PG w0 b a g k A w w := ⟨A,h,Mvp.refl _ _⟩
theorem Parts.ext (h : Parts w0 b a g k F T M O w) (e : Ext w w') : Parts w0 b a g k F T M O w' :=
  ⟨h.xt.trans e,h.bx,h.full.same (e.below.block b h.lt),h.tree.ext e,h.tim.ext e,h.obj.ext e,h.num,h.tm,h.tob,h.mo,h.own⟩
theorem PK.ext (h : PK w0 b a g k A w) (e : Ext w w') : PK w0 b a g k A w' := by
  obtain ⟨F,T,M,O,h,q⟩ := h
  exact ⟨F,T,M,O,h.ext e,q⟩
theorem PG.ext (h : PG w0 b a g k A v w) (e : Ext w w') : PG w0 b a g k A v w' := by
  obtain ⟨B,h1,h2⟩ := h
  exact ⟨B,h1.ext e,h2.ext e⟩
theorem PG.of (h : PG w0 b a g k A v w) {a' g' : Int} {k' : Kd} {w' : World} (n : ∀ B,PK w0 b a g k B w → ∃ C,PK w0 b a' g' k' C w' ∧ Mvp B C w w') : PG w0 b a' g' k' A v w' := by
  obtain ⟨B,h1,h2⟩ := h
  obtain ⟨C,h3,h4⟩ := n B h1
  exact ⟨C,h3,h2.trans h4⟩
theorem PG.xt (h : PG w0 b a g k A v w) : Ext w0 w := by obtain ⟨B,h1,-⟩ := h; exact h1.xt
theorem PG.lt (h : PG w0 b a g k A v w) : b < w.heap.size := by obtain ⟨B,h1,-⟩ := h; exact h1.lt
theorem PK.keep (h : PK w0 b a g k C w) (m : Mvp A B w w') (hAC : ∀ i,A i → ¬ C i) (hA : ∀ i,A i → w0.heap.size ≤ i) : PK w0 b a g k C w' ∧ ∀ i,B i → ¬ C i := by
  have hlt := fun i hi => (h.own i hi).2
  have hx := m.xt h.xt hA
  obtain ⟨F,T,M,O,h,rfl⟩ := h
  refine ⟨⟨F,T,M,O,⟨hx,h.bx,h.full.same (m.block b h.lt fun e => hAC b e (.inl h.own.1)),(h.tree.keep m (fun i e q => hAC i e (.inl q)) hA).1,(h.tim.keep m (fun i e q => hAC i e (.inr (.inl q))) hA).1,(h.obj.keep m (fun i e q => hAC i e (.inr (.inr q))) hA).1,h.num,h.tm,h.tob,h.mo,h.own⟩,rfl⟩,fun i hB hC => ?_⟩
  rcases m.own i hB with h4 | h4
  · exact hAC i h4 hC
  · have := hlt i hC
    omega
theorem Parts.of_tree (h : Parts w0 b a g k F T M O w) {l' : List Nd} {T' : Nat → Prop} (t : TA w0 (tS b F) l' T' w') (m : Mvp T T' w w') : ∃ B,PK w0 b a g { k with l := l' } B w' ∧ Mvp (fun i => T i ∨ M i ∨ O i) B w w' := by
  obtain ⟨F',hF,e⟩ := ta_full t
  have hx := m.xt h.xt fun i hi => (h.tree.own i hi).1
  have nM : ∀ i,M i → i ≠ b → w'.heap[i]? = w.heap[i]? := fun i hi hb => m.block i (h.tim.own i hi).2 fun q => hb (h.tm i q hi)
  have nO : ∀ i,O i → i ≠ b → w'.heap[i]? = w.heap[i]? := fun i hi hb => m.block i (h.obj.own i hi).2 fun q => hb (h.tob i q hi)
  have hc : ∀ j,1 ≤ j → j < 19 → w'.cell? ⟨b,j,none⟩ = w.cell? ⟨b,j,none⟩ := fun j h1 h2 => by rw [hF.cell h2,h.full.cell h2,e j h2 h1]
  have tb : T' b := by obtain ⟨V,-,-,-,rfl⟩ := t; exact .inl rfl
  refine ⟨_,⟨F',T',M,O,⟨hx,h.bx,hF,ta_site t hx hF rfl fun _ _ _ => rfl,ti_site h.tim hx hF (fun j h1 h2 => hc j h1 (by omega)) nM,ob_site h.obj hx hF (fun j h1 h2 => hc j (by omega) (by omega)) nO,?_,fun i hi hm => ?_,fun i hi ho => ?_,h.mo,tb,h.own.2⟩,rfl⟩,?_⟩
  · rw [e 16 (by omega) (by omega),e 17 (by omega) (by omega),e 18 (by omega) (by omega)]; exact h.num
  · rcases m.own i hi with q | q
    · exact h.tm i q hm
    · have := (h.tim.own i hm).2; omega
  · rcases m.own i hi with q | q
    · exact h.tob i q ho
    · have := (h.obj.own i ho).2; omega
  · exact ⟨m.os,m.tape,m.output,m.size,fun i hi hn => m.block i hi fun q => hn (.inl q),fun i hi => by
      rcases hi with q | q | q
      · exact (m.own i q).imp .inl id
      · exact .inl (.inr (.inl q))
      · exact .inl (.inr (.inr q))⟩
theorem Parts.of_tim (h : Parts w0 b a g k F T M O w) {L : List En} {M' : Nat → Prop} (t : Ti.St w0 (mS b F) L M' w') (m : Mvp M M' w w') : ∃ B,PK w0 b a g { k with M := L } B w' ∧ Mvp (fun i => T i ∨ M i ∨ O i) B w w' ∧ ∀ i,B i → T i ∨ M' i ∨ O i := by
  obtain ⟨F',hF,e⟩ := ti_full t
  have hx := m.xt h.xt fun i hi => (h.tim.own i hi).1
  have nT : ∀ i,T i → i ≠ b → w'.heap[i]? = w.heap[i]? := fun i hi hb => m.block i (h.tree.own i hi).2 fun q => hb (h.tm i hi q)
  have nO : ∀ i,O i → i ≠ b → w'.heap[i]? = w.heap[i]? := fun i hi hb => m.block i (h.obj.own i hi).2 fun q => hb (h.mo i q hi)
  have hc : ∀ j,j < 19 → j < 1 ∨ 3 ≤ j → w'.cell? ⟨b,j,none⟩ = w.cell? ⟨b,j,none⟩ := fun j h1 h2 => by rw [hF.cell h1,h.full.cell h1,e j h1 h2]
  have mb : M' b := by obtain ⟨-,v,m,l,D,-,-,-,rfl⟩ := t; exact .inl rfl
  refine ⟨_,⟨F',T,M',O,⟨hx,h.bx,hF,ta_site h.tree hx hF (hc 0 (by omega) (.inl (by omega))) nT,ti_site t hx hF (fun _ _ _ => rfl) fun _ _ _ => rfl,ob_site h.obj hx hF (fun j h1 h2 => hc j (by omega) (.inr (by omega))) nO,?_,fun i hi hm => ?_,h.tob,fun i hi ho => ?_,h.own.1,mb,h.own.2.2⟩,rfl⟩,?_,fun i hi => hi⟩
  · rw [e 16 (by omega) (.inr (by omega)),e 17 (by omega) (.inr (by omega)),e 18 (by omega) (.inr (by omega))]; exact h.num
  · rcases m.own i hm with q | q
    · exact h.tm i hi q
    · have := (h.tree.own i hi).2; omega
  · rcases m.own i hi with q | q
    · exact h.mo i q ho
    · have := (h.obj.own i ho).2; omega
  · exact ⟨m.os,m.tape,m.output,m.size,fun i hi hn => m.block i hi fun q => hn (.inr (.inl q)),fun i hi => by
      rcases hi with q | q | q
      · exact .inl (.inl q)
      · exact (m.own i q).imp (fun q => .inr (.inl q)) id
      · exact .inl (.inr (.inr q))⟩
theorem Parts.of_obj (h : Parts w0 b a g k F T M O w) {c' : Nat → Int} {V' : Nat → List Int} {O' : Nat → Prop} (t : Ob.St w0 (oS b F) c' V' O' w') (m : Mvp O O' w w') : ∃ B,PK w0 b a g { k with c := c',W := V' } B w' ∧ Mvp (fun i => T i ∨ M i ∨ O i) B w w' := by
  obtain ⟨F',hF,e⟩ := ob_full t
  have hx := m.xt h.xt fun i hi => (h.obj.own i hi).1
  have nT : ∀ i,T i → i ≠ b → w'.heap[i]? = w.heap[i]? := fun i hi hb => m.block i (h.tree.own i hi).2 fun q => hb (h.tob i hi q)
  have nM : ∀ i,M i → i ≠ b → w'.heap[i]? = w.heap[i]? := fun i hi hb => m.block i (h.tim.own i hi).2 fun q => hb (h.mo i hi q)
  have hc : ∀ j,j < 3 → w'.cell? ⟨b,j,none⟩ = w.cell? ⟨b,j,none⟩ := fun j h2 => by rw [hF.cell (by omega),h.full.cell (by omega),e j (by omega) (.inl h2)]
  have ob : O' b := by obtain ⟨-,r,m,D,-,-,rfl⟩ := t; exact .inl rfl
  refine ⟨_,⟨F',T,M,O',⟨hx,h.bx,hF,ta_site h.tree hx hF (hc 0 (by omega)) nT,ti_site h.tim hx hF (fun j h1 h2 => hc j h2) nM,ob_site t hx hF (fun _ _ _ => rfl) fun _ _ _ => rfl,?_,h.tm,fun i hi ho => ?_,fun i hi ho => ?_,h.own.1,h.own.2.1,ob⟩,rfl⟩,?_⟩
  · rw [e 16 (by omega) (.inr (by omega)),e 17 (by omega) (.inr (by omega)),e 18 (by omega) (.inr (by omega))]; exact h.num
  · rcases m.own i ho with q | q
    · exact h.tob i hi q
    · have := (h.tree.own i hi).2; omega
  · rcases m.own i ho with q | q
    · exact h.mo i hi q
    · have := (h.tim.own i hi).2; omega
  · exact ⟨m.os,m.tape,m.output,m.size,fun i hi hn => m.block i hi fun q => hn (.inr (.inr q)),fun i hi => by
      rcases hi with q | q | q
      · exact .inl (.inl q)
      · exact .inl (.inr (.inl q))
      · exact (m.own i q).imp (fun q => .inr (.inr q)) id⟩
theorem Parts.of_num (h : Parts w0 b a g k F T M O w) {j : Nat} (hj : 16 ≤ j) (hj2 : j < 19) {u : Value} {a' g' n' : Int} (hn : (if 16 = j then u else F 16) = .int .i64 a' ∧ (if 17 = j then u else F 17) = .int .i64 g' ∧ (if 18 = j then u else F 18) = .int .i64 (n' + 1)) :
    ∃ B,PK w0 b a' g' { k with last := n' } B (w.setCell ⟨b,j,none⟩ u) ∧ Mvp (fun i => T i ∨ M i ∨ O i) B w (w.setCell ⟨b,j,none⟩ u) := by
  have hF := h.full.set hj2 u
  have m : Mvp T T w (w.setCell ⟨b,j,none⟩ u) := (Mvp.refl _ _).set h.own.1 j u
  have hx := m.xt h.xt fun i hi => (h.tree.own i hi).1
  have nb : ∀ i,i ≠ b → (w.setCell ⟨b,j,none⟩ u).heap[i]? = w.heap[i]? := fun i hi => Below.heap_setCell _ _ _ _ (by simpa using hi)
  have hc : ∀ i,i < 16 → (w.setCell ⟨b,j,none⟩ u).cell? ⟨b,i,none⟩ = w.cell? ⟨b,i,none⟩ := fun i hi => by rw [hF.cell (by omega),h.full.cell (by omega),if_neg (by omega)]
  exact ⟨_,⟨_,T,M,O,⟨hx,h.bx,hF,ta_site h.tree hx hF (hc 0 (by omega)) (fun i _ => nb i),ti_site h.tim hx hF (fun j _ h2 => hc j (by omega)) (fun i _ => nb i),ob_site h.obj hx hF (fun j _ h2 => hc j h2) (fun i _ => nb i),hn,h.tm,h.tob,h.mo,h.own⟩,rfl⟩,(Mvp.refl _ _).set (.inl h.own.1) j u⟩
end
end Pk
end Go.Proofs.YtocicffmajbecaaGreatDoor
namespace Go.Proofs.YtocicffmajbecaaGreatDoor
open Go.RowKit
set_option maxRecDepth 100000
set_option linter.unusedSimpArgs false
def ndN (l : List Nd) (id : Int) : Nn := match getU l id with
  | none => ⟨0,0,0,0,false,false⟩
  | some n => n.nn
set_option maxHeartbeats 2000000 in
theorem node_none {base : Nat} {x : Site} {W : Wit} {l : List Nd} {w : World} (h : TOk base x W l w) {id : Int} (hn : getU l id = none) :
    Calls Tryz.prog 49 #[.pointer (some ⟨x.b,x.d,none⟩),.int .i64 id] w (Yields w (.tuple #[.agg #[.int .i64 0,.int .i64 0,.int .i64 0,.int .i64 0,.bool false,.bool false],.bool false])) := by
  have HF : Hid (∀ w',Ext w w' → Calls Tryz.prog 79 #[.pointer (some ⟨x.b,x.d,none⟩),.int .i64 id] w' (Yields w' (.pointer none))) := fun w' hx => find_nil (h.pt.ext hx) h.ids (by have := h.len; omega) hn
  clear h hn
  go_enter Tryz.func49,Tryz.ntmps49
  go_wp2_with fail
  have hx0 : Ext w (w.alloc (.cells #[.int .i64 0,.int .i64 0,.int .i64 0,.int .i64 0,.bool false,.bool false] 101 (0,0))) := Ext.alloc (Ext.refl w) _
  have hb0 := heap_alloc_new w (.cells #[.int .i64 0,.int .i64 0,.int .i64 0,.int .i64 0,.bool false,.bool false] 101 (0,0))
  generalize w.alloc (.cells #[.int .i64 0,.int .i64 0,.int .i64 0,.int .i64 0,.bool false,.bool false] 101 (0,0)) = w1 at *
  (with_reducible refine (HF.out _ hx0).mono ?_)
  rintro e w2 ⟨rfl,hx⟩
  have hb2 := block_ext' hx hb0
  have hx2 := hx0.trans hx
  clear hx hx0 hb0
  have m0 : w2.cell? ⟨w.heap.size,0,none⟩ = some (.int .i64 0) := by simp [World.cell?,hb2]
  have m1 : w2.cell? ⟨w.heap.size,1,none⟩ = some (.int .i64 0) := by simp [World.cell?,hb2]
  have m2 : w2.cell? ⟨w.heap.size,2,none⟩ = some (.int .i64 0) := by simp [World.cell?,hb2]
  have m3 : w2.cell? ⟨w.heap.size,3,none⟩ = some (.int .i64 0) := by simp [World.cell?,hb2]
  have m4 : w2.cell? ⟨w.heap.size,4,none⟩ = some (.bool false) := by simp [World.cell?,hb2]
  have m5 : w2.cell? ⟨w.heap.size,5,none⟩ = some (.bool false) := by simp [World.cell?,hb2]
  have fz : ∀ j,w2.frozen? ⟨w.heap.size,j,none⟩ = false := fun j => by simp [World.frozen?,hb2]
  have HB := hid (six_set hb2 (.int .i64 0) (.int .i64 0) (.int .i64 0) (.int .i64 0) (.bool false) (.bool false))
  clear hb2
  go_wp2
  have hx4 := six_ext hx2 (.int .i64 0) (.int .i64 0) (.int .i64 0) (.int .i64 0) (.bool false) (.bool false)
  have hb4 := HB.out
  clear HB m0 m1 m2 m3 m4 m5 fz
  generalize ((((((w2.setCell ⟨w.heap.size,0,none⟩ (.int .i64 0)).setCell ⟨w.heap.size,1,none⟩ (.int .i64 0)).setCell ⟨w.heap.size,2,none⟩ (.int .i64 0)).setCell ⟨w.heap.size,3,none⟩ (.int .i64 0)).setCell ⟨w.heap.size,4,none⟩ (.bool false)).setCell ⟨w.heap.size,5,none⟩ (.bool false)) = w4 at *
  have m0 : w4.cell? ⟨w.heap.size,0,none⟩ = some (.int .i64 0) := by simp [World.cell?,hb4]
  have m1 : w4.cell? ⟨w.heap.size,1,none⟩ = some (.int .i64 0) := by simp [World.cell?,hb4]
  have m2 : w4.cell? ⟨w.heap.size,2,none⟩ = some (.int .i64 0) := by simp [World.cell?,hb4]
  have m3 : w4.cell? ⟨w.heap.size,3,none⟩ = some (.int .i64 0) := by simp [World.cell?,hb4]
  have m4 : w4.cell? ⟨w.heap.size,4,none⟩ = some (.bool false) := by simp [World.cell?,hb4]
  have m5 : w4.cell? ⟨w.heap.size,5,none⟩ = some (.bool false) := by simp [World.cell?,hb4]
  exact bodyPost_ret (v := .tuple #[.agg #[.int .i64 0,.int .i64 0,.int .i64 0,.int .i64 0,.bool false,.bool false],.bool false]) (by simp [results,Tryz.results49,go_sem,m0,m1,m2,m3,m4,m5]) rfl ⟨rfl,hx4⟩
theorem tg_nodeX {w0 v w : World} {x : Site} {l : List Nd} {A : Nat → Prop} (h : TG w0 x l A v w) (hw : Wf l) (id : Int) :
    Calls Tryz.prog 49 #[.pointer (some ⟨x.b,x.d,none⟩),.int .i64 id] w (Yields w (.tuple #[nnV (ndN l id),.bool (getU l id).isSome])) := by
  obtain ⟨W,h1,h2,h3,h4⟩ := h
  unfold ndN
  cases hg : getU l id with
  | none => exact node_none (hw.tok h1 h2) hg
  | some n =>
    obtain ⟨hn,rfl⟩ := getU_mem hg
    exact node_any (hw.tok h1 h2) hn
namespace Pk
open Rw (En)
open Kn
section
variable {w0 v w w' : World} {b : Nat} {a g th gr : Int} {k : Kd} {A : Nat → Prop}
theorem PG.few (h : PG w0 b a g k A v w) (hk : KOk th gr k) : k.M.length ≤ 60 := by
  obtain ⟨B,⟨F,T,M,O,h,-⟩,-⟩ := h
  have hs := hk.wf.sk.len
  have h1 : (k.M.map fun e : En => e.1).length ≤ (k.l.map (·.id)).length := nodup_len _ _ hk.nM fun i hi => by
    obtain ⟨e,he,rfl⟩ := List.mem_map.1 hi
    obtain ⟨n,hn,e2,-,-⟩ := (stU_some hk.wf.sk.ids).1 (hk.sl e he)
    exact List.mem_map.2 ⟨n,hn,e2⟩
  simp at h1
  omega
theorem ids_wf (hk : KOk th gr k) (hl : k.last ≤ 1000000) {id : Int} {r : Bool} (hs : stU k.l id = some r) : wf64 id := by
  obtain ⟨n,hn,e,-,-⟩ := (stU_some hk.wf.sk.ids).1 hs
  have h1 := hk.low n hn
  have h2 := (hk.wf.sk.clo n hn).1
  unfold wf64
  omega
theorem p_tree {f : FuncId} {args : Array Value} {r : Ending} {l' : List Nd} (h : PG w0 b a g k A v w) (c : ∀ F T,TG w0 (tS b F) k.l T w w → Calls Tryz.prog f args w fun e w' => e = r ∧ TG w0 (tS b F) l' T w w') :
    Calls Tryz.prog f args w fun e w' => e = r ∧ PG w0 b a g { k with l := l' } A v w' := by
  obtain ⟨B,⟨F,T,M,O,h,rfl⟩,m⟩ := h
  refine (h.tree.turn (c F T)).mono fun e w' ⟨q,T',t,m'⟩ => ⟨q,?_⟩
  obtain ⟨C,h1,h2⟩ := h.of_tree t m'
  exact ⟨C,h1,m.trans h2⟩
theorem p_rdy (h : PG w0 b a g k A v w) (hw : Wf k.l) (id : Int) (r : Bool) :
    Calls Tryz.prog 43 #[.pointer (some ⟨b,0,none⟩),.int .i64 id,.bool r] w fun e w' => e = .returned (errV (rdyK k.l id)) ∧ PG w0 b a g { k with l := rdyL k.l id r } A v w' :=
  p_tree h fun _ _ t => tg_rdyX t hw id r
theorem p_add (h : PG w0 b a g k A v w) (hw : Wf k.l) (parent id wt : Int) (t : Bool) :
    Calls Tryz.prog 78 #[.pointer (some ⟨b,0,none⟩),.int .i64 parent,.int .i64 id,.int .i64 wt,.bool t] w fun e w' => e = .returned (errV (addK k.l parent id wt t)) ∧ PG w0 b a g { k with l := addL k.l parent id wt t } A v w' :=
  p_tree h fun _ _ q => tg_addX q hw parent id wt t
theorem p_rem (h : PG w0 b a g k A v w) (hw : Wf k.l) (id : Int) :
    Calls Tryz.prog 50 #[.pointer (some ⟨b,0,none⟩),.int .i64 id] w fun e w' => e = .returned (errV (remK k.l id)) ∧ PG w0 b a g { k with l := remL k.l id } A v w' :=
  p_tree h fun _ _ q => tg_remX q hw id
theorem p_wt (h : PG w0 b a g k A v w) (hw : Wf k.l) (id wt : Int) :
    Calls Tryz.prog 65 #[.pointer (some ⟨b,0,none⟩),.int .i64 id,.int .i64 wt] w fun e w' => e = .returned (errV (wtK k.l id wt)) ∧ PG w0 b a g (weightK k id wt) A v w' :=
  p_tree h fun _ _ q => tg_wtX q hw id wt
theorem p_run (h : PG w0 b a g k A v w) (hw : Wf k.l) :
    Calls Tryz.prog 70 #[.pointer (some ⟨b,0,none⟩)] w fun e w' => e = .returned (.tuple #[.int .i64 (runK k.l).1,.bool (runK k.l).2]) ∧ PG w0 b a g (runK' k) A v w' :=
  p_tree h fun _ _ q => tg_runX q hw
theorem p_node (h : PG w0 b a g k A v w) (hw : Wf k.l) (id : Int) :
    Calls Tryz.prog 49 #[.pointer (some ⟨b,0,none⟩),.int .i64 id] w (Yields w (.tuple #[nnV (ndN k.l id),.bool (getU k.l id).isSome])) := by
  obtain ⟨B,⟨F,T,M,O,h,-⟩,-⟩ := h
  exact tg_nodeX h.tree.start hw id
theorem p_nodes (h : PG w0 b a g k A v w) (hw : Wf k.l) :
    Calls Tryz.prog 73 #[.pointer (some ⟨b,0,none⟩)] w fun e w' => ∃ vd,e = .returned vd ∧ Ext w w' ∧ NodesV w' vd (k.l.map Nd.nn) ∧ ∀ i,vd.ownBlock = some i → w.heap.size ≤ i := by
  obtain ⟨B,⟨F,T,M,O,h,-⟩,-⟩ := h
  exact (tg_nodes h.tree.start hw).mono fun e w' ⟨vd,q1,_,q3,q4,q5⟩ => ⟨vd,q1,q3,q4,q5⟩
theorem p_drop (h : PG w0 b a g k A v w) (hk : k.M.length ≤ 60) {id : Int} (hi : wf64 id) :
    Calls Tryz.prog 51 #[.pointer (some ⟨b,1,none⟩),.int .i64 id] w fun e w' => e = .returned (.bool (Ti.isIn id k.M)) ∧ PG w0 b a g { k with M := Ti.others id k.M } A v w' := by
  obtain ⟨B,⟨F,T,M,O,h,rfl⟩,m⟩ := h
  refine (Ti.st_drop h.tim id (by omega) hi).mono fun e w' ⟨q,M',t,m'⟩ => ⟨q,?_⟩
  obtain ⟨C,h1,h2,-⟩ := h.of_tim t m'
  exact ⟨C,h1,m.trans h2⟩
theorem p_set (h : PG w0 b a g k A v w) (hk : k.M.length ≤ 60) {id : Int} (u : Int) (hi : wf64 id) :
    Calls Tryz.prog 58 #[.pointer (some ⟨b,1,none⟩),.int .i64 id,.int .i64 u] w fun e w' => e = .returned (.tuple #[]) ∧ PG w0 b a g { k with M := Ti.put id u k.M } A v w' := by
  obtain ⟨B,⟨F,T,M,O,h,rfl⟩,m⟩ := h
  refine (Ti.st_set h.tim id u (by omega) hi).mono fun e w' ⟨q,M',t,m'⟩ => ⟨q,?_⟩
  obtain ⟨C,h1,h2,-⟩ := h.of_tim t m'
  exact ⟨C,h1,m.trans h2⟩
theorem p_due (h : PG w0 b a g k A v w) (hk : k.M.length ≤ 60) (tick : Int) :
    Calls Tryz.prog 68 #[.pointer (some ⟨b,1,none⟩),.int .i64 tick] w fun e w' => ∃ vd,e = .returned vd ∧ (∃ B,PK w0 b a g { k with M := Ti.sleepOn tick k.M } B w' ∧ Mvp A B v w' ∧ ∀ i,vd.ownBlock = some i → ¬ B i) ∧
      w'.ownsRow w.heap.size 3 1 vd (Ti.dueIds tick k.M).length ((Ti.dueIds tick k.M).map fun i => .int .i64 i) := by
  obtain ⟨B,⟨F,T,M,O,h,rfl⟩,m⟩ := h
  refine (Ti.st_due h.tim tick (by omega)).mono fun e w' ⟨vd,M',q,t,m',o,f⟩ => ⟨vd,q,?_,o⟩
  obtain ⟨C,h1,h2,h3⟩ := h.of_tim t m'
  refine ⟨C,h1,m.trans h2,fun i hi hC => ?_⟩
  have hlt := (World.ownsRow.lt o i hi).1
  rcases h3 i hC with e1 | e1 | e1
  · have := (h.tree.own i e1).2; omega
  · exact f i hi e1
  · have := (h.obj.own i e1).2; omega
theorem rowsFew (hk : KOk th gr k) : (Ob.flat k.W).length ≤ 60 := by
  have hs := hk.wf.sk.len
  have := nodup_len (Ob.flat k.W) (k.l.map (·.id)) hk.nW fun i hi => by
    obtain ⟨n,hn,e,-,-⟩ := (stU_some hk.wf.sk.ids).1 (hk.wa i hi)
    exact List.mem_map.2 ⟨n,hn,e⟩
  simp at this
  omega
theorem p_odrop (h : PG w0 b a g k A v w) {id : Int} (hi : wf64 id) :
    Calls Tryz.prog 52 #[.pointer (some ⟨b,3,none⟩),.int .i64 id] w fun e w' => e = .returned (.bool (Ob.waits id k.W)) ∧ PG w0 b a g { k with W := Ob.others id k.W } A v w' := by
  obtain ⟨B,⟨F,T,M,O,h,rfl⟩,m⟩ := h
  refine (Ob.st_drop h.obj id hi).mono fun e w' ⟨q,O',t,m'⟩ => ⟨q,?_⟩
  obtain ⟨C,h1,h2⟩ := h.of_obj t m'
  exact ⟨C,h1,m.trans h2⟩
theorem p_owait (h : PG w0 b a g k A v w) (hk : (Ob.flat k.W).length ≤ 60) {id : Int} (o : Int) (hi : wf64 id) :
    Calls Tryz.prog 61 #[.pointer (some ⟨b,3,none⟩),.int .i64 id,.int .i64 o] w fun e w' => e = .returned (.tuple #[.bool (Ob.waitR id o k.c k.W).on,errV (Ob.waitR id o k.c k.W).err]) ∧ PG w0 b a g { k with c := (Ob.waitR id o k.c k.W).c,W := (Ob.waitR id o k.c k.W).W } A v w' := by
  obtain ⟨B,⟨F,T,M,O,h,rfl⟩,m⟩ := h
  refine (Ob.st_wait h.obj id o hi (by omega)).mono fun e w' ⟨q,O',t,m'⟩ => ⟨q,?_⟩
  obtain ⟨C,h1,h2⟩ := h.of_obj t m'
  exact ⟨C,h1,m.trans h2⟩
theorem p_osignal (h : PG w0 b a g k A v w) (o : Int) :
    Calls Tryz.prog 63 #[.pointer (some ⟨b,3,none⟩),.int .i64 o] w fun e w' => e = .returned (.tuple #[.int .i64 (Ob.sigR o k.c k.W).id,.bool (Ob.sigR o k.c k.W).met,errV (Ob.sigR o k.c k.W).err]) ∧ PG w0 b a g { k with c := (Ob.sigR o k.c k.W).c,W := (Ob.sigR o k.c k.W).W } A v w' := by
  obtain ⟨B,⟨F,T,M,O,h,rfl⟩,m⟩ := h
  refine (Ob.st_signal h.obj o).mono fun e w' ⟨q,O',t,m'⟩ => ⟨q,?_⟩
  obtain ⟨C,h1,h2⟩ := h.of_obj t m'
  exact ⟨C,h1,m.trans h2⟩
theorem PG.nums (h : PG w0 b a g k A v w) : w.cell? ⟨b,16,none⟩ = some (.int .i64 a) ∧ w.cell? ⟨b,17,none⟩ = some (.int .i64 g) ∧ w.cell? ⟨b,18,none⟩ = some (.int .i64 (k.last + 1)) ∧ ∀ j,w.frozen? ⟨b,j,none⟩ = false := by
  obtain ⟨B,⟨F,T,M,O,h,-⟩,-⟩ := h
  obtain ⟨n1,n2,n3⟩ := h.num
  exact ⟨by rw [h.full.cell (by omega),n1],by rw [h.full.cell (by omega),n2],by rw [h.full.cell (by omega),n3],fun j => h.full.free j⟩
theorem PG.setA (h : PG w0 b a g k A v w) (a' : Int) : PG w0 b a' g k A v (w.setCell ⟨b,16,none⟩ (.int .i64 a')) := h.of fun B ⟨F,T,M,O,h,e⟩ => by
  subst e
  obtain ⟨n1,n2,n3⟩ := h.num
  exact h.of_num (j := 16) (by omega) (by omega) ⟨if_pos rfl,by rw [if_neg (by omega)]; exact n2,by rw [if_neg (by omega)]; exact n3⟩
theorem PG.setG (h : PG w0 b a g k A v w) (g' : Int) : PG w0 b a g' k A v (w.setCell ⟨b,17,none⟩ (.int .i64 g')) := h.of fun B ⟨F,T,M,O,h,e⟩ => by
  subst e
  obtain ⟨n1,n2,n3⟩ := h.num
  exact h.of_num (j := 17) (by omega) (by omega) ⟨by rw [if_neg (by omega)]; exact n1,if_pos rfl,by rw [if_neg (by omega)]; exact n3⟩
theorem PG.setN (h : PG w0 b a g k A v w) (n : Int) : PG w0 b a g { k with last := n } A v (w.setCell ⟨b,18,none⟩ (.int .i64 (n + 1))) := h.of fun B ⟨F,T,M,O,h,e⟩ => by
  subst e
  obtain ⟨n1,n2,n3⟩ := h.num
  exact h.of_num (j := 18) (by omega) (by omega) ⟨by rw [if_neg (by omega)]; exact n1,by rw [if_neg (by omega)]; exact n2,if_pos rfl⟩
end
end Pk
end Go.Proofs.YtocicffmajbecaaGreatDoor
namespace Go.Proofs.YtocicffmajbecaaGreatDoor
open Go.RowKit
set_option maxRecDepth 100000
set_option linter.unusedSimpArgs false
namespace Pk
open Rw (En)
open Kn
theorem ndN_thr {l : List Nd} (id : Int) : (ndN l id).thr = (stU l id).isSome := by
  unfold ndN stU
  cases getU l id with
  | none => rfl
  | some n => cases h : n.thr <;> simp [Nd.nn,h]
theorem ndN_rdy {k : Kd} (id : Int) : ((ndN k.l id).thr && (ndN k.l id).rdy) = (rdyE k id == 0) := by
  unfold ndN rdyE stU
  cases getU k.l id with
  | none => rfl
  | some n => cases h : n.thr <;> cases h2 : n.rdy <;> simp [Nd.nn,h,h2]
section
variable {w0 v w w' : World} {b : Nat} {a g th gr : Int} {k : Kd} {A : Nat → Prop}
set_option maxHeartbeats 2000000 in
theorem ready_any (h : PG w0 b a g k A v w) (hw : Wf k.l) (id : Int) : Calls Tryz.prog 57 #[.pointer (some ⟨b,0,none⟩),.int .i64 id] w (Yields w (.bool (rdyE k id == 0))) := by
  have CN := hid (fun w' (hx : Ext w w') => p_node (h.ext hx) hw id)
  have hb := h.lt
  have HV := hid (ndN_rdy (k := k) id)
  generalize ndN k.l id = nn at *
  obtain ⟨n0,n1,n2,n3,n4,n5⟩ := nn
  cases n4 <;> cases n5 <;> (
    rw [← HV.out]
    clear h
    go_enter Tryz.func57,Tryz.ntmps57
    go_wp2_with fail
    (with_reducible refine (CN.out _ ext_by).mono ?_)
    rintro e w2 ⟨rfl,hx⟩
    go_wp2
    go_returns
    exact ⟨rfl,ext_by⟩)
set_option maxHeartbeats 4000000 in
theorem exit_any (h : PG w0 b a g k A v w) (hk : KOk th gr k) (hl : k.last ≤ 1000000) (ha : 0 ≤ a ∧ a ≤ 100) (id : Int) :
    Calls Tryz.prog 12 #[.pointer (some ⟨b,0,none⟩),.int .i64 id] w fun e w' => e = .returned (errV (exitE k id)) ∧ PG w0 b (if exitE k id = 0 then a + 1 else a) g (exitK k id) A v w' := by
  have CN := hid (fun w' (hx : Ext w w') => p_node (h.ext hx) hk.wf id)
  have hb := h.lt
  have HV0 := ndN_thr (l := k.l) id
  by_cases hs : stU k.l id = none
  · have e1 : exitE k id = 13 := by unfold exitE; rw [if_pos hs]
    have e2 : exitK k id = k := by unfold exitK; rw [e1,if_neg (by decide)]
    rw [e1,e2,if_neg (by decide)]
    have H := hid h
    have HV : (ndN k.l id).thr = false := by rw [HV0,hs]; rfl
    clear h hk hs e1 e2 HV0
    generalize ndN k.l id = nn at *
    obtain ⟨n0,n1,n2,n3,n4,n5⟩ := nn
    obtain rfl : n4 = false := HV
    go_enter Tryz.func12,Tryz.ntmps12
    go_wp2_with fail
    (with_reducible refine (CN.out _ ext_by).mono ?_)
    rintro e w2 ⟨rfl,hx⟩
    go_wp2
    go_returns
    exact ⟨rfl,H.out.ext ext_by⟩
  · have e1 : exitE k id = 0 := by unfold exitE; rw [if_neg hs]
    have e2 : exitK k id = { k with l := remL k.l id,M := Ti.others id k.M,W := Ob.others id k.W } := by unfold exitK; rw [if_pos e1]
    rw [e1,e2,if_pos rfl]
    obtain ⟨r,hr⟩ : ∃ r,stU k.l id = some r := by
      cases h0 : stU k.l id with
      | none => exact absurd h0 hs
      | some r => exact ⟨r,rfl⟩
    have hwf := ids_wf hk hl hr
    have HF := hid (h.few hk)
    have HW := hid hk.wf
    have HWF := hid hwf
    have HA := hid ha
    have H := hid h
    have HV : (ndN k.l id).thr = true := by rw [HV0,hr]; rfl
    clear h hk hs e1 e2 hr hl hwf ha HV0
    generalize ndN k.l id = nn at *
    obtain ⟨n0,n1,n2,n3,n4,n5⟩ := nn
    obtain rfl : n4 = true := HV
    go_enter Tryz.func12,Tryz.ntmps12
    go_wp2_with fail
    (with_reducible refine (CN.out _ ext_by).mono ?_)
    rintro e w2 ⟨rfl,hx⟩
    go_wp2_with fail
    (with_reducible refine (p_rem (H.out.ext ext_by) HW.out id).mono ?_)
    rintro e w3 ⟨rfl,h3⟩
    have hb3 := h3.lt
    have H3 := hid h3
    clear h3
    go_wp2_with fail
    (with_reducible refine (p_drop (H3.out.ext ext_by) HF.out HWF.out).mono ?_)
    rintro e w4 ⟨rfl,h4⟩
    have hb4 := h4.lt
    have H4 := hid h4
    clear h4 H3
    go_wp2_with fail
    (with_reducible refine (p_odrop (H4.out.ext ext_by) HWF.out).mono ?_)
    rintro e w5 ⟨rfl,h5⟩
    have hb5 := h5.lt
    obtain ⟨c16,-,-,fz⟩ := h5.nums
    have f16 := fz 16
    have ew : IntKind.i64.wrap (a + 1) = a + 1 := IntWalk.i64_in _ (by have := HA.out; omega)
    have H5 := hid (h5.setA (a + 1))
    clear h5 H4 fz
    go_wp2
    go_returns
    exact ⟨rfl,H5.out.ext ext_by⟩
set_option maxHeartbeats 4000000 in
theorem sleep_any (h : PG w0 b a g k A v w) (hk : KOk th gr k) (hl : k.last ≤ 1000000) (id u : Int) :
    Calls Tryz.prog 14 #[.pointer (some ⟨b,0,none⟩),.int .i64 id,.int .i64 u] w fun e w' => e = .returned (errV (rdyE k id)) ∧ PG w0 b a g (sleepK k id u) A v w' := by
  have CR := hid (fun w' (hx : Ext w w') => ready_any (h.ext hx) hk.wf id)
  have hb := h.lt
  by_cases hs : rdyE k id = 0
  · have hst := rdyE_zero.1 hs
    have hwf := ids_wf hk hl hst
    have HF := hid (h.few hk)
    have HW := hid hk.wf
    have HWF := hid hwf
    have H := hid h
    have e2 : sleepK k id u = { k with l := rdyL k.l id false,M := Ti.put id u k.M } := by unfold sleepK; rw [if_pos hs]
    rw [hs,e2]
    rw [show (rdyE k id == 0) = true by rw [hs]; rfl] at CR
    clear h hk hs hst hl hwf e2
    go_enter Tryz.func14,Tryz.ntmps14
    go_wp2_with fail
    (with_reducible refine (CR.out _ ext_by).mono ?_)
    rintro e w2 ⟨rfl,hx⟩
    go_wp2_with fail
    (with_reducible refine (p_set (H.out.ext ext_by) HF.out u HWF.out).mono ?_)
    rintro e w3 ⟨rfl,h3⟩
    have hb3 := h3.lt
    have H3 := hid h3
    clear h3
    go_wp2_with fail
    (with_reducible refine (p_rdy (H3.out.ext ext_by) HW.out id false).mono ?_)
    rintro e w4 ⟨rfl,h4⟩
    have hb4 := h4.lt
    have H4 := hid h4
    clear h4 H3
    go_wp2
    go_returns
    exact ⟨rfl,H4.out.ext ext_by⟩
  · have e1 : rdyE k id = 13 := by
      unfold rdyE
      rw [if_neg fun e => hs (rdyE_zero.2 e)]
    have e2 : sleepK k id u = k := by unfold sleepK; rw [if_neg hs]
    rw [e1,e2]
    rw [show (rdyE k id == 0) = false by rw [e1]; rfl] at CR
    have H := hid h
    clear h hk hs hl e1 e2
    go_enter Tryz.func14,Tryz.ntmps14
    go_wp2_with fail
    (with_reducible refine (CR.out _ ext_by).mono ?_)
    rintro e w2 ⟨rfl,hx⟩
    go_wp2
    go_returns
    exact ⟨rfl,H.out.ext ext_by⟩
set_option maxHeartbeats 4000000 in
theorem wait_any (h : PG w0 b a g k A v w) (hk : KOk th gr k) (hl : k.last ≤ 1000000) (id o : Int) :
    Calls Tryz.prog 16 #[.pointer (some ⟨b,0,none⟩),.int .i64 id,.int .i64 o] w fun e w' => e = .returned (.tuple #[.bool (waitA k id o).on,errV (waitA k id o).err]) ∧ PG w0 b a g (waitK k id o) A v w' := by
  have CR := hid (fun w' (hx : Ext w w') => ready_any (h.ext hx) hk.wf id)
  have hb := h.lt
  have hqn := fun w => run_eql_nil_nil' (P := Tryz.prog) w Tryz.underlying31
  have hqi := fun x w => run_eql_iface_nil (P := Tryz.prog) w 66 x Tryz.underlying31
  by_cases hs : rdyE k id = 0
  · rw [show (rdyE k id == 0) = true by rw [hs]; rfl] at CR
    have hst := rdyE_zero.1 hs
    have hwf := ids_wf hk hl hst
    have ea : waitA k id o = Ob.waitR id o k.c k.W := by unfold waitA; rw [if_pos hs]
    have CW := fun w1 (e : Ext w w1) => p_owait (h.ext e) (rowsFew hk) o hwf
    have HW := hid hk.wf
    unfold waitK
    rw [ea]
    generalize Ob.waitR id o k.c k.W = q at *
    obtain ⟨on,er,c',W'⟩ := q
    simp only at CW ⊢
    have CW := hid CW
    clear h hk hs hst hwf ea hl
    by_cases h0 : er = 0
    · subst h0
      rw [errV_0] at CW ⊢
      cases on with
      | true =>
        simp only [true_and,Bool.true_eq_false,if_false]
        go_enter Tryz.func16,Tryz.ntmps16
        go_wp2_with fail
        (with_reducible refine (CR.out _ ext_by).mono ?_)
        rintro e w2 ⟨rfl,hx⟩
        go_wp2_with fail
        (with_reducible refine (CW.out _ ext_by).mono ?_)
        rintro e w3 ⟨rfl,h3⟩
        have hb3 := h3.lt
        have H3 := hid h3
        clear h3
        go_wp2
        go_returns
        exact ⟨rfl,H3.out.ext ext_by⟩
      | false =>
        simp only [true_and,if_true]
        go_enter Tryz.func16,Tryz.ntmps16
        go_wp2_with fail
        (with_reducible refine (CR.out _ ext_by).mono ?_)
        rintro e w2 ⟨rfl,hx⟩
        go_wp2_with fail
        (with_reducible refine (CW.out _ ext_by).mono ?_)
        rintro e w3 ⟨rfl,h3⟩
        have hb3 := h3.lt
        have H3 := hid h3
        clear h3
        go_wp2_with fail
        (with_reducible refine (p_rdy (H3.out.ext ext_by) HW.out id false).mono ?_)
        rintro e w4 ⟨rfl,h4⟩
        have hb4 := h4.lt
        have H4 := hid h4
        clear h4 H3
        go_wp2
        go_returns
        exact ⟨rfl,H4.out.ext ext_by⟩
    · rw [if_neg fun c => h0 c.1]
      rw [errV_pos h0] at CW ⊢
      go_enter Tryz.func16,Tryz.ntmps16
      go_wp2_with fail
      (with_reducible refine (CR.out _ ext_by).mono ?_)
      rintro e w2 ⟨rfl,hx⟩
      go_wp2_with fail
      (with_reducible refine (CW.out _ ext_by).mono ?_)
      rintro e w3 ⟨rfl,h3⟩
      have hb3 := h3.lt
      have H3 := hid h3
      clear h3
      go_wp2
      go_returns
      exact ⟨rfl,H3.out.ext ext_by⟩
  · have e0 : rdyE k id = 13 := by
      unfold rdyE
      rw [if_neg fun e => hs (rdyE_zero.2 e)]
    have e1 : waitA k id o = ⟨false,13,k.c,k.W⟩ := by unfold waitA; rw [if_neg hs]
    have e2 : waitK k id o = k := by unfold waitK; rw [e1,if_neg (by simp)]
    rw [e1,e2]
    rw [show (rdyE k id == 0) = false by rw [e0]; rfl] at CR
    have H := hid h
    clear h hk hs e0 e1 e2 hl
    go_enter Tryz.func16,Tryz.ntmps16
    go_wp2_with fail
    (with_reducible refine (CR.out _ ext_by).mono ?_)
    rintro e w2 ⟨rfl,hx⟩
    go_wp2
    go_returns
    exact ⟨rfl,H.out.ext ext_by⟩
set_option maxHeartbeats 4000000 in
theorem signal_any (h : PG w0 b a g k A v w) (hw : Wf k.l) (o : Int) :
    Calls Tryz.prog 18 #[.pointer (some ⟨b,0,none⟩),.int .i64 o] w fun e w' => e = .returned (errV (Ob.sigR o k.c k.W).err) ∧ PG w0 b a g (signalK k o) A v w' := by
  have CS := hid (fun w' (hx : Ext w w') => p_osignal (h.ext hx) o)
  have HW := hid hw
  have hb := h.lt
  unfold signalK
  generalize Ob.sigR o k.c k.W = q at *
  obtain ⟨id,met,er,c',W'⟩ := q
  simp only at CS ⊢
  clear h hw
  cases met with
  | true =>
    simp only [if_true]
    go_enter Tryz.func18,Tryz.ntmps18
    go_wp2_with fail
    (with_reducible refine (CS.out _ ext_by).mono ?_)
    rintro e w3 ⟨rfl,h3⟩
    have hb3 := h3.lt
    have H3 := hid h3
    clear h3
    go_wp2_with fail
    (with_reducible refine (p_rdy (H3.out.ext ext_by) HW.out id true).mono ?_)
    rintro e w4 ⟨rfl,h4⟩
    have hb4 := h4.lt
    have H4 := hid h4
    clear h4 H3
    go_wp2
    go_returns
    exact ⟨rfl,H4.out.ext ext_by⟩
  | false =>
    simp only [Bool.false_eq_true,if_false]
    go_enter Tryz.func18,Tryz.ntmps18
    go_wp2_with fail
    (with_reducible refine (CS.out _ ext_by).mono ?_)
    rintro e w3 ⟨rfl,h3⟩
    have hb3 := h3.lt
    have H3 := hid h3
    clear h3
    go_wp2
    go_returns
    exact ⟨rfl,H3.out.ext ext_by⟩
set_option maxHeartbeats 2000000 in
theorem run_any (h : PG w0 b a g k A v w) (hw : Wf k.l) :
    Calls Tryz.prog 25 #[.pointer (some ⟨b,0,none⟩)] w fun e w' => e = .returned (.tuple #[.int .i64 (runK k.l).1,.bool (runK k.l).2]) ∧ PG w0 b a g (runK' k) A v w' := by
  have hb := h.lt
  have CR := hid (fun w' (hx : Ext w w') => p_run (h.ext hx) hw)
  clear h hw
  go_enter Tryz.func25,Tryz.ntmps25
  go_wp2_with fail
  (with_reducible refine (CR.out _ ext_by).mono ?_)
  rintro e w3 ⟨rfl,h3⟩
  have H3 := hid h3
  clear h3
  go_wp2
  go_returns
  exact ⟨rfl,H3.out.ext ext_by⟩
set_option maxHeartbeats 2000000 in
theorem weight_any (h : PG w0 b a g k A v w) (hw : Wf k.l) (id wt : Int) :
    Calls Tryz.prog 20 #[.pointer (some ⟨b,0,none⟩),.int .i64 id,.int .i64 wt] w fun e w' => e = .returned (errV (wtK k.l id wt)) ∧ PG w0 b a g (weightK k id wt) A v w' := by
  have hb := h.lt
  have CR := hid (fun w' (hx : Ext w w') => p_wt (h.ext hx) hw id wt)
  clear h hw
  go_enter Tryz.func20,Tryz.ntmps20
  go_wp2_with fail
  (with_reducible refine (CR.out _ ext_by).mono ?_)
  rintro e w3 ⟨rfl,h3⟩
  have H3 := hid h3
  clear h3
  go_wp2
  go_returns
  exact ⟨rfl,H3.out.ext ext_by⟩
theorem ndN_root (l : List Nd) : (ndN l 0).rdy = rootR l := by
  unfold ndN rootR
  cases getU l 0 with
  | none => rfl
  | some n => rfl
set_option maxHeartbeats 2000000 in
theorem runnable_any (h : PG w0 b a g k A v w) (hw : Wf k.l) : Calls Tryz.prog 27 #[.pointer (some ⟨b,0,none⟩)] w (Yields w (.bool (rootR k.l))) := by
  have CN := hid (fun w' (hx : Ext w w') => p_node (h.ext hx) hw 0)
  have hb := h.lt
  rw [← ndN_root]
  generalize ndN k.l 0 = nn at *
  obtain ⟨n0,n1,n2,n3,n4,n5⟩ := nn
  clear h
  go_enter Tryz.func27,Tryz.ntmps27
  go_wp2_with fail
  (with_reducible refine (CN.out _ ext_by).mono ?_)
  rintro e w2 ⟨rfl,hx⟩
  go_wp2
  go_returns
  exact ⟨rfl,ext_by⟩
set_option maxHeartbeats 2000000 in
theorem nodes_any (h : PG w0 b a g k A v w) (hw : Wf k.l) :
    Calls Tryz.prog 32 #[.pointer (some ⟨b,0,none⟩)] w fun e w' => ∃ vd,e = .returned vd ∧ Ext w w' ∧ NodesV w' vd (k.l.map Nd.nn) := by
  have CN := hid (fun w' (hx : Ext w w') => p_nodes (h.ext hx) hw)
  have hb := h.lt
  clear h
  go_enter Tryz.func32,Tryz.ntmps32
  go_wp2_with fail
  (with_reducible refine (CN.out _ ext_by).mono ?_)
  rintro e w2 ⟨vd,rfl,hx,hn,-⟩
  go_wp2
  go_returns
  exact ⟨vd,rfl,ext_by,NodesV.ext hn ext_by⟩
end
end Pk
end Go.Proofs.YtocicffmajbecaaGreatDoor
namespace Go.Proofs.YtocicffmajbecaaGreatDoor
open Go.RowKit
set_option maxRecDepth 100000
set_option linter.unusedSimpArgs false
namespace Pk
open Rw (En)
open Kn
def addE (k : Kd) (q p wt : Int) (t : Bool) : Nat := if isW wt = false then 10 else if grpU k.l p = false then 13 else if q = 0 then 14 else addK k.l p (k.last + 1) wt t
def addKd (k : Kd) (q p wt : Int) (t : Bool) : Kd := if addE k q p wt t = 0 then { k with l := addL k.l p (k.last + 1) wt t,last := k.last + 1 } else k
def addN (k : Kd) (q p wt : Int) (t : Bool) : Int := if addE k q p wt t = 0 then k.last + 1 else 0
theorem ndN_grp (l : List Nd) (p : Int) : grpU l p = ((getU l p).isSome && !(ndN l p).thr) := by
  unfold ndN grpU
  cases getU l p with
  | none => rfl
  | some n => simp [Nd.nn]
section
variable {w0 v w w' : World} {b : Nat} {a g : Int} {k : Kd} {A : Nat → Prop}
set_option maxHeartbeats 8000000 in
theorem add_true (h : PG w0 b a g k A v w) (hk : Wf k.l) (hl0 : 0 ≤ k.last) (hl : k.last ≤ 1000000) (ha : 0 ≤ a ∧ a ≤ 100) (p wt : Int) :
    Calls Tryz.prog 42 #[.pointer (some ⟨b,0,none⟩),.int .i64 p,.int .i64 wt,.bool true,.pointer (some ⟨b,16,none⟩)] w fun e w' =>
      e = .returned (.tuple #[.int .i64 (addN k a p wt true),errV (addE k a p wt true)]) ∧ (if addE k a p wt true = 0 then PG w0 b (a - 1) g (addKd k a p wt true) A v w' else PG w0 b a g k A v w') := by
  have CN := hid (fun w' (hx : Ext w w') => p_node (h.ext hx) hk p)
  have hb := h.lt
  have HG := ndN_grp k.l p
  cases hw : isW wt with
  | false =>
    have e1 : addE k a p wt true = 10 := by unfold addE; rw [if_pos hw]
    unfold addN
    rw [e1]
    simp only [Nat.reduceEqDiff,if_false]
    have CW := hid (fun w1 => isW_to hw w1)
    have H := hid h
    clear h hk hl0 hl ha e1 hw HG
    generalize ndN k.l p = nn at *
    generalize (getU k.l p).isSome = there at *
    obtain ⟨n0,n1,n2,n3,n4,n5⟩ := nn
    go_enter Tryz.func42,Tryz.ntmps42
    go_wp2_with fail
    (with_reducible refine (CN.out _ ext_by).mono ?_)
    rintro e w2 ⟨rfl,hx⟩
    go_wp2_with (go_at_call 77; (with_reducible refine (CW.out _).yields ?_); intro p0)
    go_returns
    exact ⟨rfl,H.out.ext ext_by⟩
  | true =>
    have CW := hid (fun w1 => isW_to hw w1)
    cases hg : grpU k.l p with
    | false =>
      have e1 : addE k a p wt true = 13 := by unfold addE; rw [if_neg (by rw [hw]; decide),if_pos hg]
      unfold addN
      rw [e1]
      simp only [Nat.reduceEqDiff,if_false]
      rw [hg] at HG
      have H := hid h
      clear h hk hl0 hl ha e1 hw hg
      generalize ndN k.l p = nn at *
      generalize (getU k.l p).isSome = there at *
      obtain ⟨n0,n1,n2,n3,n4,n5⟩ := nn
      cases there <;> cases n4 <;> first | (exfalso; simp at HG; done) | (
        clear HG
        go_enter Tryz.func42,Tryz.ntmps42
        go_wp2_with fail
        (with_reducible refine (CN.out _ ext_by).mono ?_)
        rintro e w2 ⟨rfl,hx⟩
        go_wp2_with (go_at_call 77; (with_reducible refine (CW.out _).yields ?_); intro p0)
        go_returns
        exact ⟨rfl,H.out.ext ext_by⟩)
    | true =>
      rw [hg] at HG
      have HN : (getU k.l p).isSome = true ∧ (ndN k.l p).thr = false := by
        cases h1 : (getU k.l p).isSome <;> cases h2 : (ndN k.l p).thr <;> rw [h1,h2] at HG <;> simp at HG ⊢
      have HU := hid (fun (q : a ≠ 0) => show addE k a p wt true = addK k.l p (k.last + 1) wt true by unfold addE; rw [if_neg (by rw [hw]; decide),if_neg (by rw [hg]; decide),if_neg q])
      have HZ := hid (fun (q : a = 0) => show addE k a p wt true = 14 by unfold addE; rw [if_neg (by rw [hw]; decide),if_neg (by rw [hg]; decide),if_pos q])
      rw [HN.1] at CN
      have HN := HN.2
      clear hg hw HG
      obtain ⟨c16,c17,c18,fz⟩ := h.nums
      by_cases hq : a = 0
      · have e1 := HZ.out hq
        unfold addN
        rw [e1]
        simp only [Nat.reduceEqDiff,if_false]
        have H := hid h
        have i1 : (a == 0) = true := by rw [hq]; rfl
        clear h hk hl0 hl ha e1 hq HZ HU
        generalize ndN k.l p = nn at *
        obtain ⟨n0,n1,n2,n3,n4,n5⟩ := nn
        obtain rfl : n4 = false := HN
        go_enter Tryz.func42,Tryz.ntmps42
        go_wp2_with fail
        (with_reducible refine (CN.out _ ext_by).mono ?_)
        rintro e w2 ⟨rfl,hx⟩
        have d16 := hx.cell c16
        have hb2 : b < w2.heap.size := Nat.lt_of_lt_of_le hb hx.size
        have d17 := hx.cell c17
        go_wp2_with (go_at_call 77; (with_reducible refine (CW.out _).yields ?_); intro p0)
        go_returns
        exact ⟨rfl,H.out.ext ext_by⟩
      · have e0 := HU.out hq
        have i1 : (a == 0) = false := by simpa using hq
        have CA := fun w1 (e : Ext w w1) => p_add (h.ext e) hk p (k.last + 1) wt true
        have hl1 := hl0
        unfold addN addKd
        rw [e0]
        have hqn := fun w => run_neq_nil_nil' (P := Tryz.prog) w Tryz.underlying31
        have hqi := fun x w => run_neq_iface_nil (P := Tryz.prog) w 66 x Tryz.underlying31
        by_cases hz : addK k.l p (k.last + 1) wt true = 0
        · rw [hz,errV_0] at CA ⊢
          simp only [if_true,errV_0]
          have CA := hid CA
          have HA := hid (And.intro ha (And.intro hl (And.intro hl1 hq)))
          clear h hk hl0 hl ha e0 hq HZ HU hz hl1
          generalize ndN k.l p = nn at *
          obtain ⟨n0,n1,n2,n3,n4,n5⟩ := nn
          obtain rfl : n4 = false := HN
          go_enter Tryz.func42,Tryz.ntmps42
          go_wp2_with fail
          (with_reducible refine (CN.out _ ext_by).mono ?_)
          rintro e w2 ⟨rfl,hx⟩
          have d16 := hx.cell c16
          have hb2 : b < w2.heap.size := Nat.lt_of_lt_of_le hb hx.size
          have d17 := hx.cell c17
          have d18 := hx.cell c18
          clear c16 c17 c18 fz
          go_wp2_with (first
            | (go_at_call 77; (with_reducible refine (CW.out _).yields ?_); intro p0)
            | (go_at_call 78; (with_reducible refine (CA.out _ ext_by).mono ?_); rintro e w3 ⟨rfl,h3⟩; have hb3 := h3.lt; obtain ⟨c16,c17,c18,fz⟩ := h3.nums; have f16 := fz 16; have f18 := fz 18; have ew : IntKind.i64.wrap (k.last + 1 + 1) = k.last + 1 + 1 := IntWalk.i64_in _ (by have := HA.out; omega); have ev : IntKind.i64.wrap (a - 1) = a - 1 := IntWalk.i64_in _ (by have := HA.out; omega); have H3 := hid ((h3.setN (k.last + 1)).setA (a - 1)); clear h3 d16 d17 d18 fz hx))
          go_returns
          exact ⟨rfl,H3.out.ext ext_by⟩
        · have eL : addL k.l p (k.last + 1) wt true = k.l := by unfold addL; rw [if_neg hz]
          rw [eL] at CA
          rw [errV_pos hz] at CA ⊢
          simp only [hz,if_false]
          have CA := hid CA
          clear h hk hl0 hl ha e0 hq HZ HU hl1 eL
          generalize addK k.l p (k.last + 1) wt true = er at *
          clear hz
          generalize ndN k.l p = nn at *
          obtain ⟨n0,n1,n2,n3,n4,n5⟩ := nn
          obtain rfl : n4 = false := HN
          go_enter Tryz.func42,Tryz.ntmps42
          go_wp2_with fail
          (with_reducible refine (CN.out _ ext_by).mono ?_)
          rintro e w2 ⟨rfl,hx⟩
          have d16 := hx.cell c16
          have hb2 : b < w2.heap.size := Nat.lt_of_lt_of_le hb hx.size
          have d17 := hx.cell c17
          have d18 := hx.cell c18
          clear c16 c17 c18 fz
          go_wp2_with (first
            | (go_at_call 77; (with_reducible refine (CW.out _).yields ?_); intro p0)
            | (go_at_call 78; (with_reducible refine (CA.out _ ext_by).mono ?_); rintro e w3 ⟨rfl,h3⟩; have hb3 := h3.lt; have H3 := hid h3; clear h3))
          go_returns
          exact ⟨rfl,H3.out.ext ext_by⟩
set_option maxHeartbeats 8000000 in
theorem add_false (h : PG w0 b a g k A v w) (hk : Wf k.l) (hl0 : 0 ≤ k.last) (hl : k.last ≤ 1000000) (ha : 0 ≤ g ∧ g ≤ 100) (p wt : Int) :
    Calls Tryz.prog 42 #[.pointer (some ⟨b,0,none⟩),.int .i64 p,.int .i64 wt,.bool false,.pointer (some ⟨b,17,none⟩)] w fun e w' =>
      e = .returned (.tuple #[.int .i64 (addN k g p wt false),errV (addE k g p wt false)]) ∧ (if addE k g p wt false = 0 then PG w0 b a (g - 1) (addKd k g p wt false) A v w' else PG w0 b a g k A v w') := by
  have CN := hid (fun w' (hx : Ext w w') => p_node (h.ext hx) hk p)
  have hb := h.lt
  have HG := ndN_grp k.l p
  cases hw : isW wt with
  | false =>
    have e1 : addE k g p wt false = 10 := by unfold addE; rw [if_pos hw]
    unfold addN
    rw [e1]
    simp only [Nat.reduceEqDiff,if_false]
    have CW := hid (fun w1 => isW_to hw w1)
    have H := hid h
    clear h hk hl0 hl ha e1 hw HG
    generalize ndN k.l p = nn at *
    generalize (getU k.l p).isSome = there at *
    obtain ⟨n0,n1,n2,n3,n4,n5⟩ := nn
    go_enter Tryz.func42,Tryz.ntmps42
    go_wp2_with fail
    (with_reducible refine (CN.out _ ext_by).mono ?_)
    rintro e w2 ⟨rfl,hx⟩
    go_wp2_with (go_at_call 77; (with_reducible refine (CW.out _).yields ?_); intro p0)
    go_returns
    exact ⟨rfl,H.out.ext ext_by⟩
  | true =>
    have CW := hid (fun w1 => isW_to hw w1)
    cases hg : grpU k.l p with
    | false =>
      have e1 : addE k g p wt false = 13 := by unfold addE; rw [if_neg (by rw [hw]; decide),if_pos hg]
      unfold addN
      rw [e1]
      simp only [Nat.reduceEqDiff,if_false]
      rw [hg] at HG
      have H := hid h
      clear h hk hl0 hl ha e1 hw hg
      generalize ndN k.l p = nn at *
      generalize (getU k.l p).isSome = there at *
      obtain ⟨n0,n1,n2,n3,n4,n5⟩ := nn
      cases there <;> cases n4 <;> first | (exfalso; simp at HG; done) | (
        clear HG
        go_enter Tryz.func42,Tryz.ntmps42
        go_wp2_with fail
        (with_reducible refine (CN.out _ ext_by).mono ?_)
        rintro e w2 ⟨rfl,hx⟩
        go_wp2_with (go_at_call 77; (with_reducible refine (CW.out _).yields ?_); intro p0)
        go_returns
        exact ⟨rfl,H.out.ext ext_by⟩)
    | true =>
      rw [hg] at HG
      have HN : (getU k.l p).isSome = true ∧ (ndN k.l p).thr = false := by
        cases h1 : (getU k.l p).isSome <;> cases h2 : (ndN k.l p).thr <;> rw [h1,h2] at HG <;> simp at HG ⊢
      have HU := hid (fun (q : g ≠ 0) => show addE k g p wt false = addK k.l p (k.last + 1) wt false by unfold addE; rw [if_neg (by rw [hw]; decide),if_neg (by rw [hg]; decide),if_neg q])
      have HZ := hid (fun (q : g = 0) => show addE k g p wt false = 14 by unfold addE; rw [if_neg (by rw [hw]; decide),if_neg (by rw [hg]; decide),if_pos q])
      rw [HN.1] at CN
      have HN := HN.2
      clear hg hw HG
      obtain ⟨c16,c17,c18,fz⟩ := h.nums
      by_cases hq : g = 0
      · have e1 := HZ.out hq
        unfold addN
        rw [e1]
        simp only [Nat.reduceEqDiff,if_false]
        have H := hid h
        have i1 : (g == 0) = true := by rw [hq]; rfl
        clear h hk hl0 hl ha e1 hq HZ HU
        generalize ndN k.l p = nn at *
        obtain ⟨n0,n1,n2,n3,n4,n5⟩ := nn
        obtain rfl : n4 = false := HN
        go_enter Tryz.func42,Tryz.ntmps42
        go_wp2_with fail
        (with_reducible refine (CN.out _ ext_by).mono ?_)
        rintro e w2 ⟨rfl,hx⟩
        have d16 := hx.cell c16
        have hb2 : b < w2.heap.size := Nat.lt_of_lt_of_le hb hx.size
        have d17 := hx.cell c17
        go_wp2_with (go_at_call 77; (with_reducible refine (CW.out _).yields ?_); intro p0)
        go_returns
        exact ⟨rfl,H.out.ext ext_by⟩
      · have e0 := HU.out hq
        have i1 : (g == 0) = false := by simpa using hq
        have CA := fun w1 (e : Ext w w1) => p_add (h.ext e) hk p (k.last + 1) wt false
        have hl1 := hl0
        unfold addN addKd
        rw [e0]
        have hqn := fun w => run_neq_nil_nil' (P := Tryz.prog) w Tryz.underlying31
        have hqi := fun x w => run_neq_iface_nil (P := Tryz.prog) w 66 x Tryz.underlying31
        by_cases hz : addK k.l p (k.last + 1) wt false = 0
        · rw [hz,errV_0] at CA ⊢
          simp only [if_true,errV_0]
          have CA := hid CA
          have HA := hid (And.intro ha (And.intro hl (And.intro hl1 hq)))
          clear h hk hl0 hl ha e0 hq HZ HU hz hl1
          generalize ndN k.l p = nn at *
          obtain ⟨n0,n1,n2,n3,n4,n5⟩ := nn
          obtain rfl : n4 = false := HN
          go_enter Tryz.func42,Tryz.ntmps42
          go_wp2_with fail
          (with_reducible refine (CN.out _ ext_by).mono ?_)
          rintro e w2 ⟨rfl,hx⟩
          have d16 := hx.cell c16
          have hb2 : b < w2.heap.size := Nat.lt_of_lt_of_le hb hx.size
          have d17 := hx.cell c17
          have d18 := hx.cell c18
          clear c16 c17 c18 fz
          go_wp2_with (first
            | (go_at_call 77; (with_reducible refine (CW.out _).yields ?_); intro p0)
            | (go_at_call 78; (with_reducible refine (CA.out _ ext_by).mono ?_); rintro e w3 ⟨rfl,h3⟩; have hb3 := h3.lt; obtain ⟨c16,c17,c18,fz⟩ := h3.nums; have f16 := fz 17; have f18 := fz 18; have ew : IntKind.i64.wrap (k.last + 1 + 1) = k.last + 1 + 1 := IntWalk.i64_in _ (by have := HA.out; omega); have ev : IntKind.i64.wrap (g - 1) = g - 1 := IntWalk.i64_in _ (by have := HA.out; omega); have H3 := hid ((h3.setN (k.last + 1)).setG (g - 1)); clear h3 d16 d17 d18 fz hx))
          go_returns
          exact ⟨rfl,H3.out.ext ext_by⟩
        · have eL : addL k.l p (k.last + 1) wt false = k.l := by unfold addL; rw [if_neg hz]
          rw [eL] at CA
          rw [errV_pos hz] at CA ⊢
          simp only [hz,if_false]
          have CA := hid CA
          clear h hk hl0 hl ha e0 hq HZ HU hl1 eL
          generalize addK k.l p (k.last + 1) wt false = er at *
          clear hz
          generalize ndN k.l p = nn at *
          obtain ⟨n0,n1,n2,n3,n4,n5⟩ := nn
          obtain rfl : n4 = false := HN
          go_enter Tryz.func42,Tryz.ntmps42
          go_wp2_with fail
          (with_reducible refine (CN.out _ ext_by).mono ?_)
          rintro e w2 ⟨rfl,hx⟩
          have d16 := hx.cell c16
          have hb2 : b < w2.heap.size := Nat.lt_of_lt_of_le hb hx.size
          have d17 := hx.cell c17
          have d18 := hx.cell c18
          clear c16 c17 c18 fz
          go_wp2_with (first
            | (go_at_call 77; (with_reducible refine (CW.out _).yields ?_); intro p0)
            | (go_at_call 78; (with_reducible refine (CA.out _ ext_by).mono ?_); rintro e w3 ⟨rfl,h3⟩; have hb3 := h3.lt; have H3 := hid h3; clear h3))
          go_returns
          exact ⟨rfl,H3.out.ext ext_by⟩
end
end Pk
end Go.Proofs.YtocicffmajbecaaGreatDoor
namespace Go.Proofs.YtocicffmajbecaaGreatDoor
open Go.RowKit
set_option maxRecDepth 100000
set_option linter.unusedSimpArgs false
namespace Pk
open Rw (En)
open Kn
theorem addK_of {th gr : Int} {k : Kd} (hk : KOk th gr k) {p wt : Int} (hw : isW wt = true) (hg : grpU k.l p = true) (t : Bool) : addK k.l p (k.last + 1) wt t = if t = false ∧ 4 ≤ dnU 6 k.l p then 12 else 0 := by
  have h1 := hk.l1
  have h2 := hk.small
  have h3 : hasU k.l (k.last + 1) = false := by
    have := hk.fresh
    unfold hasU
    rw [this]; rfl
  unfold addK addC
  rw [if_neg (by rw [hw]; exact fun e => e.elim (fun e => by cases e) fun e => by omega),if_neg (by rw [hg]; decide),if_neg (by rw [h3]; decide)]
  split
  · rfl
  · rw [if_neg (by omega)]
theorem addE_spawn {th gr : Int} {k : Kd} (hk : KOk th gr k) (p wt : Int) : addE k (th - cntT k.l) p wt true = spawnE th k p wt := by
  have hc := hk.ct
  unfold addE spawnE
  cases hw : isW wt with
  | false => rfl
  | true =>
    cases hg : grpU k.l p with
    | false => rfl
    | true =>
      simp only [Bool.true_eq_false,if_false]
      by_cases h : th ≤ cntT k.l
      · rw [if_pos (by omega),if_pos h]
      · rw [if_neg (by omega),if_neg h,addK_of hk hw hg,if_neg (by simp)]
theorem addE_group {th gr : Int} {k : Kd} (hk : KOk th gr k) (p wt : Int) : addE k (gr - cntG k.l) p wt false = groupE gr k p wt := by
  have hc := hk.cg
  unfold addE groupE
  cases hw : isW wt with
  | false => rfl
  | true =>
    cases hg : grpU k.l p with
    | false => rfl
    | true =>
      simp only [Bool.true_eq_false,if_false]
      by_cases h : gr ≤ cntG k.l
      · rw [if_pos (by omega),if_pos h]
      · rw [if_neg (by omega),if_neg h,addK_of hk hw hg]
        simp
theorem addK_zero {k : Kd} {q p wt : Int} {t : Bool} (h : addE k q p wt t = 0) : addK k.l p (k.last + 1) wt t = 0 := by
  unfold addE at h
  split at h
  · cases h
  · split at h
    · cases h
    · split at h
      · cases h
      · exact h
abbrev PS (w0 : World) (b : Nat) (th gr : Int) (k : Kd) (A : Nat → Prop) (v w : World) : Prop := PG w0 b (th - cntT k.l) (gr - cntG k.l) k A v w
section
variable {w0 v w w' : World} {b : Nat} {a g th gr : Int} {k k' : Kd} {A : Nat → Prop}
theorem PG.by (h : PG w0 b a g k' A v w) (e1 : a = th - cntT k'.l) (e2 : g = gr - cntG k'.l) : PS w0 b th gr k' A v w := by
  subst e1 e2
  exact h
theorem cnt_same {l l' : List Nd} (h : l'.map kd = l.map kd) : cntT l' = cntT l ∧ cntG l' = cntG l := ⟨(cnt_of h).1,(cnt_of h).2.1⟩
theorem PG.like {l : List Nd} (h : PG w0 b (th - cntT l) (gr - cntG l) k' A v w) (e : k'.l.map kd = l.map kd) : PS w0 b th gr k' A v w :=
  h.by (by rw [(cnt_same e).1]) (by rw [(cnt_same e).2])
theorem PS.rooms (hk : KOk th gr k) : (0 ≤ th - cntT k.l ∧ th - cntT k.l ≤ 100) ∧ (0 ≤ gr - cntG k.l ∧ gr - cntG k.l ≤ 100) := by
  have h1 := hk.tb; have h2 := hk.gb; have h3 := hk.ct; have h4 := hk.cg
  omega
theorem kd_rdy (l : List Nd) (id : Int) (r : Bool) : (rdyL l id r).map kd = l.map kd := kd_sim (rdyL_sim l id r)
theorem kd_wakes : ∀ (is : List Int) (l : List Nd),(wakes l is).map kd = l.map kd
  | [],_ => rfl
  | i :: is,l => (kd_wakes is (rdyL l i true)).trans (kd_rdy l i true)
def spawnG (k : Kd) (p wt : Int) : Kd := { k with l := rdyL (addL k.l p (k.last + 1) wt true) (k.last + 1) true,last := k.last + 1 }
set_option maxHeartbeats 4000000 in
theorem spawn_g (h : PG w0 b a g k A v w) (hk : Wf k.l) (hl0 : 0 ≤ k.last) (hl : k.last ≤ 1000000) (ha : 0 ≤ a ∧ a ≤ 100) (p wt : Int) :
    Calls Tryz.prog 7 #[.pointer (some ⟨b,0,none⟩),.int .i64 p,.int .i64 wt] w fun e w' => e = .returned (.tuple #[.int .i64 (addN k a p wt true),errV (addE k a p wt true)]) ∧
      (if addE k a p wt true = 0 then PG w0 b (a - 1) g (spawnG k p wt) A v w' else PG w0 b a g k A v w') := by
  have hb := h.lt
  have CA := fun w1 (e : Ext w w1) => add_true (h.ext e) hk hl0 hl ha p wt
  have hqn := fun w => run_neq_nil_nil' (P := Tryz.prog) w Tryz.underlying31
  have hqi := fun x w => run_neq_iface_nil (P := Tryz.prog) w 66 x Tryz.underlying31
  unfold addN addKd at CA
  unfold addN
  by_cases h0 : addE k a p wt true = 0
  · rw [h0] at CA
    rw [h0]
    simp only [if_true,errV_0] at CA ⊢
    have HW := hid (hk.addL p (k.last + 1) wt true)
    have CA := hid CA
    clear h hk hl hl0 ha h0
    go_enter Tryz.func7,Tryz.ntmps7
    go_wp2_with fail
    (with_reducible refine (CA.out _ ext_by).mono ?_)
    rintro e w3 ⟨rfl,h3⟩
    have hb3 := h3.lt
    have H3 := hid h3
    clear h3
    go_wp2_with fail
    (with_reducible refine (p_rdy (H3.out.ext ext_by) HW.out (k.last + 1) true).mono ?_)
    rintro e w4 ⟨rfl,h4⟩
    have H4 := hid h4
    clear h4 H3
    go_wp2
    go_returns
    exact ⟨rfl,H4.out.ext ext_by⟩
  · simp only [h0,if_false] at CA ⊢
    rw [errV_pos h0] at CA ⊢
    have CA := hid CA
    clear h hk hl hl0 ha
    generalize addE k a p wt true = er at *
    clear h0
    go_enter Tryz.func7,Tryz.ntmps7
    go_wp2_with fail
    (with_reducible refine (CA.out _ ext_by).mono ?_)
    rintro e w3 ⟨rfl,h3⟩
    have H3 := hid h3
    clear h3
    go_wp2
    go_returns
    exact ⟨rfl,H3.out.ext ext_by⟩
theorem spawn_s (h : PS w0 b th gr k A v w) (hk : KOk th gr k) (hl : k.last ≤ 1000000) (p wt : Int) :
    Calls Tryz.prog 7 #[.pointer (some ⟨b,0,none⟩),.int .i64 p,.int .i64 wt] w fun e w' => e = .returned (.tuple #[.int .i64 (spawnN th k p wt),errV (spawnE th k p wt)]) ∧ PS w0 b th gr (spawnK th k p wt) A v w' := by
  have hl1 := hk.l1
  refine (spawn_g h hk.wf (by omega) hl (PS.rooms hk).1 p wt).mono fun e w' ⟨q,h'⟩ => ?_
  have e0 := addE_spawn hk p wt
  have hz := addK_zero (k := k) (q := th - cntT k.l) (p := p) (wt := wt) (t := true)
  unfold addN at q
  rw [e0] at q h' hz
  refine ⟨q,?_⟩
  unfold spawnK
  by_cases h0 : spawnE th k p wt = 0
  · obtain ⟨q1,q2,-⟩ := cnt_add (l := k.l) (by omega) (hz h0)
    rw [if_pos h0] at h' ⊢
    refine h'.by ?_ ?_
    · show _ = th - (cntT (rdyL (addL k.l p (k.last + 1) wt true) (k.last + 1) true) : Int)
      rw [(cnt_same (kd_rdy _ _ _)).1,q1]; simp; omega
    · show _ = gr - (cntG (rdyL (addL k.l p (k.last + 1) wt true) (k.last + 1) true) : Int)
      rw [(cnt_same (kd_rdy _ _ _)).2,q2]; simp
  · rw [if_neg h0] at h' ⊢
    exact h'
set_option maxHeartbeats 4000000 in
theorem group_s (h : PS w0 b th gr k A v w) (hk : KOk th gr k) (hl : k.last ≤ 1000000) (p wt : Int) :
    Calls Tryz.prog 10 #[.pointer (some ⟨b,0,none⟩),.int .i64 p,.int .i64 wt] w fun e w' => e = .returned (.tuple #[.int .i64 (groupN gr k p wt),errV (groupE gr k p wt)]) ∧ PS w0 b th gr (groupK gr k p wt) A v w' := by
  have hb := h.lt
  have CA := fun w1 (e : Ext w w1) => add_false (h.ext e) hk.wf (by have := hk.l1; omega) hl (PS.rooms hk).2 p wt
  unfold addN addKd at CA
  have e0 := addE_group hk p wt
  have hz := addK_zero (k := k) (q := gr - cntG k.l) (p := p) (wt := wt) (t := false)
  rw [e0] at CA hz
  unfold groupN groupK
  by_cases h0 : groupE gr k p wt = 0
  · have hz := hz h0
    rw [h0] at CA
    rw [h0,if_pos rfl,errV_0]
    simp only [if_true,errV_0] at CA ⊢
    have hl1 := hk.l1
    obtain ⟨q1,q2,-⟩ := cnt_add (l := k.l) (by omega) hz
    have HC := hid (show (th - (cntT k.l : Int) = th - cntT (addL k.l p (k.last + 1) wt false)) ∧ (gr - cntG k.l - 1 = gr - cntG (addL k.l p (k.last + 1) wt false)) by
      rw [q1,q2]; simp; omega)
    have CA := hid CA
    clear h hk hl e0 h0 hz hl1 q1 q2
    go_enter Tryz.func10,Tryz.ntmps10
    go_wp2_with fail
    (with_reducible refine (CA.out _ ext_by).mono ?_)
    rintro e w3 ⟨rfl,h3⟩
    have H3 := hid h3
    clear h3
    go_wp2
    go_returns
    exact ⟨rfl,(H3.out.ext ext_by).by HC.out.1 HC.out.2⟩
  · rw [if_neg h0,if_neg h0,errV_pos h0]
    simp only [h0,if_false] at CA
    rw [errV_pos h0] at CA
    have CA := hid CA
    clear h hk hl e0 hz
    generalize groupE gr k p wt = er at *
    clear h0
    go_enter Tryz.func10,Tryz.ntmps10
    go_wp2_with fail
    (with_reducible refine (CA.out _ ext_by).mono ?_)
    rintro e w3 ⟨rfl,h3⟩
    have H3 := hid h3
    clear h3
    go_wp2
    go_returns
    exact ⟨rfl,H3.out.ext ext_by⟩
theorem exit_s (h : PS w0 b th gr k A v w) (hk : KOk th gr k) (hl : k.last ≤ 1000000) (id : Int) :
    Calls Tryz.prog 12 #[.pointer (some ⟨b,0,none⟩),.int .i64 id] w fun e w' => e = .returned (errV (exitE k id)) ∧ PS w0 b th gr (exitK k id) A v w' := by
  refine (exit_any h hk hl (PS.rooms hk).1 id).mono fun e w' ⟨q,h'⟩ => ⟨q,h'.by ?_ ?_⟩
  all_goals
    by_cases h0 : exitE k id = 0
    · obtain ⟨r,hr⟩ : ∃ r,stU k.l id = some r := by
        cases hs : stU k.l id with
        | none => rw [exitE,if_pos hs] at h0; cases h0
        | some r => exact ⟨r,rfl⟩
      obtain ⟨q1,q2,-⟩ := cnt_rem hk.wf hr
      simp only [exitK,h0,if_true]
      omega
    · simp only [exitK,h0,if_false]
theorem sleep_s (h : PS w0 b th gr k A v w) (hk : KOk th gr k) (hl : k.last ≤ 1000000) (id u : Int) :
    Calls Tryz.prog 14 #[.pointer (some ⟨b,0,none⟩),.int .i64 id,.int .i64 u] w fun e w' => e = .returned (errV (rdyE k id)) ∧ PS w0 b th gr (sleepK k id u) A v w' :=
  (sleep_any h hk hl id u).mono fun e w' ⟨q,h'⟩ => ⟨q,h'.like (by unfold sleepK; split <;> first | exact kd_rdy _ _ _ | rfl)⟩
theorem wait_s (h : PS w0 b th gr k A v w) (hk : KOk th gr k) (hl : k.last ≤ 1000000) (id o : Int) :
    Calls Tryz.prog 16 #[.pointer (some ⟨b,0,none⟩),.int .i64 id,.int .i64 o] w fun e w' => e = .returned (.tuple #[.bool (waitA k id o).on,errV (waitA k id o).err]) ∧ PS w0 b th gr (waitK k id o) A v w' :=
  (wait_any h hk hl id o).mono fun e w' ⟨q,h'⟩ => ⟨q,h'.like (by unfold waitK; dsimp only; split <;> first | exact kd_rdy _ _ _ | rfl)⟩
theorem signal_s (h : PS w0 b th gr k A v w) (hk : KOk th gr k) (o : Int) :
    Calls Tryz.prog 18 #[.pointer (some ⟨b,0,none⟩),.int .i64 o] w fun e w' => e = .returned (errV (Ob.sigR o k.c k.W).err) ∧ PS w0 b th gr (signalK k o) A v w' :=
  (signal_any h hk.wf o).mono fun e w' ⟨q,h'⟩ => ⟨q,h'.like (by unfold signalK; dsimp only; split <;> first | exact kd_rdy _ _ _ | rfl)⟩
theorem run_s (h : PS w0 b th gr k A v w) (hk : KOk th gr k) :
    Calls Tryz.prog 25 #[.pointer (some ⟨b,0,none⟩)] w fun e w' => e = .returned (.tuple #[.int .i64 (runK k.l).1,.bool (runK k.l).2]) ∧ PS w0 b th gr (runK' k) A v w' :=
  (run_any h hk.wf).mono fun _ _ ⟨q,h'⟩ => ⟨q,h'.like (kd_sim (runL_sim k.l).s)⟩
theorem weight_s (h : PS w0 b th gr k A v w) (hk : KOk th gr k) (id wt : Int) :
    Calls Tryz.prog 20 #[.pointer (some ⟨b,0,none⟩),.int .i64 id,.int .i64 wt] w fun e w' => e = .returned (errV (wtK k.l id wt)) ∧ PS w0 b th gr (weightK k id wt) A v w' :=
  (weight_any h hk.wf id wt).mono fun _ _ ⟨q,h'⟩ => ⟨q,h'.like (kd_wt _ _ _)⟩
end
end Pk
end Go.Proofs.YtocicffmajbecaaGreatDoor
namespace Go.Proofs.YtocicffmajbecaaGreatDoor
open Go.RowKit
set_option maxRecDepth 100000
set_option linter.unusedSimpArgs false
section
variable {P : Program} {md : Region.Mode} {ops : Array Oper} {Q : Exit → Act → World → Prop} {S S' : World → Prop} {n k : Nat}
theorem wpAnyT_mono (h : ∀ w,S' w → S w) : ∀ (fuel : Nat) (listed : Array Bool) (a : Act) (w : World),wpAnyT P md ops Q S' n k fuel listed a w → wpAnyT P md ops Q S n k fuel listed a w
  | 0,_,_,_,q => q
  | fuel + 1,_,_,_,q => ⟨q.1,fun i hi => wpOp_mono (fun _ _ t => ⟨h _ t.1,wpAnyT_mono h fuel _ _ _ t.2⟩) (q.2 i hi)⟩
theorem wpT_hold (h : ∀ w,S' w → S w) {fuel : Nat} {listed : Array Bool} {a : Act} {w : World} (q : wpT P md ops Q S' n k fuel listed a w) : wpT P md ops Q S n k fuel listed a w := fun c => wpAnyT_mono h _ _ _ _ (q c)
end
namespace Pk
open Rw (En)
open Kn
set_option maxHeartbeats 1000000 in
theorem held_any (w : World) (n lo hi : Int) : Calls Tryz.prog 38 #[.int .i64 n,.int .i64 lo,.int .i64 hi] w (Yields w (.int .i64 (max lo (min n hi)))) := by
  go_enter Tryz.func38,Tryz.ntmps38
  go_wp2
  go_returns
  exact ⟨rfl,ext_by⟩
def kz : Kd := ⟨[rootN],[],fun _ => 0,fun _ => [],0⟩
abbrev kobj (v : Value) (T G : Int) : Obj := .cells #[v,.slice none 0 0,.map none,.int .i64 0,Ob.nilV,Ob.nilV,.int .i64 0,Ob.nilV,Ob.nilV,.int .i64 0,Ob.nilV,Ob.nilV,.int .i64 0,Ob.nilV,Ob.nilV,.map none,.int .i64 T,.int .i64 G,.int .i64 1] KT (0,0)
theorem pk_new {w0 w w1 w2 w6 : World} {x : Nat} {W : Wit} (hx0 : Ext w0 w) (x1 : Ext w w1) (h : Pt w1.heap.size (ownT x) W [rootN] w2) (hq : QOk W [rootN]) (x2 : Ext w1 w2) (x6 : Ext w2 w6) (T G : Int) :
    ∃ A,PK w0 w6.heap.size T G kz A (w6.alloc (kobj W.v T G)) ∧ Ext w (w6.alloc (kobj W.v T G)) ∧ ∀ i,A i → w.heap.size ≤ i := by
  have x7 : Ext w6 (w6.alloc (kobj W.v T G)) := Ext.alloc (Ext.refl _) _
  have hb := heap_alloc_new w6 (kobj W.v T G)
  have xw : Ext w (w6.alloc (kobj W.v T G)) := ((x1.trans x2).trans x6).trans x7
  have s6 : w.heap.size ≤ w6.heap.size := ((x1.trans x2).trans x6).size
  generalize w6.alloc (kobj W.v T G) = w7 at *
  generalize w6.heap.size = b at *
  have hF := Full.of hb rfl
  have xx := hx0.trans xw
  have s0 : w0.heap.size ≤ b := Nat.le_trans hx0.size s6
  have P1 : Pt w.heap.size (tS b _) W [rootN] w7 := ((h.ext (x6.trans x7)).lower x1.size).move (fun _ _ _ => rfl) (hF.at1 (d := 0) (by decide) (by simp [World.cell?,hb])) tyT s6
  have hM : Ti.Tm w0.heap.size (mS b _) (.slice none 0 0) (.map none) [] (.map []) w7 := ⟨hF.at2 (d := 1) (by decide) (by simp [World.cell?,hb]) (by simp [World.cell?,hb]),tyM,Rw.Row.nil _ _,.inl ⟨rfl,rfl⟩,s0⟩
  have hO : Ob.Obs w0.heap.size (oS b fun j => (#[W.v,.slice none 0 0,.map none,.int .i64 0,Ob.nilV,Ob.nilV,.int .i64 0,Ob.nilV,Ob.nilV,.int .i64 0,Ob.nilV,Ob.nilV,.int .i64 0,Ob.nilV,Ob.nilV,.map none,.int .i64 T,.int .i64 G,.int .i64 1][j]?).getD undef) (fun _ => 0) (fun _ => []) (.map none) (.map []) w7 := by
    refine ⟨⟨_,hb,⟨rfl,(by decide : 3 + 13 ≤ 19),tyO,fun j hj _ => ?_⟩,rfl,fun i hi => ?_⟩,fun i _ => trivial,List.nodup_nil,List.nodup_nil,fun e he => (by cases he),fun e he => (by cases he),.inl ⟨rfl,rfl⟩,Ob.Full.start,s0,fun i _ => ⟨by omega,by omega⟩⟩
    · obtain ⟨cs,q1,-,q3⟩ := hF
      injection Option.some.inj (q1.symm.trans hb) with e
      subst e
      exact q3 j hj
    · rcases Ob.four hi with rfl | rfl | rfl | rfl <;> exact ⟨rfl,rfl,rfl⟩
  have oM : ∀ i,Ti.Own (mS b fun j => (#[W.v,.slice none 0 0,.map none,.int .i64 0,Ob.nilV,Ob.nilV,.int .i64 0,Ob.nilV,Ob.nilV,.int .i64 0,Ob.nilV,Ob.nilV,.int .i64 0,Ob.nilV,Ob.nilV,.map none,.int .i64 T,.int .i64 G,.int .i64 1][j]?).getD undef) (.slice none 0 0) (.map none) i → i = b := by
    rintro i (q | q | q)
    · exact q
    · cases q
    · cases q
  have oO : ∀ i,Ob.Own (oS b fun j => (#[W.v,.slice none 0 0,.map none,.int .i64 0,Ob.nilV,Ob.nilV,.int .i64 0,Ob.nilV,Ob.nilV,.int .i64 0,Ob.nilV,Ob.nilV,.int .i64 0,Ob.nilV,Ob.nilV,.map none,.int .i64 T,.int .i64 G,.int .i64 1][j]?).getD undef) (.map none) (fun _ => []) i → i = b := by
    rintro i (q | q | ⟨e,he,-⟩)
    · exact q
    · cases q
    · cases he
  refine ⟨_,⟨_,_,_,_,⟨xx,s0,hF,⟨W,P1.lower hx0.size,hq,xx,rfl⟩,⟨xx,_,_,_,_,hM,⟨Ti.Heap.nil,Ti.Full.nil,List.nodup_nil,fun e he => by cases he⟩,List.Perm.refl _,rfl⟩,⟨xx,_,_,_,hO,fun _ _ => rfl,rfl⟩,⟨rfl,rfl,rfl⟩,fun i _ hm => oM i hm,fun i _ ho => oO i ho,fun i hm _ => oM i hm,⟨.inl rfl,.inl rfl,.inl rfl⟩⟩,rfl⟩,xw,?_⟩
  rintro i (q | q | q)
  · exact (P1.own_lt q).1
  · rw [oM i q]; exact s6
  · rw [oO i q]; exact s6
theorem kz_add {T : Int} (h : 1 ≤ T) : addE kz T 0 1 true = 0 := by
  unfold addE
  rw [if_neg (by decide),if_neg (by decide),if_neg (by omega)]
  decide
set_option maxHeartbeats 4000000 in
theorem new_any (w0 w : World) (hx0 : Ext w0 w) (threads groups : Int) :
    Calls Tryz.prog 5 #[.int .i64 threads,.int .i64 groups] w fun e w' => ∃ b A,e = .returned (.pointer (some ⟨b,0,none⟩)) ∧
      PK w0 b (max 1 (min threads 8) - cntT k0.l) (max 0 (min groups 4) - cntG k0.l) k0 A w' ∧ Ext w w' ∧ ∀ i,A i → w.heap.size ≤ i := by
  go_enter Tryz.func5,Tryz.ntmps5
  go_wp2_with fail
  refine wp_region_T 14 2 (fun u => Ext w u) (by kernel_rfl) (by kernel_rfl) ?_
  have hT1 : 1 ≤ max 1 (min threads 8) := by omega
  have hT8 : max 1 (min threads 8) ≤ 8 := by omega
  have HSS : Ext w w.drew := Ext.drew (Ext.refl w)
  generalize w.drew = w1 at *
  refine wpT_tk 9 HSS ?_; (try simp only [nrm])
  refine wpT_tk 11 HSS ?_; (try simp only [nrm])
  refine wpT_on 0 (fun K' hK => ?_); go_simp
  (with_reducible refine (newT_any w1).mono ?_)
  rintro e w2 ⟨x,W,rfl,hP,hQ,hx⟩
  have hb := hP.lt
  have c0 := hP.cell
  have HP := hid hP
  have HQ := hid hQ
  have HX1 := hid hx
  have HSS0 := HSS
  refine hK.out _ _ (HSS.trans hx) ?_
  refine wpT_hold (S' := fun u => Ext w2 u) (fun u hu => (HSS.trans hx).trans hu) ?_
  have HSS : Ext w2 w2 := Ext.refl w2
  clear hK K' hP hQ hx
  (try simp only [nrm])
  refine wpT_tk 1 HSS ?_; (try simp only [nrm])
  refine wpT_take 2 (v := .agg #[W.v]) rfl (by kernel_rfl) (by kernel_rfl) (by kernel_rfl) (by kernel_rfl) (by intro _ _ _ h; first | exact h | (obtain ⟨h,_⟩ := h; cases h)) (by rfl) HSS ?hy2 ?_
  case hy2 =>
    intro u hu
    have d0 := hu.cell c0
    go_simp
  (try simp only [nrm])
  refine wpT_on 3 (fun K' hK => ?_); go_simp
  (with_reducible refine (Ti.new_any w2).mono ?_)
  rintro e w3 ⟨rfl,hT,hx⟩
  have HT := hid hT
  obtain ⟨c1,c2,-,-⟩ := hT.cells
  have hb3 := hT.lt
  have HX2 := hid hx
  have d0 := hx.cell c0
  refine hK.out _ _ (HSS.trans hx) ?_
  refine wpT_hold (S' := fun u => Ext w3 u) (fun u hu => (HSS.trans hx).trans hu) ?_
  have HSS : Ext w3 w3 := Ext.refl w3
  clear hK K' hT hx
  (try simp only [nrm])
  refine wpT_tk 4 HSS ?_; (try simp only [nrm])
  refine wpT_take 5 (v := .agg #[.slice none 0 0,.map none]) rfl (by kernel_rfl) (by kernel_rfl) (by kernel_rfl) (by kernel_rfl) (by intro _ _ _ h; first | exact h | (obtain ⟨h,_⟩ := h; cases h)) (by rfl) HSS ?hy5 ?_
  case hy5 =>
    intro u hu
    have d1 := hu.cell c1
    have d2 := hu.cell c2
    go_simp
  (try simp only [nrm])
  refine wpT_on 6 (fun K' hK => ?_); go_simp
  (with_reducible refine (Ob.new_any w3).mono ?_)
  rintro e w4 ⟨rfl,hO,hx⟩
  have o0 : w4.cell? ⟨w3.heap.size,0,none⟩ = some (.int .i64 0) := (hO.at'.cell (i := 0) (by omega)).1
  have o1 : w4.cell? ⟨w3.heap.size,1,none⟩ = some Ob.nilV := (hO.at'.cell (i := 0) (by omega)).2.1
  have o2 : w4.cell? ⟨w3.heap.size,2,none⟩ = some Ob.nilV := (hO.at'.cell (i := 0) (by omega)).2.2
  have o3 : w4.cell? ⟨w3.heap.size,3,none⟩ = some (.int .i64 0) := (hO.at'.cell (i := 1) (by omega)).1
  have o4 : w4.cell? ⟨w3.heap.size,4,none⟩ = some Ob.nilV := (hO.at'.cell (i := 1) (by omega)).2.1
  have o5 : w4.cell? ⟨w3.heap.size,5,none⟩ = some Ob.nilV := (hO.at'.cell (i := 1) (by omega)).2.2
  have o6 : w4.cell? ⟨w3.heap.size,6,none⟩ = some (.int .i64 0) := (hO.at'.cell (i := 2) (by omega)).1
  have o7 : w4.cell? ⟨w3.heap.size,7,none⟩ = some Ob.nilV := (hO.at'.cell (i := 2) (by omega)).2.1
  have o8 : w4.cell? ⟨w3.heap.size,8,none⟩ = some Ob.nilV := (hO.at'.cell (i := 2) (by omega)).2.2
  have o9 : w4.cell? ⟨w3.heap.size,9,none⟩ = some (.int .i64 0) := (hO.at'.cell (i := 3) (by omega)).1
  have o10 : w4.cell? ⟨w3.heap.size,10,none⟩ = some Ob.nilV := (hO.at'.cell (i := 3) (by omega)).2.1
  have o11 : w4.cell? ⟨w3.heap.size,11,none⟩ = some Ob.nilV := (hO.at'.cell (i := 3) (by omega)).2.2
  have o12 : w4.cell? ⟨w3.heap.size,12,none⟩ = some (.map none) := hO.at'.map
  have hb4 := hO.lt
  have HO := hid hO
  have HX3 := hid hx
  refine hK.out _ _ (HSS.trans hx) ?_
  refine wpT_hold (S' := fun u => Ext w4 u) (fun u hu => (HSS.trans hx).trans hu) ?_
  have HSS : Ext w4 w4 := Ext.refl w4
  clear hK K' hO hx
  (try simp only [nrm])
  refine wpT_tk 7 HSS ?_; (try simp only [nrm])
  refine wpT_take 8 (v := .agg #[.int .i64 0,Ob.nilV,Ob.nilV,.int .i64 0,Ob.nilV,Ob.nilV,.int .i64 0,Ob.nilV,Ob.nilV,.int .i64 0,Ob.nilV,Ob.nilV,.map none]) rfl (by kernel_rfl) (by kernel_rfl) (by kernel_rfl) (by kernel_rfl) (by intro _ _ _ h; first | exact h | (obtain ⟨h,_⟩ := h; cases h)) (by rfl) HSS ?hy8 ?_
  case hy8 =>
    intro u hu
    have q0 := hu.cell o0
    have q1 := hu.cell o1
    have q2 := hu.cell o2
    have q3 := hu.cell o3
    have q4 := hu.cell o4
    have q5 := hu.cell o5
    have q6 := hu.cell o6
    have q7 := hu.cell o7
    have q8 := hu.cell o8
    have q9 := hu.cell o9
    have q10 := hu.cell o10
    have q11 := hu.cell o11
    have q12 := hu.cell o12
    go_simp
  clear o0 o1 o2 o3 o4 o5 o6 o7 o8 o9 o10 o11 o12
  (try simp only [nrm])
  refine wpT_on 10 (fun K' hK => ?_); go_simp
  (with_reducible refine (held_any w4 threads 1 8).mono ?_)
  rintro e w5 ⟨rfl,hx⟩
  refine hK.out _ _ (HSS.trans hx) ?_
  have HSS5 : Ext w4 w5 := hx
  clear hK K' hx HSS
  have HSS := HSS5
  clear HSS5
  (try simp only [nrm])
  refine wpT_on 12 (fun K' hK => ?_); go_simp
  (with_reducible refine (held_any w5 groups 0 4).mono ?_)
  rintro e w6 ⟨rfl,hx⟩
  refine hK.out _ _ (HSS.trans hx) ?_
  have HSS5 : Ext w4 w6 := HSS.trans hx
  clear hK K' hx HSS
  have HSS := HSS5
  clear HSS5
  (try simp only [nrm])
  generalize hT : max 1 (min threads 8) = T at *
  generalize hG : max 0 (min groups 4) = G at *
  have HT' := hid hT
  have HG' := hid hG
  clear hT hG
  refine wpT_take 13 (v := .agg #[W.v,.slice none 0 0,.map none,.int .i64 0,Ob.nilV,Ob.nilV,.int .i64 0,Ob.nilV,Ob.nilV,.int .i64 0,Ob.nilV,Ob.nilV,.int .i64 0,Ob.nilV,Ob.nilV,.map none,.int .i64 T,.int .i64 G,.int .i64 1]) rfl (by kernel_rfl) (by kernel_rfl) (by kernel_rfl) (by kernel_rfl) (by intro _ _ _ h; first | exact h | (obtain ⟨h,_⟩ := h; cases h)) (by rfl) HSS ?hy13 ?_
  case hy13 => (intro u hu; go_simp; first | done | (with_reducible rfl))
  (try simp only [nrm])
  refine wpT_done (by kernel_rfl) ?_
  refine wpAny_on 14 (fun K' hK => ?_); go_simp
  refine hK.out _ _ ?_
  (try simp only [nrm])
  refine wpAny_tk 15 ?_; (try simp only [nrm])
  refine wpAny_done (by kernel_rfl) ?_ _
  obtain ⟨A,h7,x7,hA⟩ := pk_new hx0 HSS0 HP.out HQ.out HX1.out ((HX2.out.trans HX3.out).trans HSS) T G
  have hb7 := h7.lt
  have hsz : w6.heap.size < (w6.alloc (kobj W.v T G)).heap.size := hb7
  have CS := hid (spawn_g h7.start rootN_wf (Int.le_refl _) (by decide) ⟨by omega,by omega⟩ 0 1)
  have HA := hid hA
  have HX7 := hid x7
  generalize w6.alloc (kobj W.v T G) = w7 at *
  generalize w6.heap.size = b at *
  clear HP HQ HX1 HX2 HX3 HSS HSS0 h7 hA x7
  rw [kz_add hT1] at CS
  simp only [if_true] at CS
  go_wp2_with fail
  (with_reducible refine CS.out.mono ?_)
  rintro e w8 ⟨rfl,C,h8,m8⟩
  have X8 := hid (m8.xt HX7.out HA.out)
  have H8 := hid h8
  have HC : Hid (∀ i,C i → w.heap.size ≤ i) := fun i hi => by
    rcases m8.own i hi with q | q
    · exact HA.out i q
    · exact Nat.le_trans HX7.out.size q
  clear h8 m8
  go_wp2
  go_returns
  have e1 : cntT k0.l = 1 := by decide
  have e2 : cntG k0.l = 0 := by decide
  rw [e1,e2,HT'.out,HG'.out]
  refine ⟨b,C,rfl,?_,X8.out.trans ext_by,HC.out⟩
  have := H8.out.ext (w' := _) (ext_by : Ext w8 _)
  rw [show ((0 : Nat) : Int) = 0 from rfl,Int.sub_zero]
  exact this
end Pk
end Go.Proofs.YtocicffmajbecaaGreatDoor
namespace Go.Proofs.YtocicffmajbecaaGreatDoor
open Go.RowKit
set_option maxRecDepth 100000
set_option linter.unusedSimpArgs false
namespace Pk
open Rw (En)
open Kn
theorem grownExt {w w1 w2 : World} {b : Option Nat} (h : Ext w w1) (k : w1.grownBy w2 b) (hb : ∀ i,b = some i → w.heap.size ≤ i) : Ext w w2 :=
  ⟨k.os.trans h.below.os,k.tape.trans h.below.tape,k.output.trans h.below.output,Nat.le_trans h.size k.size,fun i hi => (k.block i (Nat.lt_of_lt_of_le hi h.size) fun e => by
    have := hb i e.symm; omega).trans (h.below.block i hi)⟩
structure ThI (w : World) (l : List Nd) (i : Nat) (vd : Value) (wr : World) : Prop where
  xt : Ext w wr
  row : wr.ownsRow w.heap.size 3 1 vd (tids (l.take i)).length ((tids (l.take i)).map fun k => .int .i64 k)
section
variable {w0 v w w' wr w2 z : World} {b : Nat} {a g th gr : Int} {k : Kd} {A : Nat → Prop}
theorem ThI.push {l : List Nd} {i : Nat} {vd vd' : Value} {wr1 : World} (h : ThI w l i vd wr) (x : Ext wr wr1) (g : wr1.grownBy w2 vd.ownBlock) {n : Nd} (hs : tids (l.take (i + 1)) = tids (l.take i) ++ [n.id])
    (ho : w2.ownsRow w.heap.size 3 1 vd' ((tids (l.take i)).length + 1) (((tids (l.take i)).map fun k => .int .i64 k) ++ [.int .i64 n.id])) : ThI w l (i + 1) vd' w2 := by
  refine ⟨grownExt (h.xt.trans x) g fun i hi => (owns_below h.row i hi).1,?_⟩
  rw [hs,List.length_append,List.map_append]
  exact ho
set_option maxHeartbeats 4000000 in
theorem threads_any (h : PG w0 b a g k A v w) (hw : Wf k.l) :
    Calls Tryz.prog 29 #[.pointer (some ⟨b,0,none⟩)] w fun e w' => ∃ vd,e = .returned vd ∧ Ext w w' ∧ w'.ownsRow w.heap.size 3 1 vd (tids k.l).length ((tids k.l).map fun k => .int .i64 k) := by
  have CN := hid (fun w' (hx : Ext w w') => p_nodes (h.ext hx) hw)
  have hb := h.lt
  have hlen := hw.sk.len
  obtain ⟨i0,hi0,hz0,hz1,hz2⟩ := info_parts infoI
  clear h hw
  generalize k.l = l at *
  go_enter Tryz.func29,Tryz.ntmps29
  go_wp2_with fail
  (with_reducible refine (CN.out _ ext_by).mono ?_)
  rintro e w1 ⟨vn,rfl,hx1,hn,-⟩
  obtain ⟨p,cap,rfl,hc1,hc2⟩ := hn.shape
  have HN := hid hn
  have HX1 := hid hx1
  rw [List.length_map] at hc1
  unfold maxLen at hc2
  clear hn hx1
  rw [List.length_map]
  go_wp2_with fail
  go_loopw [3,11] (fun vd s wr => ∃ i : Nat,s = .int .i64 i ∧ i ≤ l.length ∧ Hid (ThI w1 l i vd wr)) (fun _ s _ => (l.length - (intOf s).toNat))
  case atStart => exact ⟨0,rfl,Nat.zero_le _,⟨Ext.refl _,World.ownsRow_nil _ _ _ _⟩⟩
  case round =>
    obtain ⟨i,rfl,hi,I⟩ := hrel
    have X := I.out.xt
    by_cases hlt : i < l.length
    · obtain ⟨g,off,rfl,e0,e1,e2,e3,e4,e5⟩ := HN.out.at i (by simpa using hlt)
      rw [List.getElem_map] at e0 e1 e2 e3 e4 e5
      simp only [Nd.nn] at e0 e1 e2 e3 e4 e5
      have f0 := X.cell e0
      have f1 := X.cell e1
      have f2 := X.cell e2
      have f3 := X.cell e3
      have f4 := X.cell e4
      have f5 := X.cell e5
      clear e0 e1 e2 e3 e4 e5
      have HS := hid (tids_step hlt)
      have HTL := hid (tids_len l i)
      have HXS := hid X.size
      have i1 : (i : Int) < l.length := by omega
      generalize l[i] = n at *
      obtain ⟨n0,n1,n2,n3,n4,n5,n6⟩ := n
      cases n4
      · have HT : Hid (tids (l.take (i + 1)) = tids (l.take i)) := by have := HS.out; exact hid (by simpa using this)
        go_wp2
        go_roundw
        case rel => exact ⟨i + 1,by go_num,by omega,⟨I.out.xt.trans ext_by,by rw [HT.out]; exact owns_ext I.out.row ext_by⟩⟩
        case measure => simp [intOf]; omega
      · have HT : Hid (tids (l.take (i + 1)) = tids (l.take i) ++ [n0]) := by have := HS.out; exact hid (by simpa using this)
        have q3 : (wr.alloc (.cells #[.int .i64 n0,.int .i64 n1,.int .i64 n2,.int .i64 n3,.bool true,.bool n5] 101 (0,0))).heap.size = wr.heap.size + 1 := by simp
        have c9 : ∀ j u,[Value.int .i64 n0][j]? = some u → ((wr.alloc (.cells #[.int .i64 n0,.int .i64 n1,.int .i64 n2,.int .i64 n3,.bool true,.bool n5] 101 (0,0))).alloc (.cells #[.int .i64 n0] 3 (0,0))).cell? ((⟨wr.heap.size + 1,0,none⟩ : Addr).add j) = some u := fun j u hj => by
          have h9 := cell_one_new (wr.alloc (.cells #[.int .i64 n0,.int .i64 n1,.int .i64 n2,.int .i64 n3,.bool true,.bool n5] 101 (0,0))) (.int .i64 n0) 3 j u hj
          rw [q3] at h9
          exact h9
        have C9 := hid c9
        clear HS X q3 c9
        go_wp2_with (at_builtin; refine wpList_append_own_at _ rfl _ _ 50 rfl w1.heap.size 3 i0 (.int .i64 0) 1 8 Tryz.underlying50 hi0 hz0 hz1 hz2 rfl (by decide) _ _ _ rfl (owns_ext I.out.row ext_by) ⟨wr.heap.size + 1,0,none⟩ 1 1 [.int .i64 n0] rfl rfl C9.out (ints_oneCell .i64 [n0]) (by unfold maxLen; have := HTL.out; omega) (by have := HTL.out; omega) (by have := HXS.out; simp; omega) ?_; intro vd' w2 hown' hgrow hnil hloc; have H2 := hid (I.out.push (n := ⟨n0,n1,n2,n3,true,n5,n6⟩) ext_by hgrow HT.out hown'); clear hnil hloc hgrow hown')
        go_roundw
        case rel => exact ⟨i + 1,by go_num,by omega,H2⟩
        case measure => simp [intOf]; omega
    · have he : i = l.length := by omega
      have hrow := I.out.row
      rw [he,List.take_length] at hrow
      have HR := hid (owns_base hrow HX1.out.size)
      have HX := hid (HX1.out.trans X)
      clear hrow X I
      go_wp2
      go_returns
      exact ⟨_,rfl,HX.out,HR.out⟩
end
end Pk
end Go.Proofs.YtocicffmajbecaaGreatDoor
namespace Go.Proofs.YtocicffmajbecaaGreatDoor
open Go.RowKit
set_option maxRecDepth 100000
set_option linter.unusedSimpArgs false
namespace Pk
open Rw (En)
open Kn
theorem wakes_wf : ∀ (is : List Int) {l : List Nd},Wf l → Wf (wakes l is)
  | [],_,h => h
  | i :: is,_,h => wakes_wf is (h.rdyL i true)
theorem wakes_next (l : List Nd) (ds : List Int) {i : Nat} {d : Int} (h : ds[i]? = some d) : wakes l (ds.take (i + 1)) = rdyL (wakes l (ds.take i)) d true := by
  obtain ⟨hi,e⟩ := List.getElem?_eq_some_iff.1 h
  unfold wakes
  rw [List.take_succ_eq_append_getElem hi,List.foldl_append,e]
  rfl
def ks (k : Kd) (tick : Int) (i : Nat) : Kd := { k with l := wakes k.l ((Ti.dueIds tick k.M).take i),M := Ti.sleepOn tick k.M }
def WkI (w0 : World) (b : Nat) (a g : Int) (k : Kd) (A : Nat → Prop) (v : World) (tick : Int) (w : World) (i : Nat) (vd : Value) (wr : World) : Prop :=
  ∃ B,PK w0 b a g (ks k tick i) B wr ∧ Mvp A B v wr ∧ (∀ j,vd.ownBlock = some j → ¬ B j) ∧ wr.ownsRow w.heap.size 3 1 vd (Ti.dueIds tick k.M).length ((Ti.dueIds tick k.M).map fun i => .int .i64 i)
def Rest (vd u : Value) (n i : Nat) : Prop := ∃ q c,u = .slice q (n - i) c ∧ (i < n → ∃ g cap,vd = .slice (some ⟨g,0,none⟩) n cap ∧ q = some ⟨g,i,none⟩ ∧ c = cap - i ∧ n ≤ cap)
theorem Rest.next {vd u : Value} {n i : Nat} (h : Rest vd u n i) (hi : i < n) : ∃ u',(∀ w,(Instr.slice 50 u (some (.int .i64 1)) none none).run Tryz.prog w = .ok u' w) ∧ Rest vd u' n (i + 1) := by
  obtain ⟨q,c,rfl,h⟩ := h
  obtain ⟨g,cap,e1,rfl,rfl,h2⟩ := h hi
  have hs : ∀ w : World,(sizeOf (Tryz.prog.elem 50)).run Tryz.prog w = .ok 1 w := fun w => by kernel_rfl
  refine ⟨sliced (some ⟨g,i,none⟩) 1 (n - i) (cap - i) 1,fun w => ?_,?_⟩
  · rw [run_slice_l w 50 (some ⟨g,i,none⟩) (n - i) (cap - i) Tryz.underlying50 .i64 1 (by omega) (by omega),hs]
    rfl
  · refine ⟨_,_,by unfold sliced; rw [show n - i - 1 = n - (i + 1) by omega],fun h3 => ⟨g,cap,e1,?_,by omega,h2⟩⟩
    rw [if_neg (by omega)]
    simp [add_add]
section
variable {w0 v w w' wr z : World} {b : Nat} {a g th gr : Int} {k : Kd} {A : Nat → Prop} {tick : Int} {i : Nat} {vd : Value}
theorem WkI.ext (h : WkI w0 b a g k A v tick w i vd wr) (e : Ext wr z) : WkI w0 b a g k A v tick w i vd z := by
  obtain ⟨B,h1,h2,h3,h4⟩ := h
  exact ⟨B,h1.ext e,h2.ext e,h3,owns_keep h4 fun g hg => e.below.block g (owns_below h4 g hg).2⟩
theorem WkI.lt (h : WkI w0 b a g k A v tick w i vd wr) : b < wr.heap.size := by
  obtain ⟨B,h1,-⟩ := h
  exact h1.lt
theorem WkI.step (h : WkI w0 b a g k A v tick w i vd z) (hw : Wf k.l) {d : Int} (hd : (Ti.dueIds tick k.M)[i]? = some d) :
    Calls Tryz.prog 43 #[.pointer (some ⟨b,0,none⟩),.int .i64 d,.bool true] z fun e w' => (∃ r,e = .returned r) ∧ WkI w0 b a g k A v tick w (i + 1) vd w' := by
  obtain ⟨B,h1,h2,h3,h4⟩ := h
  refine (p_rdy h1.start (wakes_wf _ hw) d true).mono fun e w' ⟨q,C,r,m⟩ => ⟨⟨_,q⟩,C,?_,h2.trans m,fun g hg hO => ?_,owns_keep h4 fun g hg => m.block g (owns_below h4 g hg).2 (h3 g hg)⟩
  · have e1 : ks k tick (i + 1) = { ks k tick i with l := rdyL (ks k tick i).l d true } := by
      unfold ks
      rw [wakes_next _ _ hd]
    rw [e1]; exact r
  · rcases m.own g hO with e1 | e1
    · exact h3 g hg e1
    · have := (owns_below h4 g hg).2
      omega
def WkJ (w0 : World) (b : Nat) (a g : Int) (k : Kd) (A : Nat → Prop) (v : World) (tick : Int) (w : World) (n : Nat) (a' : Act) (w' : World) : Prop :=
  ∃ (vd u : Value) (u2 u3 u4 u7 u8 u9 u10 u11 u12 u13 u14 u15 u16 u17 u18 u19 u20 u21 u22 u23 u24 u25 : Value),a' = { tmps := #[.pointer (some ⟨b,0,none⟩),.int .i64 tick,u2,u3,u4,vd,u,u7,u8,u9,u10,u11,u12,u13,u14,u15,u16,u17,u18,u19,u20,u21,u22,u23,u24,u25],defers := [] } ∧ ∃ i,i ≤ n ∧ n = (Ti.dueIds tick k.M).length ∧ Rest vd u n i ∧ WkI w0 b a g k A v tick w i vd w'
def lenOf : Value → Nat
  | .slice _ n _ => n
  | _ => 0
set_option maxHeartbeats 8000000 in
theorem wake_any (h : PG w0 b a g k A v w) (hk : KOk th gr k) (tick : Int) :
    Calls Tryz.prog 23 #[.pointer (some ⟨b,0,none⟩),.int .i64 tick] w fun e w' => ∃ vd,e = .returned vd ∧ PG w0 b a g (wakeK k tick) A v w' ∧
      w'.ownsRow w.heap.size 3 1 vd (Ti.dueIds tick k.M).length ((Ti.dueIds tick k.M).map fun i => .int .i64 i) := by
  have CD := hid (p_due h (h.few hk) tick)
  have hb := h.lt
  have HW := hid hk.wf
  have hlen : (Ti.dueIds tick k.M).length ≤ 60 := by
    have h1 := Ti.dueIds_length tick k.M
    have h2 := h.few hk
    omega
  have HF := hid (fun vd wr (q : WkI w0 b a g k A v tick w (Ti.dueIds tick k.M).length vd wr) => (show PG w0 b a g (wakeK k tick) A v wr ∧ wr.ownsRow w.heap.size 3 1 vd (Ti.dueIds tick k.M).length ((Ti.dueIds tick k.M).map fun i => .int .i64 i) from by
    obtain ⟨B,h1,h2,_,h4⟩ := q
    have e : ks k tick (Ti.dueIds tick k.M).length = wakeK k tick := by unfold ks wakeK; rw [List.take_length]
    rw [e] at h1
    exact ⟨⟨_,h1,h2⟩,h4⟩))
  have HL := hid hlen
  clear h hk hlen
  obtain ⟨n,hn⟩ : ∃ n,n = (Ti.dueIds tick k.M).length := ⟨_,rfl⟩
  have HN := hid hn
  have HL2 : Hid (n ≤ 60) := by rw [hn]; exact HL.out
  clear hn HL
  go_enter Tryz.func23,Tryz.ntmps23
  go_wp2_with fail
  refine wp_goto 0 (WkJ w0 b a g k A v tick w n) (fun a' _ => lenOf (a'.tmps.getD 6 undef)) rfl ?_ ?_
  · refine fun a' w1 => ex_elim fun vd => ex_elim fun u => ex8 fun u2 u3 u4 u7 u8 u9 u10 u11 => ex8 fun u12 u13 u14 u15 u16 u17 u18 u19 => ex4 fun u20 u21 u22 u23 => ex2 fun u24 u25 => ?_
    rintro ⟨rfl,i,hi,-,hR,hI⟩
    have HI := hid hI
    have hb1 := hI.lt
    clear hI
    by_cases hlt : i < n
    · obtain ⟨d,hd⟩ : ∃ d,(Ti.dueIds tick k.M)[i]? = some d := ⟨_,List.getElem?_eq_getElem (by rw [← HN.out]; exact hlt)⟩
      obtain ⟨u',hu',hR'⟩ := hR.next hlt
      obtain ⟨q,c,rfl,hq⟩ := hR
      obtain ⟨gg,cap,rfl,rfl,rfl,hcap⟩ := hq hlt
      have hcell : w1.cell? ⟨gg,i,none⟩ = some (.int .i64 d) := by
        obtain ⟨B,-,-,-,h4⟩ := HI.out
        rcases h4.2 with ⟨e,_⟩ | ⟨g',cap',cur,e1,e2,e3,e4,e5,e6,e7⟩
        · cases e
        · injection e1 with e1 _ _
          injection e1 with e1
          injection e1 with e1
          subst e1
          have : ((Ti.dueIds tick k.M).map fun k => Value.int .i64 k)[i]? = some (.int .i64 d) := by rw [List.getElem?_map,hd]; rfl
          rw [← e7,List.getElem?_take,if_pos (by rw [← HN.out]; omega)] at this
          simp only [World.cell?,e3]
          simpa using this
      have HR' := hid hR'
      have HC := hid hcap
      have i1 : 0 < n - i := by omega
      have HNI := hid (And.intro hlt hi)
      have X3 : Ext w1 w1.drew := Ext.drew (Ext.refl _)
      have I3 := hid (HI.out.ext X3)
      have HSS : w1.drew.cell? ⟨gg,i,none⟩ = some (.int .i64 d) := X3.cell hcell
      clear hR' hcap hlt hi hq hcell HI
      obtain ⟨r,hr⟩ : ∃ r,r = n - i := ⟨_,rfl⟩
      have HRr := hid hr
      rw [← hr] at i1 hu' ⊢
      obtain ⟨cc,hcc⟩ : ∃ cc,cc = cap - i := ⟨_,rfl⟩
      have HCC := hid hcc
      rw [← hcc] at hu' ⊢
      clear hr hcc
      have i2 : (0 : Int) < (r : Int) := by omega
      go_wp2
      refine wp_region_T 6 1 (fun u => u.cell? ⟨gg,i,none⟩ = some (.int .i64 d)) (by kernel_rfl) (by kernel_rfl) ?_
      generalize w1.drew = z3 at *
      refine wpT_tk 0 HSS ?_; (try simp only [nrm])
      refine wpT_tk 1 HSS ?_; (try simp only [nrm])
      refine wpT_tk 2 HSS ?_; (try simp only [nrm])
      refine wpT_tk 3 HSS ?_; (try simp only [nrm])
      refine wpT_tk 4 HSS ?_; (try simp only [nrm])
      refine wpT_tk 5 HSS ?_; (try simp only [nrm])
      refine wpT_done (by kernel_rfl) ?_
      refine wpAny_on 6 (fun K' hK => ?_); go_simp
      (with_reducible refine (I3.out.step HW.out hd).mono ?_)
      rintro e w4 ⟨⟨r,rfl⟩,I4⟩
      refine hK.out _ _ ?_
      clear hK K'
      refine wpAny_done (by kernel_rfl) ?_ _
      (try simp only [nrm])
      have hb4 := I4.lt
      have HI4 := hid I4
      clear I4 HSS X3
      go_wp2
      go_step3
      simp only [Exit.then]
      refine ⟨rfl,⟨_,u',_,_,_,_,_,_,_,_,_,_,_,_,_,_,_,_,_,_,_,_,_,_,rfl,i + 1,by have := HNI.out; omega,HN.out,HR'.out,HI4.out⟩,?_⟩
      obtain ⟨q9,c9,e9,-⟩ := HR'.out
      have h9 := HRr.out
      have h8 := HNI.out
      subst e9
      simp [lenOf]
      omega
    · have he : n - i = 0 := by omega
      have hi2 : i = n := by omega
      obtain ⟨q,c,rfl,-⟩ := hR
      rw [he]
      subst hi2
      have HFI := hid (HF.out vd w1 (by rw [← HN.out]; exact HI.out))
      clear he HI hi hlt
      go_wp2
      simp only [Exit.jump]
      go_ret
      exact ⟨_,rfl,HFI.out⟩
  · intro start
    have Start := hid start
    clear start
    go_wp2_with (go_at_call 68; (with_reducible refine CD.out.mono ?_); rintro e w2 ⟨vd,rfl,⟨B,h2,m2,f2⟩,o2⟩; have I0 : Hid (WkI w0 b a g k A v tick w 0 vd w2) := ⟨B,h2,m2,f2,o2⟩; have hb2 := h2.lt; clear h2 m2 f2)
    have hR0 : Rest vd vd n 0 := by
      rcases o2.2 with ⟨e,e0⟩ | ⟨g',cap',cur,e1,e2,e3,e4,e5,e6,e7⟩
      · refine ⟨none,0,by rw [e,HN.out,e0],fun h => ?_⟩
        rw [HN.out,e0] at h
        exact absurd h (Nat.lt_irrefl _)
      · exact ⟨_,_,by rw [e1,HN.out]; rfl,fun _ => ⟨g',_,by rw [e1,HN.out],rfl,rfl,by rw [HN.out]; exact e4⟩⟩
    have HR0 := hid hR0
    clear hR0 o2
    go_step3
    simp only [Exit.then]
    refine ‹∀ (a : Act) (w : World),Code.wp _ _ _ a w → _› _ _ ?_
    exact Start.out _ _ ⟨vd,vd,_,_,_,_,_,_,_,_,_,_,_,_,_,_,_,_,_,_,_,_,_,_,rfl,0,Nat.zero_le _,HN.out,HR0.out,I0.out⟩
end
end Pk
end Go.Proofs.YtocicffmajbecaaGreatDoor
namespace Go.Proofs.YtocicffmajbecaaGreatDoor
open Go.RowKit
set_option maxRecDepth 100000
set_option linter.unusedSimpArgs false
namespace Pk
open Rw (En)
open Kn
def S (w0 : World) (b : Nat) (th gr : Int) (k : Kd) (w : World) : Prop := KOk th gr k ∧ ∃ B,PK w0 b (th - cntT k.l) (gr - cntG k.l) k B w
section
variable {w0 v w w' : World} {b : Nat} {th gr : Int} {k k' : Kd} {A : Nat → Prop}
theorem S.ok (h : S w0 b th gr k w) : KOk th gr k := h.1
theorem S.xt (h : S w0 b th gr k w) : Ext w0 w := by obtain ⟨_,B,h⟩ := h; exact h.xt
theorem S.lt (h : S w0 b th gr k w) : b < w.heap.size := by obtain ⟨_,B,h⟩ := h; exact h.lt
theorem S.ext (h : S w0 b th gr k w) (e : Ext w w') : S w0 b th gr k w' := by
  obtain ⟨h0,B,h⟩ := h
  exact ⟨h0,B,h.ext e⟩
theorem S.ps (h : S w0 b th gr k w) : ∃ B,PS w0 b th gr k B w w := by
  obtain ⟨h0,B,h⟩ := h
  exact ⟨B,h.start⟩
theorem S.of (hk : KOk th gr k) (h : PS w0 b th gr k A v w) : S w0 b th gr k w := by
  obtain ⟨B,h,-⟩ := h
  exact ⟨hk,B,h⟩
theorem k_new (w0 w : World) (hx : Ext w0 w) (T G : Int) :
    Calls Tryz.prog 5 #[.int .i64 T,.int .i64 G] w fun e w' => ∃ b,e = .returned (.pointer (some ⟨b,0,none⟩)) ∧ S w0 b (max 1 (min T 8)) (max 0 (min G 4)) k0 w' ∧ Ext w w' :=
  (new_any w0 w hx T G).mono fun _ _ ⟨b,A,q,h,x,_⟩ => ⟨b,q,⟨k0_ok _ _ (by omega) (by omega),A,h⟩,x⟩
theorem k_spawn (h : S w0 b th gr k w) (hl : k.last ≤ 1000000) {p wt : Int} {k' : Kd} {n : Int} {er : Nat} (e1 : spawnN th k p wt = n) (e2 : spawnE th k p wt = er) (e3 : spawnK th k p wt = k') :
    Calls Tryz.prog 7 #[.pointer (some ⟨b,0,none⟩),.int .i64 p,.int .i64 wt] w fun e w' => e = .returned (.tuple #[.int .i64 n,errV er]) ∧ S w0 b th gr k' w' := by
  subst e1 e2 e3
  obtain ⟨B,hp⟩ := h.ps
  exact (spawn_s hp h.1 hl p wt).mono fun _ _ ⟨q,h'⟩ => ⟨q,S.of (h.1.spawn p wt) h'⟩
theorem spawn_ok (h : S w0 b th gr k w) (hl : k.last ≤ 1000000) {p wt : Int} {k' : Kd} {n : Int} (e2 : spawnE th k p wt = 0) (e1 : k.last + 1 = n) (e3 : spawnK th k p wt = k') :
    Calls Tryz.prog 7 #[.pointer (some ⟨b,0,none⟩),.int .i64 p,.int .i64 wt] w fun e w' => e = .returned (.tuple #[.int .i64 n,.nilIface]) ∧ S w0 b th gr k' w' :=
  k_spawn h hl (by unfold spawnN; rw [if_pos e2]; exact e1) e2 e3
theorem spawn_er (h : S w0 b th gr k w) (hl : k.last ≤ 1000000) {p wt : Int} {er : Nat} (e2 : spawnE th k p wt = er) (h0 : er ≠ 0) :
    Calls Tryz.prog 7 #[.pointer (some ⟨b,0,none⟩),.int .i64 p,.int .i64 wt] w fun e w' => e = .returned (.tuple #[.int .i64 0,.iface 66 (.int .i64 er)]) ∧ S w0 b th gr k w' := by
  rw [← errV_pos h0]
  exact k_spawn h hl (by unfold spawnN; rw [if_neg (by rw [e2]; exact h0)]) e2 (by unfold spawnK; rw [if_neg (by rw [e2]; exact h0)])
theorem k_group (h : S w0 b th gr k w) (hl : k.last ≤ 1000000) {p wt : Int} {k' : Kd} {n : Int} {er : Nat} (e1 : groupN gr k p wt = n) (e2 : groupE gr k p wt = er) (e3 : groupK gr k p wt = k') :
    Calls Tryz.prog 10 #[.pointer (some ⟨b,0,none⟩),.int .i64 p,.int .i64 wt] w fun e w' => e = .returned (.tuple #[.int .i64 n,errV er]) ∧ S w0 b th gr k' w' := by
  subst e1 e2 e3
  obtain ⟨B,hp⟩ := h.ps
  exact (group_s hp h.1 hl p wt).mono fun _ _ ⟨q,h'⟩ => ⟨q,S.of (h.1.group p wt) h'⟩
theorem group_ok (h : S w0 b th gr k w) (hl : k.last ≤ 1000000) {p wt : Int} {k' : Kd} {n : Int} (e2 : groupE gr k p wt = 0) (e1 : k.last + 1 = n) (e3 : groupK gr k p wt = k') :
    Calls Tryz.prog 10 #[.pointer (some ⟨b,0,none⟩),.int .i64 p,.int .i64 wt] w fun e w' => e = .returned (.tuple #[.int .i64 n,.nilIface]) ∧ S w0 b th gr k' w' :=
  k_group h hl (by unfold groupN; rw [if_pos e2]; exact e1) e2 e3
set_option maxHeartbeats 4000000 in
theorem exit_er (h : S w0 b th gr k w) {id : Int} (hs : stU k.l id = none) :
    Calls Tryz.prog 12 #[.pointer (some ⟨b,0,none⟩),.int .i64 id] w (Yields w (.iface 66 (.int .i64 13))) := by
  obtain ⟨B,hp⟩ := h.ps
  have CN := hid (fun w' (hx : Ext w w') => p_node (hp.ext hx) h.1.wf id)
  have hb := h.lt
  have HV0 := ndN_thr (l := k.l) id
  have HV : (ndN k.l id).thr = false := by rw [HV0,hs]; rfl
  clear h hp hs HV0
  generalize ndN k.l id = nn at *
  obtain ⟨n0,n1,n2,n3,n4,n5⟩ := nn
  obtain rfl : n4 = false := HV
  go_enter Tryz.func12,Tryz.ntmps12
  go_wp2_with fail
  (with_reducible refine (CN.out _ ext_by).mono ?_)
  rintro e w2 ⟨rfl,hx⟩
  go_wp2
  go_returns
  exact ⟨rfl,ext_by⟩
theorem sleep_ok (h : S w0 b th gr k w) (hl : k.last ≤ 1000000) {id u : Int} {k' : Kd} (e2 : rdyE k id = 0) (e3 : sleepK k id u = k') :
    Calls Tryz.prog 14 #[.pointer (some ⟨b,0,none⟩),.int .i64 id,.int .i64 u] w fun e w' => e = .returned .nilIface ∧ S w0 b th gr k' w' := by
  subst e3
  obtain ⟨B,hp⟩ := h.ps
  refine (sleep_s hp h.1 hl id u).mono fun _ _ ⟨q,h'⟩ => ⟨?_,S.of (h.1.sleep id u) h'⟩
  rw [q,e2]; rfl
theorem wait_ok (h : S w0 b th gr k w) (hl : k.last ≤ 1000000) {id o : Int} {on : Bool} {k' : Kd} (e1 : (waitA k id o).on = on) (e2 : (waitA k id o).err = 0) (e3 : waitK k id o = k') :
    Calls Tryz.prog 16 #[.pointer (some ⟨b,0,none⟩),.int .i64 id,.int .i64 o] w fun e w' => e = .returned (.tuple #[.bool on,.nilIface]) ∧ S w0 b th gr k' w' := by
  subst e1 e3
  obtain ⟨B,hp⟩ := h.ps
  refine (wait_s hp h.1 hl id o).mono fun _ _ ⟨q,h'⟩ => ⟨?_,S.of (h.1.wait id o) h'⟩
  rw [q,e2]; rfl
theorem signal_ok (h : S w0 b th gr k w) {o : Int} {k' : Kd} (e2 : (Ob.sigR o k.c k.W).err = 0) (e3 : signalK k o = k') :
    Calls Tryz.prog 18 #[.pointer (some ⟨b,0,none⟩),.int .i64 o] w fun e w' => e = .returned .nilIface ∧ S w0 b th gr k' w' := by
  subst e3
  obtain ⟨B,hp⟩ := h.ps
  refine (signal_s hp h.1 o).mono fun _ _ ⟨q,h'⟩ => ⟨?_,S.of (h.1.signal o) h'⟩
  rw [q,e2]; rfl
theorem k_run (h : S w0 b th gr k w) {n : Int} {r : Bool} {k' : Kd} (e1 : runK k.l = (n,r)) (e3 : runK' k = k') :
    Calls Tryz.prog 25 #[.pointer (some ⟨b,0,none⟩)] w fun e w' => e = .returned (.tuple #[.int .i64 n,.bool r]) ∧ S w0 b th gr k' w' := by
  subst e3
  obtain ⟨B,hp⟩ := h.ps
  refine (run_s hp h.1).mono fun _ _ ⟨q,h'⟩ => ⟨?_,S.of h.1.run h'⟩
  rw [q,e1]
theorem k_wake (h : S w0 b th gr k w) {tick : Int} {ds : List Int} {k' : Kd} (e1 : Ti.dueIds tick k.M = ds) (e3 : wakeK k tick = k') :
    Calls Tryz.prog 23 #[.pointer (some ⟨b,0,none⟩),.int .i64 tick] w fun e w' => ∃ vd,e = .returned vd ∧ S w0 b th gr k' w' ∧ w'.ownsRow w.heap.size 3 1 vd ds.length (ds.map fun i => .int .i64 i) := by
  subst e1 e3
  obtain ⟨B,hp⟩ := h.ps
  exact (wake_any hp h.1 tick).mono fun _ _ ⟨vd,q,h',o⟩ => ⟨vd,q,S.of (h.1.wake tick).1 (h'.like (kd_wakes _ _)),o⟩
theorem k_runnable (h : S w0 b th gr k w) {r : Bool} (e : rootR k.l = r) : Calls Tryz.prog 27 #[.pointer (some ⟨b,0,none⟩)] w (Yields w (.bool r)) := by
  subst e
  obtain ⟨B,hp⟩ := h.ps
  exact runnable_any hp h.1.wf
theorem k_threads (h : S w0 b th gr k w) : Calls Tryz.prog 29 #[.pointer (some ⟨b,0,none⟩)] w fun e w' => ∃ vd,e = .returned vd ∧ Ext w w' ∧ w'.ownsRow w.heap.size 3 1 vd (tids k.l).length ((tids k.l).map fun k => .int .i64 k) := by
  obtain ⟨B,hp⟩ := h.ps
  exact threads_any hp h.1.wf
theorem k_nodes (h : S w0 b th gr k w) : Calls Tryz.prog 32 #[.pointer (some ⟨b,0,none⟩)] w fun e w' => ∃ vd,e = .returned vd ∧ Ext w w' ∧ NodesV w' vd (k.l.map Nd.nn) := by
  obtain ⟨B,hp⟩ := h.ps
  exact nodes_any hp h.1.wf
end
end Pk
end Go.Proofs.YtocicffmajbecaaGreatDoor
