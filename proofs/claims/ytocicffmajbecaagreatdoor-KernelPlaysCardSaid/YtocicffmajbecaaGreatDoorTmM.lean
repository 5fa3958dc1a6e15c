/- The tree's calls: what each touches (the blocks that it owns) told, in place of what lies beside it. Written by gentg.py out of XTs, XTs2. -/
import Derived.Test.YtocicffmajbecaaGreatDoorPtM
import Derived.Test.YtocicffmajbecaaGreatDoorMvp
namespace Go.Proofs.YtocicffmajbecaaGreatDoor
open Go.RowKit
structure Sk (l : List Nd) : Prop where
  ids : Ids l
  clo : Clo l
  root : ∃ r ∈ l,r.id = 0 ∧ r.par = -1
  only : ∀ n ∈ l,n.par < 0 → n.id = 0 ∧ n.par = -1
  dep : ∀ n ∈ l,∃ k,k ≤ 5 ∧ Up l k n.id ∧ (n.thr = false → k ≤ 4)
  len : l.length ≤ 60
theorem up_getU {l : List Nd} {g : Nd → Nd} (hg : ∀ m,(g m).id = m.id) {id : Int} (h : getU l id = none) : getU (l.map g) id = none := by
  rw [getU_none] at h ⊢
  intro n hn
  obtain ⟨m,hm,rfl⟩ := List.mem_map.1 hn
  rw [hg]; exact h m hm
theorem Up.map {l : List Nd} {g : Nd → Nd} (hg : ∀ m,(g m).id = m.id ∧ (g m).par = m.par ∧ (g m).thr = m.thr) : ∀ (k : Nat) (id : Int),Up l k id → Up (l.map g) k id
  | 0,id,h => up_getU (fun m => (hg m).1) h
  | k + 1,id,h => by
    obtain ⟨m,hm,e,h⟩ := h
    exact ⟨g m,List.mem_map.2 ⟨m,hm,rfl⟩,by rw [(hg m).1]; exact e,by rw [(hg m).2.1]; exact Up.map hg k _ h⟩
theorem Clo.map {l : List Nd} {g : Nd → Nd} (h : Clo l) (hg : ∀ m,(g m).id = m.id ∧ (g m).par = m.par ∧ (g m).thr = m.thr) : Clo (l.map g) := by
  intro n' hn'
  obtain ⟨n,hn,rfl⟩ := List.mem_map.1 hn'
  rw [(hg n).1,(hg n).2.1,(hg n).2.2]
  obtain ⟨h1,h2,h3⟩ := h n hn
  refine ⟨h1,h2,fun h0 => ?_⟩
  obtain ⟨p,hp,e,t⟩ := h3 h0
  exact ⟨g p,List.mem_map.2 ⟨p,hp,rfl⟩,by rw [(hg p).1]; exact e,by rw [(hg p).2.2]; exact t⟩
theorem Sk.map {l : List Nd} {g : Nd → Nd} (h : Sk l) (hg : ∀ m,(g m).id = m.id ∧ (g m).par = m.par ∧ (g m).thr = m.thr) : Sk (l.map g) where
  ids := List.pairwise_map.2 (h.ids.imp fun {a b} hab => by rw [(hg a).1,(hg b).1]; exact hab)
  clo := h.clo.map hg
  root := by
    obtain ⟨r,hr,e1,e2⟩ := h.root
    exact ⟨g r,List.mem_map.2 ⟨r,hr,rfl⟩,by rw [(hg r).1]; exact e1,by rw [(hg r).2.1]; exact e2⟩
  only := fun n' hn' h0 => by
    obtain ⟨n,hn,rfl⟩ := List.mem_map.1 hn'
    rw [(hg n).2.1] at h0
    rw [(hg n).1,(hg n).2.1]; exact h.only n hn h0
  dep := fun n' hn' => by
    obtain ⟨n,hn,rfl⟩ := List.mem_map.1 hn'
    obtain ⟨k,h1,h2,h3⟩ := h.dep n hn
    exact ⟨k,h1,by rw [(hg n).1]; exact Up.map hg _ _ h2,by rw [(hg n).2.2]; exact h3⟩
  len := by rw [List.length_map]; exact h.len
theorem ite_same {id : Int} {f : Nd → Nd} (hf : ∀ m,(f m).id = m.id ∧ (f m).par = m.par ∧ (f m).thr = m.thr) (m : Nd) : (if m.id = id then f m else m).id = m.id ∧ (if m.id = id then f m else m).par = m.par ∧ (if m.id = id then f m else m).thr = m.thr := by
  split
  · exact hf m
  · exact ⟨rfl,rfl,rfl⟩
theorem Sk.upd {l : List Nd} {id : Int} {f : Nd → Nd} (h : Sk l) (hf : ∀ m,(f m).id = m.id ∧ (f m).par = m.par ∧ (f m).thr = m.thr) : Sk (upd id f l) := h.map (ite_same hf)
theorem chain_succ {l : List Nd} : ∀ (k : Nat) (id : Int),Chain l k id → Chain l (k + 1) id
  | 0,_,h => h.elim
  | k + 1,id,h => by
    obtain ⟨n,hn,e,h⟩ := h
    exact ⟨n,hn,e,h.imp (fun x => x) (chain_succ k n.par)⟩
theorem chain_le {l : List Nd} {k m : Nat} {id : Int} (h : Chain l k id) (hm : k ≤ m) : Chain l m id := by
  induction hm with
  | refl => exact h
  | step _ ih => exact chain_succ _ _ ih
theorem chain_up {l : List Nd} (hc : Clo l) : ∀ (k : Nat) (id : Int),Up l (k + 1) id → Chain l (k + 1) id
  | 0,id,h => by
    obtain ⟨n,hn,e,h⟩ := h
    refine ⟨n,hn,e,.inl ?_⟩
    apply Decidable.byContradiction
    intro h0
    obtain ⟨p,hp,e2,-⟩ := (hc n hn).2.2 (by omega)
    exact getU_none.1 (show getU l n.par = none from h) p hp e2
  | k + 1,id,h => by
    obtain ⟨n,hn,e,h⟩ := h
    exact ⟨n,hn,e,.inr (chain_up hc k _ h)⟩
theorem Sk.chain {l : List Nd} (h : Sk l) {n : Nd} (hn : n ∈ l) : Chain l 5 n.id := by
  obtain ⟨k,h1,h2,-⟩ := h.dep n hn
  cases k with
  | zero => exact absurd rfl (getU_none.1 (show getU l n.id = none from h2) n hn)
  | succ k => exact chain_le (chain_up h.clo k _ h2) h1
theorem chain_self {l : List Nd} (hs : Ids l) {n : Nd} (hn : n ∈ l) (h0 : 0 ≤ n.par) (e : n.par = n.id) : ∀ k,¬ Chain l k n.id
  | 0,h => h
  | k + 1,h => by
    obtain ⟨m,hm,e1,h⟩ := h
    rw [uniqU hs hm hn e1] at h
    rcases h with h | h
    · omega
    · rw [e] at h; exact chain_self hs hn h0 e k h
theorem Sk.acy {l : List Nd} (h : Sk l) : Acy l := fun n hn e => by
  have := (h.clo n hn).1
  exact chain_self h.ids hn (by omega) e 5 (h.chain hn)
structure Num (M : Int) (l : List Nd) : Prop where
  top : ∀ n ∈ l,n.par < 0 → n.pass = 0 ∧ n.wt = 1
  wt : ∀ n ∈ l,isW n.wt = true
  now : ∀ n ∈ l,0 ≤ n.now ∧ n.now ≤ M
  lag : ∀ n ∈ l,∀ p ∈ l,p.id = n.par → 0 ≤ n.pass ∧ n.pass ≤ p.now + ofW n.wt ∧ (n.rdy = true → p.now ≤ n.pass)
def RdX (e : Int) (l : List Nd) : Prop := ∀ g ∈ l,g.thr = false → g.id ≠ e → g.rdy = someT l g.id
structure Wf (l : List Nd) : Prop where
  sk : Sk l
  num : Num 16777216 l
  rd : ∀ g ∈ l,g.thr = false → g.rdy = someT l g.id
theorem Wf.bdM {l : List Nd} (h : Wf l) : BdM 20000000 l := fun n hn => by
  have h1 := h.num.now n hn
  by_cases h0 : n.par < 0
  · have := (h.num.top n hn h0).1; omega
  · obtain ⟨p,hp,e,-⟩ := (h.sk.clo n hn).2.2 (by omega)
    have h2 := h.num.lag n hn p hp e
    have h3 := h.num.now p hp
    have h4 := ofW_bounds n.wt
    omega
theorem Wf.rt {l : List Nd} (h : Wf l) : Rt l := fun n hn h0 => ⟨(h.sk.only n hn h0).2,h.rd n hn ((h.sk.clo n hn).2.1 h0)⟩
theorem Wf.tok {base : Nat} {x : Site} {W : Wit} {l : List Nd} {w : World} (h : Wf l) (hp : Pt base x W l w) (hq : QOk W l) : TOk base x W l w := ⟨hp,hq,h.sk.ids,h.sk.clo,h.bdM.bdd (by omega),h.rt,h.sk.len⟩
theorem someT_upd {l : List Nd} (hs : Ids l) {n : Nd} (hn : n ∈ l) {f : Nd → Nd} (hf : ∀ m,(f m).id = m.id ∧ (f m).par = m.par ∧ (f m).thr = m.thr) {g : Int} (hg : n.par ≠ g ∨ (f n).rdy = n.rdy) : someT (upd n.id f l) g = someT l g := by
  rw [Bool.eq_iff_iff,someT_iff,someT_iff]
  constructor
  · rintro ⟨m',hm',hp,hr⟩
    obtain ⟨m,hm,rfl⟩ := mem_upd.1 hm'
    by_cases e : m.id = n.id
    · obtain rfl := uniqU hs hm hn e
      rw [if_pos rfl] at hp hr
      rw [(hf m).2.1] at hp
      rcases hg with h | h
      · exact absurd hp h
      · exact ⟨m,hm,hp,by rw [← h]; exact hr⟩
    · rw [if_neg e] at hp hr; exact ⟨m,hm,hp,hr⟩
  · rintro ⟨m,hm,hp,hr⟩
    by_cases e : m.id = n.id
    · obtain rfl := uniqU hs hm hn e
      rcases hg with h | h
      · exact absurd hp h
      · exact ⟨f m,mem_upd.2 ⟨m,hm,by rw [if_pos rfl]⟩,by rw [(hf m).2.1]; exact hp,by rw [h]; exact hr⟩
    · exact ⟨m,mem_upd.2 ⟨m,hm,by rw [if_neg e]⟩,hp,hr⟩
theorem Num.upd {M : Int} {l : List Nd} (h : Num M l) (hs : Ids l) {n : Nd} (hn : n ∈ l) {f : Nd → Nd} (hf : ∀ m,(f m).id = m.id ∧ (f m).par = m.par ∧ (f m).thr = m.thr) (hnow : (f n).now = n.now) (hw : isW (f n).wt = true) (ht : n.par < 0 → (f n).pass = 0 ∧ (f n).wt = 1)
    (hl : ∀ p ∈ l,p.id = n.par → 0 ≤ (f n).pass ∧ (f n).pass ≤ p.now + ofW (f n).wt ∧ ((f n).rdy = true → p.now ≤ (f n).pass)) : Num M (upd n.id f l) where
  top := fun m' hm' h0 => by
    obtain ⟨m,hm,rfl⟩ := mem_upd.1 hm'
    by_cases e : m.id = n.id
    · obtain rfl := uniqU hs hm hn e
      rw [if_pos rfl] at h0 ⊢
      rw [(hf m).2.1] at h0
      exact ht h0
    · rw [if_neg e] at h0 ⊢; exact h.top m hm h0
  wt := fun m' hm' => by
    obtain ⟨m,hm,rfl⟩ := mem_upd.1 hm'
    by_cases e : m.id = n.id
    · obtain rfl := uniqU hs hm hn e
      rw [if_pos rfl]; exact hw
    · rw [if_neg e]; exact h.wt m hm
  now := fun m' hm' => by
    obtain ⟨m,hm,rfl⟩ := mem_upd.1 hm'
    by_cases e : m.id = n.id
    · obtain rfl := uniqU hs hm hn e
      rw [if_pos rfl,hnow]; exact h.now m hm
    · rw [if_neg e]; exact h.now m hm
  lag := fun m' hm' p' hp' he => by
    obtain ⟨m,hm,rfl⟩ := mem_upd.1 hm'
    obtain ⟨p,hp,rfl⟩ := mem_upd.1 hp'
    rw [(ite_same hf p).1,(ite_same hf m).2.1] at he
    have hpn : (if p.id = n.id then f p else p).now = p.now := by
      by_cases e : p.id = n.id
      · obtain rfl := uniqU hs hp hn e
        rw [if_pos rfl]; exact hnow
      · rw [if_neg e]
    rw [hpn]
    by_cases e : m.id = n.id
    · obtain rfl := uniqU hs hm hn e
      rw [if_pos rfl]; exact hl p hp he
    · rw [if_neg e]; exact h.lag m hm p hp he
theorem wake_wf : ∀ (f : Nat) {l : List Nd} {n : Nd},Sk l → Num 16777216 l → n ∈ l → RdX n.id l → (n.thr = false → someT l n.id = true) → Chain l f n.id → Wf (wakeU f l n.id)
  | 0,_,_,_,_,_,_,_,h => h.elim
  | f + 1,l,n,hsk,hnum,hn,hx,hsm,hch => by
    by_cases hr : n.rdy = true
    · rw [wakeU_rdy hsk.ids hn hr]
      refine ⟨hsk,hnum,fun g hg ht => ?_⟩
      by_cases e : g.id = n.id
      · obtain rfl := uniqU hsk.ids hg hn e
        rw [hr,hsm ht]
      · exact hx g hg ht e
    · have hr : n.rdy = false := by simpa using hr
      by_cases h0 : n.par < 0
      · rw [wakeU_top hsk.ids hn h0]
        have hneg : ∀ g ∈ l,n.par ≠ g.id := fun g hg e => by have := (hsk.clo g hg).1; omega
        refine ⟨hsk.upd onF_same,hnum.upd hsk.ids hn onF_same rfl (hnum.wt n hn) (hnum.top n hn) fun p hp he => absurd he.symm (hneg p hp),fun g' hg' ht => ?_⟩
        obtain ⟨g,hg,rfl⟩ := mem_upd.1 hg'
        rw [(ite_same onF_same g).2.2] at ht
        rw [(ite_same onF_same g).1,someT_upd hsk.ids hn onF_same (.inl (hneg g hg))]
        by_cases e : g.id = n.id
        · obtain rfl := uniqU hsk.ids hg hn e
          rw [if_pos rfl,hsm ht]; rfl
        · rw [if_neg e]; exact hx g hg ht e
      · obtain ⟨p,hp,he,htp⟩ := (hsk.clo n hn).2.2 (by omega)
        rw [wakeU_on hsk.ids hn hr (by omega) hp he]
        have hlag := hnum.lag n hn p hp he
        have hnow := hnum.now p hp
        have how := ofW_bounds n.wt
        have hacy := hsk.acy n hn
        have hpe : p.id ≠ n.id := by rw [he]; exact hacy
        have hp2 : p ∈ upd n.id (rdyF p.now) l := mem_upd.2 ⟨p,hp,by rw [if_neg hpe]⟩
        have hchp : Chain l f p.id := by
          obtain ⟨m,hm,e,h⟩ := hch
          rw [uniqU hsk.ids hm hn e] at h
          rw [he]; exact h.resolve_left h0
        refine wake_wf f (hsk.upd (rdyF_same _)) (hnum.upd hsk.ids hn (rdyF_same _) rfl (hnum.wt n hn) (fun h => absurd h h0) fun q hq hqe => ?_) hp2 ?_ ?_ (Chain.upd (rdyF_same _) _ _ hchp)
        · obtain rfl := uniqU hsk.ids hq hp (hqe.trans he.symm)
          simp only [rdyF]
          exact ⟨by omega,by omega,fun _ => by omega⟩
        · intro g' hg' ht hne
          obtain ⟨g,hg,rfl⟩ := mem_upd.1 hg'
          rw [(ite_same (rdyF_same p.now) g).2.2] at ht
          rw [(ite_same (rdyF_same p.now) g).1] at hne ⊢
          rw [someT_upd hsk.ids hn (rdyF_same _) (.inl (by rw [← he]; exact Ne.symm hne))]
          by_cases e : g.id = n.id
          · obtain rfl := uniqU hsk.ids hg hn e
            rw [if_pos rfl,hsm ht]; rfl
          · rw [if_neg e]; exact hx g hg ht e
        · intro _
          rw [someT_iff]
          exact ⟨rdyF p.now n,mem_upd.2 ⟨n,hn,by rw [if_pos rfl]⟩,he.symm,rfl⟩
theorem rest_wf : ∀ (f : Nat) {l : List Nd} {n : Nd},Sk l → Num 16777216 l → n ∈ l → RdX n.id l → (n.thr = false → someT l n.id = false) → Chain l f n.id → Wf (restU f l n.id)
  | 0,_,_,_,_,_,_,_,h => h.elim
  | f + 1,l,n,hsk,hnum,hn,hx,hsm,hch => by
    by_cases hr : n.rdy = false
    · rw [restU_no hsk.ids hn hr]
      refine ⟨hsk,hnum,fun g hg ht => ?_⟩
      by_cases e : g.id = n.id
      · obtain rfl := uniqU hsk.ids hg hn e
        rw [hr,hsm ht]
      · exact hx g hg ht e
    · have hr : n.rdy = true := by simpa using hr
      have hnum1 : Num 16777216 (upd n.id offF l) := hnum.upd hsk.ids hn offF_same rfl (hnum.wt n hn) (hnum.top n hn) fun p hp he => by
        have := hnum.lag n hn p hp he
        exact ⟨this.1,this.2.1,fun h => by cases h⟩
      have hother : ∀ g' ∈ upd n.id offF l,g'.thr = false → g'.id ≠ n.par → g'.rdy = someT (upd n.id offF l) g'.id := fun g' hg' ht hne => by
        obtain ⟨g,hg,rfl⟩ := mem_upd.1 hg'
        rw [(ite_same offF_same g).2.2] at ht
        rw [(ite_same offF_same g).1] at hne ⊢
        rw [someT_upd hsk.ids hn offF_same (.inl (Ne.symm hne))]
        by_cases e : g.id = n.id
        · obtain rfl := uniqU hsk.ids hg hn e
          rw [if_pos rfl,hsm ht]; rfl
        · rw [if_neg e]; exact hx g hg ht e
      by_cases h0 : n.par < 0
      · rw [restU_top hsk.ids hn h0]
        exact ⟨hsk.upd offF_same,hnum1,fun g hg ht => hother g hg ht fun e => by have := ((hsk.upd (id := n.id) offF_same).clo g hg).1; omega⟩
      · obtain ⟨p,hp,he,htp⟩ := (hsk.clo n hn).2.2 (by omega)
        have hacy := hsk.acy n hn
        have hpe : p.id ≠ n.id := by rw [he]; exact hacy
        have hp2 : p ∈ upd n.id offF l := mem_upd.2 ⟨p,hp,by rw [if_neg hpe]⟩
        cases hst : someT (upd n.id offF l) n.par with
        | true =>
          rw [restU_stop hsk.ids hn hr hst]
          refine ⟨hsk.upd offF_same,hnum1,fun g hg ht => ?_⟩
          by_cases e : g.id = n.par
          · have e2 : g = p := uniqU (hsk.upd (id := n.id) offF_same).ids hg hp2 (e.trans he.symm)
            rw [e2,hx p hp htp hpe,he,hst]
            exact someT_iff.2 ⟨n,hn,rfl,hr⟩
          · exact hother g hg ht e
        | false =>
          rw [restU_on hsk.ids hn hr (by omega) hst,← he]
          have hchp : Chain l f p.id := by
            obtain ⟨m,hm,e,h⟩ := hch
            rw [uniqU hsk.ids hm hn e] at h
            rw [he]; exact h.resolve_left h0
          exact rest_wf f (hsk.upd offF_same) hnum1 hp2 (fun g hg ht hne => hother g hg ht (by rw [← he]; exact hne)) (fun _ => by rw [he]; exact hst) (Chain.upd offF_same _ _ hchp)
theorem Wf.wake {l : List Nd} (h : Wf l) {n : Nd} (hn : n ∈ l) (ht : n.thr = true) : Wf (wakeU 5 l n.id) :=
  wake_wf 5 h.sk h.num hn (fun g hg hgt _ => h.rd g hg hgt) (fun e => by rw [ht] at e; cases e) (h.sk.chain hn)
theorem Wf.rest {l : List Nd} (h : Wf l) {n : Nd} (hn : n ∈ l) (ht : n.thr = true) : Wf (restU 5 l n.id) :=
  rest_wf 5 h.sk h.num hn (fun g hg hgt _ => h.rd g hg hgt) (fun e => by rw [ht] at e; cases e) (h.sk.chain hn)
theorem wtF_same (a b : Int) : ∀ n,(wtF a b n).id = n.id ∧ (wtF a b n).par = n.par ∧ (wtF a b n).thr = n.thr := fun _ => ⟨rfl,rfl,rfl⟩
theorem Wf.scale {l : List Nd} (h : Wf l) {n p : Nd} (hn : n ∈ l) (hp : p ∈ l) (he : p.id = n.par) (wt : Int) : 0 ≤ scaleW n.pass p.now n.wt wt ∧ scaleW n.pass p.now n.wt wt ≤ p.now + ofW wt ∧ (n.rdy = true → p.now ≤ scaleW n.pass p.now n.wt wt) := by
  have h1 := h.num.lag n hn p hp he
  have h2 := h.num.now p hp
  have h3 := scaleW_within (b := wt) (h.num.wt n hn) h1.2.1
  exact ⟨by omega,h3.1,fun hr => h3.2.1 (h1.2.2 hr)⟩
theorem Wf.weight {l : List Nd} (h : Wf l) {n p : Nd} (hn : n ∈ l) (h0 : 0 ≤ n.par) (hp : p ∈ l) (he : p.id = n.par) {wt : Int} (hw : isW wt = true) : Wf (upd n.id (wtF p.now wt) l) := by
  refine ⟨h.sk.upd (wtF_same _ _),h.num.upd h.sk.ids hn (wtF_same _ _) rfl hw (fun h' => by omega) fun q hq hqe => ?_,fun g' hg' ht => ?_⟩
  · obtain rfl := uniqU h.sk.ids hq hp (hqe.trans he.symm)
    exact h.scale hn hq he wt
  · obtain ⟨g,hg,rfl⟩ := mem_upd.1 hg'
    rw [(ite_same (wtF_same p.now wt) g).2.2] at ht
    rw [(ite_same (wtF_same p.now wt) g).1,someT_upd h.sk.ids hn (wtF_same _ _) (.inr rfl)]
    have : (if g.id = n.id then wtF p.now wt g else g).rdy = g.rdy := by split <;> rfl
    rw [this]; exact h.rd g hg ht
theorem up_uniq {l : List Nd} : ∀ (k m : Nat) (id : Int),Ids l → Up l k id → Up l m id → k = m
  | 0,0,_,_,_,_ => rfl
  | 0,m + 1,id,_,h,h2 => by
    obtain ⟨n,hn,e,-⟩ := h2
    exact absurd e (getU_none.1 (show getU l id = none from h) n hn)
  | k + 1,0,id,_,h,h2 => by
    obtain ⟨n,hn,e,-⟩ := h
    exact absurd e (getU_none.1 (show getU l id = none from h2) n hn)
  | k + 1,m + 1,id,hs,h,h2 => by
    obtain ⟨n,hn,e,h⟩ := h
    obtain ⟨n2,hn2,e2,h2⟩ := h2
    obtain rfl := uniqU hs hn hn2 (e.trans e2.symm)
    rw [up_uniq k m _ hs h h2]
theorem getU_ins {d : Nd} {l : List Nd} {id : Int} (h : getU l id = none) (hd : d.id ≠ id) : getU (insT d l) id = none := by
  rw [getU_none] at h ⊢
  intro n hn
  rcases mem_insT.1 hn with rfl | hn
  · exact hd
  · exact h n hn
theorem up_ins {d : Nd} {l : List Nd} (hc : Clo l) (hd0 : 0 ≤ d.id) (hd : getU l d.id = none) : ∀ (k : Nat) (n : Nd),n ∈ l → Up l (k + 1) n.id → Ids l → Up (insT d l) (k + 1) n.id
  | 0,n,hn,h,hs => by
    obtain ⟨m,hm,e,h⟩ := h
    obtain rfl := uniqU hs hm hn e
    refine ⟨m,mem_insT.2 (.inr hm),rfl,getU_ins h fun e2 => ?_⟩
    by_cases h0 : m.par < 0
    · omega
    · obtain ⟨p,hp,e3,-⟩ := (hc m hm).2.2 (by omega)
      exact getU_none.1 hd p hp (e3.trans e2.symm)
  | k + 1,n,hn,h,hs => by
    obtain ⟨m,hm,e,h⟩ := h
    obtain rfl := uniqU hs hm hn e
    obtain ⟨p,hp,e3,h3⟩ := h
    refine ⟨m,mem_insT.2 (.inr hm),rfl,?_⟩
    rw [← e3]
    exact up_ins hc hd0 hd k p hp ⟨p,hp,rfl,h3⟩ hs
theorem someT_ins {d : Nd} {l : List Nd} (hr : d.rdy = false) (g : Int) : someT (insT d l) g = someT l g := by
  rw [Bool.eq_iff_iff,someT_iff,someT_iff]
  constructor
  · rintro ⟨m,hm,hp,h⟩
    rcases mem_insT.1 hm with rfl | hm
    · rw [hr] at h; cases h
    · exact ⟨m,hm,hp,h⟩
  · rintro ⟨m,hm,hp,h⟩
    exact ⟨m,mem_insT.2 (.inr hm),hp,h⟩
theorem addC_ok {l : List Nd} {dn : Nat} {parent id wt : Int} {thr : Bool} (hk : addC l dn parent id wt thr = 0) : isW wt = true ∧ 0 < id ∧ (∃ p ∈ l,p.id = parent ∧ p.thr = false) ∧ getU l id = none ∧ (thr = false → dn < 4) ∧ l.length < 60 := by
  unfold addC at hk
  by_cases c1 : isW wt = false ∨ id ≤ 0
  · rw [if_pos c1] at hk; cases hk
  rw [if_neg c1] at hk
  by_cases c2 : grpU l parent = false
  · rw [if_pos c2] at hk; cases hk
  rw [if_neg c2] at hk
  by_cases c3 : hasU l id = true
  · rw [if_pos c3] at hk; cases hk
  rw [if_neg c3] at hk
  by_cases c4 : thr = false ∧ 4 ≤ dn
  · rw [if_pos c4] at hk; cases hk
  rw [if_neg c4] at hk
  by_cases c5 : 60 ≤ l.length
  · rw [if_pos c5] at hk; cases hk
  refine ⟨?_,?_,?_,?_,fun h => ?_,by omega⟩
  · cases e : isW wt
    · exact absurd (.inl e) c1
    · rfl
  · exact Int.not_le.1 fun e => c1 (.inr e)
  · cases hg : getU l parent with
    | none => exact absurd (by simp [grpU,hg]) c2
    | some p =>
      obtain ⟨hp,e⟩ := getU_mem hg
      exact ⟨p,hp,e,by simpa [grpU,hg] using c2⟩
  · cases e : getU l id with
    | none => rfl
    | some n => exact absurd (by simp [hasU,e]) c3
  · exact Nat.lt_of_not_le fun e => c4 ⟨h,e⟩
theorem Wf.add {l : List Nd} (h : Wf l) {dn : Nat} {parent id wt : Int} {thr : Bool} (hk : addC l dn parent id wt thr = 0) (hu : Up l dn parent) : Wf (insT (newN l parent id wt thr) l) := by
  obtain ⟨hw,hi,⟨p,hp,hpe,hpt⟩,hnew,hd4,hlen⟩ := addC_ok hk
  have hne : ∀ n ∈ l,n.id ≠ id := getU_none.1 hnew
  have hp0 := (h.sk.clo p hp).1
  have hnow : nowU l parent = p.now := by rw [← hpe]; exact nowU_of h.sk.ids hp
  have hnp := h.num.now p hp
  have hup : ∀ n ∈ l,∀ k,Up l k n.id → Up (insT (newN l parent id wt thr) l) k n.id := fun n hn k hk => by
    cases k with
    | zero => exact absurd rfl (getU_none.1 (show getU l n.id = none from hk) n hn)
    | succ k => exact up_ins h.sk.clo (by show 0 ≤ id; omega) hnew k n hn hk h.sk.ids
  obtain ⟨kp,hk1,hk2,hk3⟩ := h.sk.dep p hp
  have hkp : kp = dn := up_uniq _ _ _ h.sk.ids hk2 (by rw [hpe]; exact hu)
  refine ⟨⟨ids_insT h.sk.ids hnew,?_,?_,?_,?_,by rw [insT_length]; omega⟩,⟨?_,?_,?_,?_⟩,?_⟩
  · intro n hn
    rcases mem_insT.1 hn with rfl | hn
    · exact ⟨by show 0 ≤ id; omega,fun h0 => absurd (show parent < 0 from h0) (by omega),fun _ => ⟨p,mem_insT.2 (.inr hp),hpe,hpt⟩⟩
    · obtain ⟨h1,h2,h3⟩ := h.sk.clo n hn
      refine ⟨h1,h2,fun h0 => ?_⟩
      obtain ⟨q,hq,e⟩ := h3 h0
      exact ⟨q,mem_insT.2 (.inr hq),e⟩
  · obtain ⟨r,hr,e⟩ := h.sk.root
    exact ⟨r,mem_insT.2 (.inr hr),e⟩
  · intro n hn h0
    rcases mem_insT.1 hn with rfl | hn
    · exact absurd (show parent < 0 from h0) (by omega)
    · exact h.sk.only n hn h0
  · intro n hn
    rcases mem_insT.1 hn with rfl | hn
    · refine ⟨kp + 1,?_,⟨_,mem_insT.2 (.inl rfl),rfl,?_⟩,fun ht => ?_⟩
      · have := hk3 hpt; omega
      · show Up _ kp parent
        have := hup p hp kp hk2
        rwa [hpe] at this
      · have := hd4 ht; omega
    · obtain ⟨k,h1,h2,h3⟩ := h.sk.dep n hn
      exact ⟨k,h1,hup n hn k h2,h3⟩
  · intro n hn h0
    rcases mem_insT.1 hn with rfl | hn
    · exact absurd (show parent < 0 from h0) (by omega)
    · exact h.num.top n hn h0
  · intro n hn
    rcases mem_insT.1 hn with rfl | hn
    · exact hw
    · exact h.num.wt n hn
  · intro n hn
    rcases mem_insT.1 hn with rfl | hn
    · exact ⟨Int.le_refl 0,by show (0 : Int) ≤ 16777216; decide⟩
    · exact h.num.now n hn
  · intro n hn q hq he
    have how := ofW_bounds wt
    rcases mem_insT.1 hn with rfl | hn
    · rcases mem_insT.1 hq with rfl | hq
      · exact absurd (show id = parent from he) (fun e => hne p hp (hpe.trans e.symm))
      · obtain rfl := uniqU h.sk.ids hq hp ((show q.id = parent from he).trans hpe.symm)
        simp only [newN,hnow]
        exact ⟨by omega,by omega,fun h => by cases h⟩
    · rcases mem_insT.1 hq with rfl | hq
      · exfalso
        have he : id = n.par := he
        obtain ⟨q,hq,e,-⟩ := (h.sk.clo n hn).2.2 (by omega)
        exact hne q hq (e.trans he.symm)
      · exact h.num.lag n hn q hq he
  · intro g hg ht
    rw [someT_ins rfl]
    rcases mem_insT.1 hg with rfl | hg
    · show false = someT l id
      refine (someT_not.2 fun m hm hpm => ?_).symm
      exfalso
      obtain ⟨q,hq,e,-⟩ := (h.sk.clo m hm).2.2 (by omega)
      exact hne q hq (e.trans hpm)
    · exact h.rd g hg ht
theorem rootN_wf : Wf [rootN] where
  sk := {
    ids := by simp [Ids]
    clo := by
      intro n hn
      rw [List.mem_singleton.1 hn]
      exact ⟨Int.le_refl 0,fun _ => rfl,fun h => absurd (show (0 : Int) ≤ -1 from h) (by decide)⟩
    root := ⟨rootN,List.mem_singleton.2 rfl,rfl,rfl⟩
    only := by
      intro n hn _
      rw [List.mem_singleton.1 hn]
      exact ⟨rfl,rfl⟩
    dep := by
      intro n hn
      rw [List.mem_singleton.1 hn]
      exact ⟨1,by omega,⟨rootN,List.mem_singleton.2 rfl,rfl,rfl⟩,fun _ => by omega⟩
    len := by simp }
  num := {
    top := by
      intro n hn _
      rw [List.mem_singleton.1 hn]
      exact ⟨rfl,rfl⟩
    wt := by
      intro n hn
      rw [List.mem_singleton.1 hn]
      rfl
    now := by
      intro n hn
      rw [List.mem_singleton.1 hn]
      exact ⟨Int.le_refl 0,by show (0 : Int) ≤ 16777216; decide⟩
    lag := by
      intro n hn p hp e
      rw [List.mem_singleton.1 hn,List.mem_singleton.1 hp] at e
      exact absurd (show (0 : Int) = -1 from e) (by decide) }
  rd := by
    intro g hg _
    rw [List.mem_singleton.1 hg]
    rfl
end Go.Proofs.YtocicffmajbecaaGreatDoor
namespace Go.Proofs.YtocicffmajbecaaGreatDoor
open Go.RowKit
def rebN (g now : Int) (m : Nd) : Nd := if m.id = g then nowF 0 (if m.par = g then shF now m else m) else if m.par = g then shF now m else m
theorem rebN_same (g now : Int) (m : Nd) : (rebN g now m).id = m.id ∧ (rebN g now m).par = m.par ∧ (rebN g now m).thr = m.thr ∧ (rebN g now m).wt = m.wt ∧ (rebN g now m).rdy = m.rdy := by
  unfold rebN
  split <;> split <;> exact ⟨rfl,rfl,rfl,rfl,rfl⟩
theorem rebN_pass (g now : Int) (m : Nd) : (rebN g now m).pass = if m.par = g then max 0 (m.pass - now) else m.pass := by
  unfold rebN
  split <;> split <;> rfl
theorem rebN_now (g now : Int) (m : Nd) : (rebN g now m).now = if m.id = g then 0 else m.now := by
  unfold rebN
  split <;> split <;> rfl
theorem reb_map {l : List Nd} (hs : Ids l) (g : Int) : rebU l g = l.map (rebN g (nowU l g)) := by
  unfold rebU upd shK
  rw [List.map_map]
  refine List.map_congr_left fun m hm => ?_
  simp only [Function.comp]
  have hk : m.id ∈ (kidsU l g).map Nd.id ↔ m.par = g := by
    constructor
    · intro h
      obtain ⟨n,hn,e⟩ := List.mem_map.1 h
      obtain ⟨h1,h2⟩ := List.mem_filter.1 hn
      rw [← uniqU hs h1 hm e]; simpa using h2
    · intro h
      exact List.mem_map.2 ⟨m,List.mem_filter.2 ⟨hm,by simpa using h⟩,rfl⟩
  unfold rebN
  by_cases e : m.par = g
  · rw [if_pos (hk.2 e),if_pos e]; rfl
  · rw [if_neg (fun h => e (hk.1 h)),if_neg e]
theorem someT_map {l : List Nd} {f : Nd → Nd} (hf : ∀ m,(f m).par = m.par ∧ (f m).rdy = m.rdy) (g : Int) : someT (l.map f) g = someT l g := by
  rw [Bool.eq_iff_iff,someT_iff,someT_iff]
  constructor
  · rintro ⟨m',hm',hp,hr⟩
    obtain ⟨m,hm,rfl⟩ := List.mem_map.1 hm'
    rw [(hf m).1] at hp
    rw [(hf m).2] at hr
    exact ⟨m,hm,hp,hr⟩
  · rintro ⟨m,hm,hp,hr⟩
    exact ⟨f m,List.mem_map.2 ⟨m,hm,rfl⟩,by rw [(hf m).1]; exact hp,by rw [(hf m).2]; exact hr⟩
def Rd (l : List Nd) : Prop := ∀ g ∈ l,g.thr = false → g.rdy = someT l g.id
theorem Rd.map {l : List Nd} {f : Nd → Nd} (h : Rd l) (hf : ∀ m,(f m).id = m.id ∧ (f m).par = m.par ∧ (f m).thr = m.thr ∧ (f m).rdy = m.rdy) : Rd (l.map f) := by
  intro g' hg' ht
  obtain ⟨g,hg,rfl⟩ := List.mem_map.1 hg'
  rw [(hf g).2.2.1] at ht
  rw [(hf g).2.2.2,(hf g).1,someT_map (fun m => ⟨(hf m).2.1,(hf m).2.2.2⟩)]
  exact h g hg ht
theorem Num.reb {M : Int} {l : List Nd} (h : Num M l) (hsk : Sk l) {g : Nd} (hg : g ∈ l) : Num M (rebU l g.id) := by
  rw [reb_map hsk.ids,nowU_of hsk.ids hg]
  have hg0 := h.now g hg
  have hgid := (hsk.clo g hg).1
  refine ⟨fun m' hm' h0 => ?_,fun m' hm' => ?_,fun m' hm' => ?_,fun m' hm' p' hp' he => ?_⟩
  · obtain ⟨m,hm,rfl⟩ := List.mem_map.1 hm'
    rw [(rebN_same _ _ m).2.1] at h0
    have := h.top m hm h0
    rw [rebN_pass,(rebN_same _ _ m).2.2.2.1,if_neg (by omega)]
    exact this
  · obtain ⟨m,hm,rfl⟩ := List.mem_map.1 hm'
    rw [(rebN_same _ _ m).2.2.2.1]; exact h.wt m hm
  · obtain ⟨m,hm,rfl⟩ := List.mem_map.1 hm'
    have := h.now m hm
    rw [rebN_now]
    split <;> omega
  · obtain ⟨m,hm,rfl⟩ := List.mem_map.1 hm'
    obtain ⟨p,hp,rfl⟩ := List.mem_map.1 hp'
    rw [(rebN_same _ _ p).1,(rebN_same _ _ m).2.1] at he
    have hl := h.lag m hm p hp he
    rw [rebN_pass,rebN_now,(rebN_same _ _ m).2.2.2.1,(rebN_same _ _ m).2.2.2.2]
    by_cases e : p.id = g.id
    · have e2 : m.par = g.id := by rw [← he]; exact e
      obtain rfl := uniqU hsk.ids hp hg e
      rw [if_pos e2,if_pos rfl]
      have how := ofW_bounds m.wt
      exact ⟨by omega,by omega,fun _ => by omega⟩
    · have e2 : ¬ m.par = g.id := by rw [← he]; exact e
      rw [if_neg e2,if_neg e]; exact hl
theorem Sk.reb {l : List Nd} (h : Sk l) (g : Int) : Sk (rebU l g) := by
  rw [reb_map h.ids]
  exact h.map fun m => ⟨(rebN_same _ _ m).1,(rebN_same _ _ m).2.1,(rebN_same _ _ m).2.2.1⟩
theorem Rd.reb {l : List Nd} (h : Rd l) (hs : Ids l) (g : Int) : Rd (rebU l g) := by
  rw [reb_map hs]
  exact h.map fun m => ⟨(rebN_same _ _ m).1,(rebN_same _ _ m).2.1,(rebN_same _ _ m).2.2.1,(rebN_same _ _ m).2.2.2.2⟩
inductive Abv (l : List Nd) : Int → Int → Prop
  | one {n : Nd} : n ∈ l → Abv l n.id n.par
  | more {n : Nd} {j : Int} : n ∈ l → Abv l n.par j → Abv l n.id j
theorem Abv.map {l : List Nd} {f : Nd → Nd} (hf : ∀ m,(f m).id = m.id ∧ (f m).par = m.par) {i j : Int} (h : Abv l i j) : Abv (l.map f) i j := by
  induction h with
  | @one n hn =>
    have := Abv.one (l := l.map f) (List.mem_map.2 ⟨n,hn,rfl⟩)
    rwa [(hf n).1,(hf n).2] at this
  | @more n j hn _ ih =>
    have := Abv.more (l := l.map f) (List.mem_map.2 ⟨n,hn,rfl⟩) (by rw [(hf n).2]; exact ih)
    rwa [(hf n).1] at this
theorem Abv.up {l : List Nd} (hs : Ids l) {i j : Int} (h : Abv l i j) : ∀ k,Up l k i → ∃ m,m < k ∧ Up l m j := by
  induction h with
  | @one n hn =>
    intro k hk
    cases k with
    | zero => exact absurd rfl (getU_none.1 (show getU l n.id = none from hk) n hn)
    | succ k =>
      obtain ⟨m,hm,e,hk⟩ := hk
      rw [uniqU hs hm hn e] at hk
      exact ⟨k,Nat.lt_succ_self k,hk⟩
  | @more n j hn _ ih =>
    intro k hk
    cases k with
    | zero => exact absurd rfl (getU_none.1 (show getU l n.id = none from hk) n hn)
    | succ k =>
      obtain ⟨m,hm,e,hk⟩ := hk
      rw [uniqU hs hm hn e] at hk
      obtain ⟨q,h1,h2⟩ := ih k hk
      exact ⟨q,by omega,h2⟩
theorem Abv.irr {l : List Nd} (h : Sk l) {n : Nd} (hn : n ∈ l) : ¬ Abv l n.id n.id := fun ha => by
  obtain ⟨k,-,hk,-⟩ := h.dep n hn
  obtain ⟨m,h1,h2⟩ := ha.up h.ids k hk
  have := up_uniq _ _ _ h.ids hk h2
  omega
def Ovr (l : List Nd) (i : Int) : Prop := ∀ g ∈ l,16777216 < g.now → Abv l i g.id
theorem mem_upd_same {l : List Nd} {id : Int} {f : Nd → Nd} {m : Nd} (hm : m ∈ l) (h : m.id ≠ id) : m ∈ upd id f l := mem_upd.2 ⟨m,hm,by rw [if_neg h]⟩
structure Stp (l : List Nd) (n b : Nd) (l' : List Nd) : Prop where
  sk : Sk l'
  num : Num 17497936 l'
  rd : Rd l'
  mem : goF b ∈ l'
  ovr : Ovr l' b.id
theorem step_wf {l : List Nd} {n b : Nd} (hsk : Sk l) (hnum : Num 17497936 l) (hrd : Rd l) (hn : n ∈ l) (hov : Ovr l n.id) (hb : bestU l n.id = some b) : Stp l n b (upd b.id goF (upd n.id (nowF b.pass) l)) := by
  obtain ⟨hbl,hbp,hbr,hbest⟩ := bestU_spec hsk.ids hb
  have hnow : n.now ≤ 16777216 := by
    apply Decidable.byContradiction
    intro h
    exact Abv.irr hsk hn (hov n hn (by omega))
  have hnb := hnum.now n hn
  have hlb := hnum.lag b hbl n hn hbp.symm
  have hpl := hlb.2.2 hbr
  have how := ofW_bounds b.wt
  have hne : b.id ≠ n.id := fun e => hsk.acy b hbl (by rw [hbp,e])
  have hn0 := (hsk.clo n hn).1
  have hnum1 : Num 17497936 (upd n.id (nowF b.pass) l) := by
    refine ⟨fun m' hm' h0 => ?_,fun m' hm' => ?_,fun m' hm' => ?_,fun m' hm' p' hp' he => ?_⟩
    · obtain ⟨m,hm,rfl⟩ := mem_upd.1 hm'
      rw [(ite_same (nowF_same b.pass) m).2.1] at h0
      have := hnum.top m hm h0
      split <;> exact this
    · obtain ⟨m,hm,rfl⟩ := mem_upd.1 hm'
      have := hnum.wt m hm
      split <;> exact this
    · obtain ⟨m,hm,rfl⟩ := mem_upd.1 hm'
      have := hnum.now m hm
      split
      · simp only [nowF]; omega
      · exact this
    · obtain ⟨m,hm,rfl⟩ := mem_upd.1 hm'
      obtain ⟨p,hp,rfl⟩ := mem_upd.1 hp'
      rw [(ite_same (nowF_same b.pass) p).1,(ite_same (nowF_same b.pass) m).2.1] at he
      have hl := hnum.lag m hm p hp he
      have e1 : (if m.id = n.id then nowF b.pass m else m).pass = m.pass := by split <;> rfl
      have e2 : (if m.id = n.id then nowF b.pass m else m).wt = m.wt := by split <;> rfl
      have e3 : (if m.id = n.id then nowF b.pass m else m).rdy = m.rdy := by split <;> rfl
      rw [e1,e2,e3]
      by_cases e : p.id = n.id
      · obtain rfl := uniqU hsk.ids hp hn e
        rw [if_pos rfl]
        simp only [nowF]
        refine ⟨hl.1,by omega,fun hr => ?_⟩
        rcases hbest m hm he.symm hr with rfl | h
        · exact Int.le_refl _
        · rw [lessB_iff] at h; simp only at h; omega
      · rw [if_neg e]; exact hl
  have hsk1 : Sk (upd n.id (nowF b.pass) l) := hsk.upd (nowF_same _)
  have hrd1 : Rd (upd n.id (nowF b.pass) l) := hrd.map fun m => by split <;> exact ⟨rfl,rfl,rfl,rfl⟩
  have hb1 : b ∈ upd n.id (nowF b.pass) l := mem_upd_same hbl hne
  have hn1 : nowF b.pass n ∈ upd n.id (nowF b.pass) l := mem_upd.2 ⟨n,hn,by rw [if_pos rfl]⟩
  refine ⟨hsk1.upd goF_same,?_,hrd1.map fun m => by split <;> exact ⟨rfl,rfl,rfl,rfl⟩,mem_upd.2 ⟨b,hb1,by rw [if_pos rfl]⟩,?_⟩
  · refine hnum1.upd hsk1.ids hb1 goF_same rfl (hnum.wt b hbl) (fun h => absurd h (by rw [hbp]; omega)) fun p hp he => ?_
    obtain rfl := uniqU hsk1.ids hp hn1 (he.trans hbp)
    simp only [goF,nowF]
    exact ⟨by omega,by omega,fun _ => by omega⟩
  · intro g' hg' hlim
    obtain ⟨g1,hg1,rfl⟩ := mem_upd.1 hg'
    obtain ⟨g,hg,rfl⟩ := mem_upd.1 hg1
    have ei : (if (if g.id = n.id then nowF b.pass g else g).id = b.id then goF (if g.id = n.id then nowF b.pass g else g) else (if g.id = n.id then nowF b.pass g else g)).id = g.id := by split <;> split <;> rfl
    have en : (if (if g.id = n.id then nowF b.pass g else g).id = b.id then goF (if g.id = n.id then nowF b.pass g else g) else (if g.id = n.id then nowF b.pass g else g)).now = if g.id = n.id then b.pass else g.now := by split <;> split <;> rfl
    rw [ei]
    rw [en] at hlim
    have key : Abv l b.id g.id := by
      by_cases e : g.id = n.id
      · rw [e,← hbp]; exact .one hbl
      · rw [if_neg e] at hlim
        exact .more hbl (by rw [hbp]; exact hov g hg hlim)
    have k1 := key.map (f := fun m => if m.id = n.id then nowF b.pass m else m) fun m => ⟨(ite_same (nowF_same b.pass) m).1,(ite_same (nowF_same b.pass) m).2.1⟩
    exact k1.map (f := fun m => if m.id = b.id then goF m else m) fun m => ⟨(ite_same goF_same m).1,(ite_same goF_same m).2.1⟩
theorem run_wf : ∀ (f : Nat) {l : List Nd} {n : Nd} {k : Nat},Sk l → Num 17497936 l → Rd l → n ∈ l → n.rdy = true → Ovr l n.id → Up l k n.id → 6 ≤ f + k →
    ∃ id l1,runU f l n.id = some (id,l1) ∧ Sk l1 ∧ Num 17497936 l1 ∧ Rd l1 ∧ Ovr l1 id ∧ ∃ t ∈ l1,t.id = id ∧ t.thr = true ∧ t.rdy = true
  | 0,l,n,k,hsk,hnum,hrd,hn,hr,hov,hu,hf => by
    obtain ⟨k',h1,h2,-⟩ := hsk.dep n hn
    have := up_uniq _ _ _ hsk.ids hu h2
    omega
  | f + 1,l,n,k,hsk,hnum,hrd,hn,hr,hov,hu,hf => by
    cases ht : n.thr with
    | true => exact ⟨n.id,l,runU_thr hsk.ids hn ht,hsk,hnum,hrd,hov,n,hn,rfl,ht,hr⟩
    | false =>
      cases hb : bestU l n.id with
      | none =>
        have := bestU_none.1 hb
        rw [← hrd n hn ht,hr] at this
        cases this
      | some b =>
        obtain ⟨hbl,hbp,hbr,-⟩ := bestU_spec hsk.ids hb
        have hst := step_wf hsk hnum hrd hn hov hb
        rw [runU_on hsk.ids hn ht hb]
        have hub : Up l (k + 1) b.id := ⟨b,hbl,rfl,by rw [hbp]; exact hu⟩
        have hub1 := Up.map (ite_same (id := n.id) (nowF_same b.pass)) _ _ hub
        have hub2 := Up.map (ite_same (id := b.id) goF_same) _ _ hub1
        exact run_wf f (n := goF b) hst.sk hst.num hst.rd hst.mem hbr hst.ovr hub2 (by omega)
theorem up_wf : ∀ (f : Nat) {l : List Nd} {n : Nd},Sk l → Num 17497936 l → Rd l → n ∈ l → Chain l f n.id →
    Sk (upR f l n.id) ∧ Num 17497936 (upR f l n.id) ∧ Rd (upR f l n.id) ∧ ∀ g ∈ upR f l n.id,16777216 < g.now → ∃ g0 ∈ l,g0.id = g.id ∧ 16777216 < g0.now ∧ ¬ Abv l n.id g.id
  | 0,_,_,_,_,_,_,h => h.elim
  | f + 1,l,n,hsk,hnum,hrd,hn,hch => by
    have habv0 : n.par < 0 → ∀ g ∈ l,¬ Abv l n.id g.id := fun h0 g hg ha => by
      have hg0 := (hsk.clo g hg).1
      generalize hi : n.id = i at ha
      generalize hj0 : g.id = j0 at ha
      cases ha with
      | @one m hm =>
        obtain rfl := uniqU hsk.ids hn hm hi
        omega
      | @more m j hm h2 =>
        obtain rfl := uniqU hsk.ids hn hm hi
        generalize hj : n.par = j at h2
        cases h2 with
        | @one q hq => have := (hsk.clo q hq).1; omega
        | @more q j hq _ => have := (hsk.clo q hq).1; omega
    by_cases h0 : n.par < 0
    · rw [upR_top hsk.ids hn h0]
      exact ⟨hsk,hnum,hrd,fun g hg hl => ⟨g,hg,rfl,hl,habv0 h0 g hg⟩⟩
    · obtain ⟨p,hp,he,-⟩ := (hsk.clo n hn).2.2 (by omega)
      have hchp : Chain l f p.id := by
        obtain ⟨m,hm,e,h⟩ := hch
        rw [uniqU hsk.ids hm hn e] at h
        rw [he]; exact h.resolve_left h0
      rw [upR_on hsk.ids hn h0 hp he]
      by_cases hgt : 16777216 < p.now
      · rw [if_pos hgt]
        have hm : rebU l p.id = l.map (rebN p.id (nowU l p.id)) := reb_map hsk.ids p.id
        have hp2 : rebN p.id (nowU l p.id) p ∈ rebU l p.id := by rw [hm]; exact List.mem_map.2 ⟨p,hp,rfl⟩
        have e2 : (rebN p.id (nowU l p.id) p).id = p.id := (rebN_same _ _ p).1
        have ih := up_wf f (hsk.reb p.id) (hnum.reb hsk hp) (hrd.reb hsk.ids p.id) hp2 (by rw [e2]; exact reb_chain _ _ _ hchp)
        rw [e2] at ih
        obtain ⟨i1,i2,i3,i4⟩ := ih
        refine ⟨i1,i2,i3,fun g hg hl => ?_⟩
        obtain ⟨g1,hg1,eg,hl1,hna⟩ := i4 g hg hl
        rw [hm] at hg1
        obtain ⟨g0,hg0,rfl⟩ := List.mem_map.1 hg1
        rw [rebN_now] at hl1
        rw [(rebN_same _ _ g0).1] at eg
        by_cases ep : g0.id = p.id
        · rw [if_pos ep] at hl1; omega
        · rw [if_neg ep] at hl1
          refine ⟨g0,hg0,eg,hl1,fun ha => ?_⟩
          generalize hi : n.id = i at ha
          generalize hj : g.id = j at ha
          cases ha with
          | @one m hm' =>
            obtain rfl := uniqU hsk.ids hn hm' hi
            exact ep (by rw [eg,hj,he])
          | @more m j hm' h2 =>
            obtain rfl := uniqU hsk.ids hn hm' hi
            refine hna ?_
            rw [hm,hj,he]
            exact h2.map fun m => ⟨(rebN_same _ _ m).1,(rebN_same _ _ m).2.1⟩
      · rw [if_neg hgt]
        obtain ⟨i1,i2,i3,i4⟩ := up_wf f hsk hnum hrd hp hchp
        refine ⟨i1,i2,i3,fun g hg hl => ?_⟩
        obtain ⟨g0,hg0,eg,hl1,hna⟩ := i4 g hg hl
        refine ⟨g0,hg0,eg,hl1,fun ha => ?_⟩
        generalize hi : n.id = i at ha
        generalize hj : g.id = j at ha
        cases ha with
        | @one m hm' =>
          obtain rfl := uniqU hsk.ids hn hm' hi
          have : g0 = p := uniqU hsk.ids hg0 hp (by rw [eg,hj,he])
          rw [this] at hl1
          omega
        | @more m j hm' h2 =>
          obtain rfl := uniqU hsk.ids hn hm' hi
          exact hna (by rw [hj,he]; exact h2)
theorem Wf.run {l : List Nd} (h : Wf l) {r : Nd} (hr : r ∈ l) (hr0 : r.id = 0) (hrd : r.rdy = true) :
    ∃ R,runU 6 l 0 = some R ∧ Wf (upR 6 R.2 R.1) ∧ ∃ t ∈ R.2,t.id = R.1 ∧ t.thr = true ∧ t.rdy = true := by
  have hnum : Num 17497936 l := ⟨h.num.top,h.num.wt,fun n hn => by have := h.num.now n hn; omega,h.num.lag⟩
  obtain ⟨k,hk1,hk2,-⟩ := h.sk.dep r hr
  obtain ⟨id,l1,h1,h2,h3,h4,h5,t,ht,e1,e2,e3⟩ := run_wf 6 h.sk hnum h.rd hr hrd (fun g hg hl => by have := h.num.now g hg; omega) hk2 (by
    cases k with
    | zero => exact absurd rfl (getU_none.1 (show getU l r.id = none from hk2) r hr)
    | succ k => omega)
  rw [hr0] at h1
  refine ⟨(id,l1),h1,?_,t,ht,e1,e2,e3⟩
  have hu := up_wf 6 h2 h3 h4 ht (chain_succ _ _ (h2.chain ht))
  rw [e1] at hu
  obtain ⟨u1,u2,u3,u4⟩ := hu
  refine ⟨u1,⟨u2.top,u2.wt,fun g hg => ⟨(u2.now g hg).1,?_⟩,u2.lag⟩,u3⟩
  apply Decidable.byContradiction
  intro hl
  obtain ⟨g0,hg0,eg,hl1,hna⟩ := u4 g hg (by omega)
  exact hna (by rw [← eg]; exact h5 g0 hg0 hl1)
end Go.Proofs.YtocicffmajbecaaGreatDoor
namespace Go.Proofs.YtocicffmajbecaaGreatDoor
open Go.RowKit
set_option linter.unusedSimpArgs false
def TSt (w0 : World) (x : Site) (l : List Nd) (fr : List (Nat × Obj)) (w : World) : Prop :=
  ∃ W,Pt w0.heap.size x W l w ∧ QOk W l ∧ Ext w0 w ∧ ∀ p ∈ fr,w.heap[p.1]? = some p.2 ∧ ¬ Own x W l p.1 ∧ w0.heap.size ≤ p.1
section
variable {w0 w w' : World} {x : Site} {l l' : List Nd} {fr : List (Nat × Obj)}
theorem TSt.xt (h : TSt w0 x l fr w) : Ext w0 w := by obtain ⟨W,_,_,h,_⟩ := h; exact h
theorem TSt.lt (h : TSt w0 x l fr w) : x.b < w.heap.size := by obtain ⟨W,h,_,_,_⟩ := h; exact h.lt
theorem TSt.ext (h : TSt w0 x l fr w) (k : Ext w w') : TSt w0 x l fr w' := by
  obtain ⟨W,h1,h2,h3,h4⟩ := h
  refine ⟨W,h1.ext k,h2,h3.trans k,fun p hp => ?_⟩
  obtain ⟨a,b,c⟩ := h4 p hp
  exact ⟨by rw [k.below.block _ (lt_blk a)]; exact a,b,c⟩
theorem TSt.go {W W' : Wit} (h1 : Pt w0.heap.size x W l w) (h3 : Ext w0 w) (h4 : ∀ p ∈ fr,w.heap[p.1]? = some p.2 ∧ ¬ Own x W l p.1 ∧ w0.heap.size ≤ p.1) (k1 : Pt w0.heap.size x W' l' w') (k2 : QOk W' l') (k3 : Fr (Own x W l) (Own x W' l') w w') : TSt w0 x l' fr w' := by
  refine ⟨W',k1,k2,k3.ext_of h3 fun i hi => (h1.own_lt hi).1,fun p hp => ?_⟩
  obtain ⟨a,b,c⟩ := h4 p hp
  refine ⟨by rw [k3.block _ (lt_blk a) b]; exact a,fun e => ?_,c⟩
  rcases k3.own _ e with h | h
  · exact b h
  · exact absurd (lt_blk a) (by omega)
theorem TSt.alloc (h : TSt w0 x l fr w) (o : Obj) : TSt w0 x l ((w.heap.size,o) :: fr) (w.alloc o) := by
  obtain ⟨W,h1,h2,h3,h4⟩ := h
  have k : Ext w (w.alloc o) := Ext.alloc (Ext.refl w) o
  refine ⟨W,h1.ext k,h2,h3.trans k,fun p hp => ?_⟩
  rcases List.mem_cons.1 hp with rfl | hp
  · exact ⟨heap_alloc_new w o,fun e => absurd (h1.own_lt e).2 (Nat.lt_irrefl _),h3.size⟩
  · obtain ⟨a,b,c⟩ := h4 p hp
    exact ⟨by rw [k.below.block _ (lt_blk a)]; exact a,b,c⟩
theorem TSt.fewer {fr' : List (Nat × Obj)} (h : TSt w0 x l fr w) (k : ∀ p ∈ fr',p ∈ fr) : TSt w0 x l fr' w := by
  obtain ⟨W,h1,h2,h3,h4⟩ := h
  exact ⟨W,h1,h2,h3,fun p hp => h4 p (k p hp)⟩
theorem TSt.blk (h : TSt w0 x l fr w) {p : Nat × Obj} (hp : p ∈ fr) : w.heap[p.1]? = some p.2 := by
  obtain ⟨W,h1,h2,h3,h4⟩ := h
  exact (h4 p hp).1
theorem TSt.poke {b j : Nat} {cs : Array Value} {T : TypeId} (h : TSt w0 x l ((b,.cells cs T (0,0)) :: fr) w) (u : Value) (hne : ∀ p ∈ fr,p.1 ≠ b := by intro p hp; cases hp) :
    TSt w0 x l ((b,.cells (cs.setIfInBounds j u) T (0,0)) :: fr) (w.setCell ⟨b,j,none⟩ u) := by
  obtain ⟨W,h1,h2,h3,h4⟩ := h
  obtain ⟨a,hx,d⟩ := h4 _ List.mem_cons_self
  refine ⟨W,h1.keep fun c hc => Below.heap_setCell _ _ _ _ fun e => hx (by rw [← show c = b from e]; exact hc),h2,h3.setCell d u,fun p hp => ?_⟩
  rcases List.mem_cons.1 hp with rfl | hp
  · exact ⟨set_same a j u,hx,d⟩
  · obtain ⟨a',b',d'⟩ := h4 p (List.mem_cons_of_mem _ hp)
    exact ⟨by rw [Below.heap_setCell _ _ _ _ (hne p hp)]; exact a',b',d'⟩
def rdyU (r : Bool) (l : List Nd) (id : Int) : List Nd := if r = true then wakeU 5 l id else restU 5 l id
theorem Wf.rdyU (h : Wf l) {n : Nd} (hn : n ∈ l) (ht : n.thr = true) (r : Bool) : Wf (rdyU r l n.id) := by
  unfold Go.Proofs.YtocicffmajbecaaGreatDoor.rdyU
  split
  · exact h.wake hn ht
  · exact h.rest hn ht
theorem removeP_13 {base : Nat} {W : Wit} (h : TOk base x W l w) (id : Int) (hk : ∀ n,getU l id = some n → n.par < 0) :
    Calls Tryz.prog 50 #[.pointer (some ⟨x.b,x.d,none⟩),.int .i64 id] w (Yields w (errV 13)) := by
  have hl1 : l.length ≤ 1000 := by have := h.len; omega
  have HFP : Hid (∀ w',Ext w w' → Calls Tryz.prog 79 #[.pointer (some ⟨x.b,x.d,none⟩),.int .i64 id] w' (Yields w' (nodP W l id))) := fun w' hx => find_at (h.pt.ext hx) h.ids hl1 _
  rw [errV_pos (by decide)]
  cases hg : getU l id with
  | none =>
    have HP : Hid (nodP W l id = .pointer none) := if_neg (by simp [hasU,hg])
    rw [HP.out] at HFP
    clear h hl1 hk hg HP
    go_enter Tryz.func50,Tryz.ntmps50
    go_wp2_with (go_at_call 79; (with_reducible refine (HFP.out _ ext_by).yields ?_); intro q1)
    go_returns
    exact ⟨rfl,ext_by⟩
  | some n =>
    have h0 := hk n hg
    obtain ⟨hn,rfl⟩ := getU_mem hg
    have HP : Hid (nodP W l n.id = .pointer (some ⟨W.nb n.id,0,none⟩)) := if_pos (hasU_iff.2 ⟨n,hn,rfl⟩)
    rw [HP.out] at HFP
    have m3 := (h.pt.cells hn).2.2.2.1
    rw [grp_top h0] at m3
    have hpl := h.pt.nlt hn
    clear h hl1 hk hg HP hn h0
    go_enter Tryz.func50,Tryz.ntmps50
    go_wp2_with (go_at_call 79; (with_reducible refine (HFP.out _ ext_by).yields ?_); intro q1)
    go_returns
    exact ⟨rfl,ext_by⟩
end
end Go.Proofs.YtocicffmajbecaaGreatDoor
namespace Go.Proofs.YtocicffmajbecaaGreatDoor
open Go.RowKit
theorem addC_zero {l : List Nd} {dn : Nat} {parent id wt : Int} {thr : Bool} (hw : isW wt = true) (hi : 0 < id) (hs : Ids l) {p : Nd} (hp : p ∈ l) (hpe : p.id = parent) (hpt : p.thr = false) (hn : getU l id = none) (hd : thr = false → dn < 4) (hl : l.length < 60) : addC l dn parent id wt thr = 0 := by
  have hg : grpU l parent = true := by rw [← hpe]; simp [grpU,getU_of hs hp,hpt]
  unfold addC
  rw [if_neg (by rw [hw]; simp; omega),if_neg (by rw [hg]; simp),if_neg (by simp [hasU,hn]),if_neg (fun h => by have := hd h.1; omega),if_neg (by omega)]
theorem Wf.root {l : List Nd} (h : Wf l) : ∃ r ∈ l,r.id = 0 ∧ r.par = -1 ∧ r.thr = false := by
  obtain ⟨r,hr,e1,e2⟩ := h.sk.root
  exact ⟨r,hr,e1,e2,(h.sk.clo r hr).2.1 (by omega)⟩
theorem Wf.rootRdy {l : List Nd} (h : Wf l) : ∀ (k : Nat) {t : Nd},t ∈ l → t.rdy = true → Chain l k t.id → ∃ r ∈ l,r.id = 0 ∧ r.rdy = true
  | 0,_,_,_,hc => hc.elim
  | k + 1,t,ht,hr,hc => by
    by_cases h0 : t.par < 0
    · exact ⟨t,ht,(h.sk.only t ht h0).1,hr⟩
    · obtain ⟨p,hp,he,hpt⟩ := (h.sk.clo t ht).2.2 (by omega)
      have hpr : p.rdy = true := by
        rw [h.rd p hp hpt,someT_iff]; exact ⟨t,ht,he.symm,hr⟩
      have hcp : Chain l k p.id := by
        obtain ⟨m,hm,e,hc⟩ := hc
        rw [uniqU h.sk.ids hm ht e] at hc
        rw [he]; exact hc.resolve_left h0
      exact Wf.rootRdy h k hp hpr hcp
theorem Wf.ready {l : List Nd} (h : Wf l) {t : Nd} (ht : t ∈ l) (hr : t.rdy = true) : ∃ r ∈ l,r.id = 0 ∧ r.rdy = true := h.rootRdy 5 ht hr (h.sk.chain ht)
theorem wake_keep : ∀ (f : Nat) {l : List Nd} {id : Int} {m : Nd},Ids l → Clo l → m ∈ l → m.thr = true → m.id ≠ id → m ∈ wakeU f l id
  | 0,_,_,_,_,_,h,_,_ => h
  | f + 1,l,id,m,hs,hc,hm,ht,hne => by
    cases hg : getU l id with
    | none => simp only [wakeU,hg]; exact hm
    | some n =>
      obtain ⟨hn,rfl⟩ := getU_mem hg
      by_cases hr : n.rdy = true
      · rw [wakeU_rdy hs hn hr]; exact hm
      · by_cases h0 : n.par < 0
        · rw [wakeU_top hs hn h0]; exact mem_upd_same hm hne
        · obtain ⟨p,hp,he,hpt⟩ := (hc n hn).2.2 (by omega)
          rw [wakeU_on hs hn (by simpa using hr) (by omega) hp he]
          refine wake_keep f (ids_upd (fun _ => rfl) hs) (hc.upd (rdyF_same _)) (mem_upd_same hm hne) ht fun e => ?_
          rw [uniqU hs hm hp e,hpt] at ht; cases ht
theorem rest_keep : ∀ (f : Nat) {l : List Nd} {id : Int} {m : Nd},Ids l → Clo l → m ∈ l → m.thr = true → m.id ≠ id → m ∈ restU f l id
  | 0,_,_,_,_,_,h,_,_ => h
  | f + 1,l,id,m,hs,hc,hm,ht,hne => by
    cases hg : getU l id with
    | none => simp only [restU,hg]; exact hm
    | some n =>
      obtain ⟨hn,rfl⟩ := getU_mem hg
      by_cases hr : n.rdy = true
      · by_cases h0 : n.par < 0
        · rw [restU_top hs hn h0]; exact mem_upd_same hm hne
        · cases hst : someT (upd n.id offF l) n.par with
          | true => rw [restU_stop hs hn hr hst]; exact mem_upd_same hm hne
          | false =>
            rw [restU_on hs hn hr (by omega) hst]
            obtain ⟨p,hp,he,hpt⟩ := (hc n hn).2.2 (by omega)
            refine rest_keep f (ids_upd (fun _ => rfl) hs) (hc.upd offF_same) (mem_upd_same hm hne) ht fun e => ?_
            rw [uniqU hs hm hp (e.trans he.symm),hpt] at ht; cases ht
      · rw [restU_no hs hn (by simpa using hr)]; exact hm
def Like (l l' : List Nd) : Prop := ∀ m' ∈ l',∃ m ∈ l,m'.id = m.id ∧ m'.par = m.par ∧ m'.thr = m.thr ∧ m'.wt = m.wt
theorem Like.refl (l : List Nd) : Like l l := fun m hm => ⟨m,hm,rfl,rfl,rfl,rfl⟩
theorem Like.trans {a b c : List Nd} (h : Like a b) (k : Like b c) : Like a c := fun m hm => by
  obtain ⟨n,hn,e1,e2,e3,e4⟩ := k m hm
  obtain ⟨q,hq,f1,f2,f3,f4⟩ := h n hn
  exact ⟨q,hq,e1.trans f1,e2.trans f2,e3.trans f3,e4.trans f4⟩
theorem Like.map (l : List Nd) {f : Nd → Nd} (hf : ∀ m,(f m).id = m.id ∧ (f m).par = m.par ∧ (f m).thr = m.thr ∧ (f m).wt = m.wt) : Like l (l.map f) := fun m' hm' => by
  obtain ⟨m,hm,rfl⟩ := List.mem_map.1 hm'
  exact ⟨m,hm,hf m⟩
theorem Like.upd (l : List Nd) (id : Int) {f : Nd → Nd} (hf : ∀ m,(f m).id = m.id ∧ (f m).par = m.par ∧ (f m).thr = m.thr ∧ (f m).wt = m.wt) : Like l (upd id f l) := Like.map l fun m => by
  split
  · exact hf m
  · exact ⟨rfl,rfl,rfl,rfl⟩
theorem wake_self {f : Nat} {l : List Nd} {n p : Nd} (hs : Ids l) (hc : Clo l) (hn : n ∈ l) (ht : n.thr = true) (h0 : 0 ≤ n.par) (hp : p ∈ l) (he : p.id = n.par) (hpt : p.thr = false) (hr : n.rdy = false) : rdyF p.now n ∈ wakeU (f + 1) l n.id := by
  rw [wakeU_on hs hn hr h0 hp he]
  refine wake_keep f (ids_upd (fun _ => rfl) hs) (hc.upd (rdyF_same _)) (mem_upd.2 ⟨n,hn,by rw [if_pos rfl]⟩) ht fun e => ?_
  have e : n.id = p.id := e
  rw [uniqU hs hn hp e,hpt] at ht; cases ht
theorem rest_self {f : Nat} {l : List Nd} {n : Nd} (hs : Ids l) (hc : Clo l) (hn : n ∈ l) (ht : n.thr = true) (h0 : 0 ≤ n.par) : offF n ∈ restU (f + 1) l n.id := by
  obtain ⟨p,hp,he,hpt⟩ := (hc n hn).2.2 h0
  by_cases hr : n.rdy = true
  · cases hst : someT (upd n.id offF l) n.par with
    | true => rw [restU_stop hs hn hr hst]; exact mem_upd.2 ⟨n,hn,by rw [if_pos rfl]⟩
    | false =>
      rw [restU_on hs hn hr h0 hst]
      refine rest_keep f (ids_upd (fun _ => rfl) hs) (hc.upd offF_same) (mem_upd.2 ⟨n,hn,by rw [if_pos rfl]⟩) ht fun e => ?_
      have e : n.id = n.par := e
      rw [uniqU hs hn hp (e.trans he.symm),hpt] at ht; cases ht
  · rw [restU_no hs hn (by simpa using hr)]
    have : offF n = n := by
      have hr : n.rdy = false := by simpa using hr
      cases n
      simp only at hr
      subst hr
      rfl
    rw [this]; exact hn
def keyS (n : Nd) : Int × Int × Bool × Int := (n.id,n.par,n.thr,n.wt)
def keyR (n : Nd) : (Int × Int × Bool × Int) × Bool := (keyS n,n.rdy)
def SimS (l l' : List Nd) : Prop := l'.map keyS = l.map keyS
def SimR (l l' : List Nd) : Prop := l'.map keyR = l.map keyR
theorem SimS.refl (l : List Nd) : SimS l l := rfl
theorem SimR.refl (l : List Nd) : SimR l l := rfl
theorem SimS.trans {a b c : List Nd} (h : SimS a b) (k : SimS b c) : SimS a c := Eq.trans k h
theorem SimR.trans {a b c : List Nd} (h : SimR a b) (k : SimR b c) : SimR a c := Eq.trans k h
theorem SimR.s {a b : List Nd} (h : SimR a b) : SimS a b := by
  have := congrArg (List.map Prod.fst) h
  rw [List.map_map,List.map_map] at this
  exact this
theorem SimS.map (l : List Nd) {f : Nd → Nd} (hf : ∀ m,keyS (f m) = keyS m) : SimS l (l.map f) := by
  unfold SimS
  rw [List.map_map]
  exact List.map_congr_left fun m _ => hf m
theorem SimR.map (l : List Nd) {f : Nd → Nd} (hf : ∀ m,keyR (f m) = keyR m) : SimR l (l.map f) := by
  unfold SimR
  rw [List.map_map]
  exact List.map_congr_left fun m _ => hf m
theorem SimS.upd (l : List Nd) (id : Int) {f : Nd → Nd} (hf : ∀ m,keyS (f m) = keyS m) : SimS l (upd id f l) := SimS.map l fun m => by
  split
  · exact hf m
  · rfl
theorem SimR.upd (l : List Nd) (id : Int) {f : Nd → Nd} (hf : ∀ m,keyR (f m) = keyR m) : SimR l (upd id f l) := SimR.map l fun m => by
  split
  · exact hf m
  · rfl
theorem SimS.back {l l' : List Nd} (h : SimS l l') {m' : Nd} (hm : m' ∈ l') : ∃ m ∈ l,keyS m = keyS m' := by
  have : keyS m' ∈ l.map keyS := by rw [← h]; exact List.mem_map.2 ⟨m',hm,rfl⟩
  exact List.mem_map.1 this
theorem SimS.fwd {l l' : List Nd} (h : SimS l l') {m : Nd} (hm : m ∈ l) : ∃ m' ∈ l',keyS m' = keyS m := by
  have : keyS m ∈ l'.map keyS := by rw [h]; exact List.mem_map.2 ⟨m,hm,rfl⟩
  exact List.mem_map.1 this
theorem SimR.back {l l' : List Nd} (h : SimR l l') {m' : Nd} (hm : m' ∈ l') : ∃ m ∈ l,keyR m = keyR m' := by
  have : keyR m' ∈ l.map keyR := by rw [← h]; exact List.mem_map.2 ⟨m',hm,rfl⟩
  exact List.mem_map.1 this
theorem SimR.fwd {l l' : List Nd} (h : SimR l l') {m : Nd} (hm : m ∈ l) : ∃ m' ∈ l',keyR m' = keyR m := by
  have : keyR m ∈ l'.map keyR := by rw [h]; exact List.mem_map.2 ⟨m,hm,rfl⟩
  exact List.mem_map.1 this
theorem SimS.len {l l' : List Nd} (h : SimS l l') : l'.length = l.length := by
  have := congrArg List.length h
  simpa using this
theorem keyS_eq {a b : Nd} (h : keyS a = keyS b) : a.id = b.id ∧ a.par = b.par ∧ a.thr = b.thr ∧ a.wt = b.wt := by
  simp only [keyS,Prod.mk.injEq] at h
  exact h
theorem keyR_eq {a b : Nd} (h : keyR a = keyR b) : a.id = b.id ∧ a.par = b.par ∧ a.thr = b.thr ∧ a.wt = b.wt ∧ a.rdy = b.rdy := by
  simp only [keyR,Prod.mk.injEq] at h
  obtain ⟨h1,h2,h3,h4⟩ := keyS_eq h.1
  exact ⟨h1,h2,h3,h4,h.2⟩
theorem wake_sim : ∀ (f : Nat) (l : List Nd) (id : Int),SimS l (wakeU f l id)
  | 0,l,_ => SimS.refl l
  | f + 1,l,id => by
    simp only [wakeU]
    split
    · exact SimS.refl l
    · split
      · exact SimS.refl l
      · split
        · exact SimS.upd l _ fun _ => rfl
        · exact (SimS.upd l _ (f := rdyF _) fun _ => rfl).trans (wake_sim f _ _)
theorem rest_sim : ∀ (f : Nat) (l : List Nd) (id : Int),SimS l (restU f l id)
  | 0,l,_ => SimS.refl l
  | f + 1,l,id => by
    simp only [restU]
    split
    · exact SimS.refl l
    · split
      · exact SimS.refl l
      · split
        · exact SimS.upd l _ fun _ => rfl
        · exact (SimS.upd l _ (f := offF) fun _ => rfl).trans (rest_sim f _ _)
theorem rdyU_sim (r : Bool) (l : List Nd) (id : Int) : SimS l (rdyU r l id) := by
  unfold rdyU; split
  · exact wake_sim _ _ _
  · exact rest_sim _ _ _
theorem run_sim : ∀ (f : Nat) {l : List Nd} {id : Int} {R : Int × List Nd},runU f l id = some R → SimR l R.2
  | 0,_,_,_,h => by cases h
  | f + 1,l,id,R,h => by
    simp only [runU] at h
    split at h
    · cases h
    · split at h
      · obtain rfl := Option.some.inj h; exact SimR.refl l
      · split at h
        · cases h
        · exact ((SimR.upd l _ (f := nowF _) fun _ => rfl).trans (SimR.upd _ _ (f := goF) fun _ => rfl)).trans (run_sim f h)
theorem reb_sim (l : List Nd) (g : Int) : SimR l (rebU l g) := by
  unfold rebU
  exact (SimR.map l fun m => by split <;> rfl).trans (SimR.upd _ _ (f := nowF 0) fun _ => rfl)
theorem up_sim : ∀ (f : Nat) (l : List Nd) (id : Int),SimR l (upR f l id)
  | 0,l,_ => SimR.refl l
  | f + 1,l,id => by
    simp only [upR]
    split
    · exact SimR.refl l
    · split
      · exact SimR.refl l
      · split
        · exact (reb_sim l _).trans (up_sim f _ _)
        · exact up_sim f _ _
theorem Wf.quantum {l : List Nd} (h : Wf l) {t : Nd} (ht : t ∈ l) (hr : t.rdy = true) : ∃ r R,r ∈ l ∧ r.id = 0 ∧ r.rdy = true ∧ runU 6 l 0 = some R ∧ Wf (upR 6 R.2 R.1) ∧ SimR l (upR 6 R.2 R.1) ∧ ∃ m ∈ l,m.id = R.1 ∧ m.thr = true ∧ m.rdy = true := by
  obtain ⟨r,hr1,hr2,hr3⟩ := h.ready ht hr
  obtain ⟨R,h1,h2,m,hm,e1,e2,e3⟩ := h.run hr1 hr2 hr3
  have hs := run_sim 6 h1
  obtain ⟨m0,hm0,ek⟩ := hs.back hm
  obtain ⟨k1,k2,k3,k4,k5⟩ := keyR_eq ek
  exact ⟨r,R,hr1,hr2,hr3,h1,h2,hs.trans (up_sim 6 R.2 R.1),m0,hm0,k1.trans e1,k3.trans e2,k5.trans e3⟩
theorem Wf.quiet {l : List Nd} (h : Wf l) (hn : ∀ m ∈ l,m.thr = true → m.rdy = false) : ∃ r ∈ l,r.id = 0 ∧ r.rdy = false := by
  obtain ⟨r,hr,e,-,-⟩ := h.root
  cases hrd : r.rdy with
  | false => exact ⟨r,hr,e,hrd⟩
  | true =>
    obtain ⟨_,_,_,_,_,_,_,_,m,hm,-,ht,hr'⟩ := h.quantum hr hrd
    rw [hn m hm ht] at hr'; cases hr'
end Go.Proofs.YtocicffmajbecaaGreatDoor
namespace Go.Proofs.YtocicffmajbecaaGreatDoor
open Go.RowKit
set_option linter.unusedSimpArgs false
def delU (l : List Nd) (id : Int) : List Nd := l.eraseIdx (placeT l id)
theorem mem_eraseIdx_ids {l : List Nd} (hs : Ids l) : ∀ {i : Nat} (hi : i < l.length) {m : Nd},m ∈ l.eraseIdx i ↔ m ∈ l ∧ m.id ≠ l[i].id := by
  intro i hi m
  constructor
  · intro h
    have hm := List.mem_of_mem_eraseIdx h
    refine ⟨hm,fun e => ?_⟩
    obtain ⟨j,hj,e2⟩ := List.mem_iff_getElem.1 h
    rw [List.getElem_eraseIdx] at e2
    rw [List.length_eraseIdx,if_pos hi] at hj
    split at e2
    · have := ids_get hs (by omega : j < l.length) hi (by omega)
      rw [e2] at this; omega
    · have := ids_get hs hi (by omega : j + 1 < l.length) (by omega)
      rw [e2] at this; omega
  · rintro ⟨hm,hne⟩
    obtain ⟨j,hj,rfl⟩ := List.mem_iff_getElem.1 hm
    have hji : j ≠ i := fun e => by subst e; exact hne rfl
    refine List.mem_iff_getElem.2 ?_
    by_cases h : j < i
    · exact ⟨j,by rw [List.length_eraseIdx,if_pos hi]; omega,by rw [List.getElem_eraseIdx,dif_pos h]⟩
    · refine ⟨j - 1,by rw [List.length_eraseIdx,if_pos hi]; omega,?_⟩
      rw [List.getElem_eraseIdx,dif_neg (by omega)]
      congr 1; omega
theorem place_get {l : List Nd} (hs : Ids l) {n : Nd} (hn : n ∈ l) : ∃ h : placeT l n.id < l.length,l[placeT l n.id] = n := by
  have := placeT_has hs hn
  have hlt := (List.getElem?_eq_some_iff.1 this)
  exact ⟨hlt.1,hlt.2⟩
theorem mem_delU {l : List Nd} (hs : Ids l) {n : Nd} (hn : n ∈ l) {m : Nd} : m ∈ delU l n.id ↔ m ∈ l ∧ m.id ≠ n.id := by
  obtain ⟨h1,h2⟩ := place_get hs hn
  unfold delU
  rw [mem_eraseIdx_ids hs h1,h2]
theorem delU_length {l : List Nd} (hs : Ids l) {n : Nd} (hn : n ∈ l) : (delU l n.id).length + 1 = l.length := by
  obtain ⟨h1,h2⟩ := place_get hs hn
  unfold delU
  rw [List.length_eraseIdx,if_pos h1]; omega
theorem ids_delU {l : List Nd} (hs : Ids l) (id : Int) : Ids (delU l id) := List.Pairwise.sublist (List.eraseIdx_sublist l _) hs
theorem kids_nil {l : List Nd} {g : Int} : kidsU l g = [] ↔ ∀ m ∈ l,m.par ≠ g := by
  unfold kidsU
  rw [List.filter_eq_nil_iff]
  simp
section
variable {base : Nat} {x : Site} {W : Wit} {l : List Nd} {w w' : World}
theorem Pt.remove (h : Pt base x W l w) (hs : Ids l) {n : Nd} (hn : n ∈ l) {v' : Value} (hrow : w'.ownsRow base 119 1 v' (delU l n.id).length ((W.ptrs l).eraseIdx (placeT l n.id))) (hg : w.grownBy w' W.v.ownBlock) (hv : v'.ownBlock = W.v.ownBlock) :
    Pt base x { W with v := v' } (delU l n.id) (w'.setCell ⟨x.b,x.d,none⟩ v') ∧ Fr (Own x W l) (Own x { W with v := v' } (delU l n.id)) w (w'.setCell ⟨x.b,x.d,none⟩ v') := by
  have hm : ∀ {m},m ∈ delU l n.id → m ∈ l := fun h => ((mem_delU hs hn).1 h).1
  have keep : ∀ b,b < w.heap.size → b ≠ x.b → W.v.ownBlock ≠ some b → (w'.setCell ⟨x.b,x.d,none⟩ v').heap[b]? = w.heap[b]? := fun b hb h1 h2 => by
    rw [Below.heap_setCell _ _ _ _ (by simpa using h1)]
    exact hg.block b hb (Ne.symm h2)
  have hxb : x.At [W.v] w' := h.blk.same (hg.block x.b h.lt (Ne.symm (owns_bne h.row h.blk h.ty.2.2.2)))
  have hsub : ∀ m : Nd,pnc { W with v := v' } m = pnc W m := fun m => rfl
  refine ⟨⟨?_,h.ty,h.hx,?_,?_,?_,?_,?_,?_⟩,⟨hg.os,hg.tape,hg.output,?_,?_,?_⟩⟩
  · exact hxb.set1 v'
  · have e : Wit.ptrs { W with v := v' } (delU l n.id) = (W.ptrs l).eraseIdx (placeT l n.id) := by
      unfold Wit.ptrs delU
      rw [List.eraseIdx_eq_take_drop_succ,List.eraseIdx_eq_take_drop_succ,List.map_append,List.map_take,List.map_drop]
    rw [e]
    refine owns_keep hrow fun g hgv => Below.heap_setCell _ _ _ _ fun e => ?_
    have e : g = x.b := e
    subst e
    exact owns_bne hrow hxb h.ty.2.2.2 hgv
  · intro m hm'
    refine ⟨?_,(h.node m (hm hm')).2⟩
    rw [hsub]
    show (w'.setCell _ _).heap[W.nb m.id]? = _
    rw [keep _ (h.nlt (hm hm')) (fun e => h.n_x (hm hm') e.symm) (h.n_v (hm hm'))]
    exact (h.node m (hm hm')).1
  · intro m hm' ht
    obtain ⟨hq,hqb⟩ := h.idx m (hm hm') ht
    exact ⟨hq.keep (keep _ hq.lt (h.q_x (hm hm') ht).symm (h.q_v (hm hm') ht)) fun g hgv => keep g (hq.row.lt g hgv).2 (fun e => h.r_x (hm hm') ht (by rw [hgv,e])) (h.r_v (hm hm') ht hgv),hqb⟩
  · exact fun a ha b hb => h.injN a (hm ha) b (hm hb)
  · exact fun a ha b hb => h.injQ a (hm ha) b (hm hb)
  · exact fun a ha b hb => h.injV a (hm ha) b (hm hb)
  · have := hg.size; simp [World.setCell]; omega
  · intro k hk hS
    exact keep k hk (fun e => hS (.inl e)) (fun e => hS (.inr (.inl e)))
  · rintro k (rfl | hk | ⟨m,hm',hk⟩)
    · exact .inl (.inl rfl)
    · exact .inl (.inr (.inl (by rw [← hv]; exact hk)))
    · exact .inl (.inr (.inr ⟨m,hm hm',hk⟩))
theorem QOk.remove (hq : QOk W l) (hs : Ids l) {n : Nd} (hn : n ∈ l) (hr : n.rdy = false) (v' : Value) : QOk { W with v := v' } (delU l n.id) := by
  intro g hg ht
  have hg' := ((mem_delU hs hn).1 hg).1
  refine ⟨(hq g hg' ht).1,fun e => ?_⟩
  show e ∈ W.rw g.id ↔ _
  rw [(hq g hg' ht).2]
  constructor
  · rintro ⟨m,hm,hp,hr',e⟩
    refine ⟨m,(mem_delU hs hn).2 ⟨hm,fun e' => ?_⟩,hp,hr',e⟩
    rw [uniqU hs hm hn e',hr] at hr'; cases hr'
  · rintro ⟨m,hm,hp,hr',e⟩
    exact ⟨m,((mem_delU hs hn).1 hm).1,hp,hr',e⟩
theorem up_del (hs : Ids l) {n : Nd} (hn : n ∈ l) (hk : ∀ m ∈ l,m.par ≠ n.id) : ∀ (k : Nat) (id : Int),id ≠ n.id → Up l k id → Up (delU l n.id) k id
  | 0,id,hne,h => getU_none.2 fun m hm => getU_none.1 (show getU l id = none from h) m ((mem_delU hs hn).1 hm).1
  | k + 1,id,hne,h => by
    obtain ⟨m,hm,e,h⟩ := h
    exact ⟨m,(mem_delU hs hn).2 ⟨hm,by omega⟩,e,up_del hs hn hk k _ (hk m hm) h⟩
theorem Wf.remove (h : Wf l) {n : Nd} (hn : n ∈ l) (h0 : 0 ≤ n.par) (hr : n.rdy = false) (hk : ∀ m ∈ l,m.par ≠ n.id) : Wf (delU l n.id) where
  sk := {
    ids := ids_delU h.sk.ids _
    clo := fun m hm => by
      obtain ⟨hm,hne⟩ := (mem_delU h.sk.ids hn).1 hm
      obtain ⟨h1,h2,h3⟩ := h.sk.clo m hm
      refine ⟨h1,h2,fun h4 => ?_⟩
      obtain ⟨p,hp,he,ht⟩ := h3 h4
      exact ⟨p,(mem_delU h.sk.ids hn).2 ⟨hp,fun e => hk m hm (by rw [← he,e])⟩,he,ht⟩
    root := by
      obtain ⟨r,hr,e1,e2⟩ := h.sk.root
      refine ⟨r,(mem_delU h.sk.ids hn).2 ⟨hr,fun e => ?_⟩,e1,e2⟩
      rw [uniqU h.sk.ids hr hn e] at e2
      omega
    only := fun m hm => h.sk.only m ((mem_delU h.sk.ids hn).1 hm).1
    dep := fun m hm => by
      obtain ⟨hm,hne⟩ := (mem_delU h.sk.ids hn).1 hm
      obtain ⟨k,h1,h2,h3⟩ := h.sk.dep m hm
      exact ⟨k,h1,up_del h.sk.ids hn hk k _ hne h2,h3⟩
    len := by have := delU_length h.sk.ids hn; have := h.sk.len; omega }
  num := ⟨fun m hm => h.num.top m ((mem_delU h.sk.ids hn).1 hm).1,fun m hm => h.num.wt m ((mem_delU h.sk.ids hn).1 hm).1,fun m hm => h.num.now m ((mem_delU h.sk.ids hn).1 hm).1,
    fun m hm p hp => h.num.lag m ((mem_delU h.sk.ids hn).1 hm).1 p ((mem_delU h.sk.ids hn).1 hp).1⟩
  rd := fun g hg ht => by
    obtain ⟨hg,hne⟩ := (mem_delU h.sk.ids hn).1 hg
    rw [h.rd g hg ht,Bool.eq_iff_iff,someT_iff,someT_iff]
    constructor
    · rintro ⟨m,hm,hp,hr'⟩
      refine ⟨m,(mem_delU h.sk.ids hn).2 ⟨hm,fun e => ?_⟩,hp,hr'⟩
      rw [uniqU h.sk.ids hm hn e,hr] at hr'; cases hr'
    · rintro ⟨m,hm,hp,hr'⟩
      exact ⟨m,((mem_delU h.sk.ids hn).1 hm).1,hp,hr'⟩
theorem removeP_10 (h : TOk base x W l w) {n : Nd} (hn : n ∈ l) (h0 : 0 ≤ n.par) (hk : kidsU l n.id ≠ []) :
    Calls Tryz.prog 50 #[.pointer (some ⟨x.b,x.d,none⟩),.int .i64 n.id] w (Yields w (errV 10)) := by
  have hl1 : l.length ≤ 1000 := by have := h.len; omega
  have HFP : Hid (∀ w',Ext w w' → Calls Tryz.prog 79 #[.pointer (some ⟨x.b,x.d,none⟩),.int .i64 n.id] w' (Yields w' (.pointer (some ⟨W.nb n.id,0,none⟩)))) := fun w' hx => find_yes (h.pt.ext hx) h.ids hl1 hn
  have m3 := (h.pt.cells hn).2.2.2.1
  rw [grp_up (by omega)] at m3
  have hpl := h.pt.nlt hn
  have HWI := hid fun w' hx => within_any (w := w') (h.pt.ext hx) h.clo h.len hn
  obtain ⟨K,hK⟩ : ∃ K : Nat,(kidsU l n.id).length = K + 1 := by
    cases hc : kidsU l n.id with
    | nil => exact absurd hc hk
    | cons a r => exact ⟨r.length,rfl⟩
  rw [hK] at HWI
  rw [errV_pos (by decide)]
  clear h hl1 hk hn h0 hK
  go_enter Tryz.func50,Tryz.ntmps50
  go_wp2_with (go_at_call 79; (with_reducible refine (HFP.out _ ext_by).yields ?_); intro q1)
  (with_reducible refine (HWI.out _ (ext_more w q1)).mono ?_)
  rintro e w2 ⟨v',rfl,hrow,hx2⟩
  have hx3 := hid ((ext_more w q1).trans hx2)
  obtain ⟨p,c,rfl⟩ : ∃ p c,v' = .slice p (K + 1) c := by
    rcases hrow.2 with ⟨_,h0⟩ | ⟨g,cap,cur,e,-⟩
    · omega
    · exact ⟨_,_,e⟩
  clear hrow hx2
  go_wp2
  go_returns
  exact ⟨rfl,hx3.out⟩
set_option maxRecDepth 100000 in
set_option maxHeartbeats 4000000 in
theorem removeP_ok (h : TOk base x W l w) {n : Nd} (hn : n ∈ l) (h0 : 0 ≤ n.par) (hk : kidsU l n.id = []) (f : Nat) (hch : Chain l f n.id) (hids : Ids (restU f l n.id)) (hrest : ∃ n1 ∈ restU f l n.id,n1.id = n.id ∧ n1.rdy = false) (hlen : (restU f l n.id).length = l.length) (hclo : (restU f l n.id).length ≤ 60) :
    Calls Tryz.prog 50 #[.pointer (some ⟨x.b,x.d,none⟩),.int .i64 n.id] w fun e w' => e = .returned .nilIface ∧ ∃ W',Pt base x W' (delU (restU f l n.id) n.id) w' ∧ QOk W' (delU (restU f l n.id) n.id) ∧ Fr (Own x W l) (Own x W' (delU (restU f l n.id) n.id)) w w' := by
  have hl1 : l.length ≤ 1000 := by have := h.len; omega
  have HFP : Hid (∀ w',Ext w w' → Calls Tryz.prog 79 #[.pointer (some ⟨x.b,x.d,none⟩),.int .i64 n.id] w' (Yields w' (.pointer (some ⟨W.nb n.id,0,none⟩)))) := fun w' hx => find_yes (h.pt.ext hx) h.ids hl1 hn
  have m3 := (h.pt.cells hn).2.2.2.1
  rw [grp_up (by omega)] at m3
  have hpl := h.pt.nlt hn
  have HWI := hid fun w' hx => within_any (w := w') (h.pt.ext hx) h.clo h.len hn
  have hK : (kidsU l n.id).length = 0 := by rw [hk]; rfl
  rw [hK] at HWI
  have HRE := hid fun w' (hx : Ext w w') => rest_any (h.pt.ext hx) h.qok h.ids h.clo h.len hn f hch
  obtain ⟨n1,hn1,e1,hr1⟩ := hrest
  generalize hLL : restU f l n.id = L at *
  have HI := hid hids
  have HN1 := hid hn1
  have HE1 := hid e1
  have HR1 := hid hr1
  have HLN := hid hlen
  have H60 := hid hclo
  clear h hl1 hk hn h0 hK hids hn1 e1 hr1 hlen hclo hch
  go_enter Tryz.func50,Tryz.ntmps50
  go_wp2_with (go_at_call 79; (with_reducible refine (HFP.out _ ext_by).yields ?_); intro q1)
  (with_reducible refine (HWI.out _ (ext_more w q1)).mono ?_)
  rintro e w2 ⟨v',rfl,hrow,hx2⟩
  have hx3 := (ext_more w q1).trans hx2
  obtain ⟨p,c,rfl⟩ : ∃ p c,v' = .slice p 0 c := by
    rcases hrow.2 with ⟨e,_⟩ | ⟨g,cap,cur,e,-⟩
    · exact ⟨_,_,e⟩
    · exact ⟨_,_,e⟩
  have HX3 := hid hx3
  clear hrow hx2 hx3 m3 hpl
  go_wp2_with fail
  (with_reducible refine (HRE.out _ HX3.out).mono ?_)
  rintro e w3 ⟨rfl,W1,hp,hq,hF,hv1,hv2,hv3⟩
  have HP := hid hp
  have HQ := hid hq
  have HF0 : Hid (Fr (Own x W l) (Own x W1 L) w w3) := (Fr.of_ext HX3.out).trans hF
  clear hp hq hF hv1 hv2 hv3 HRE HX3 HWI HFP
  go_wp2_with fail
  have hl2 : L.length ≤ 1000 := by have := H60.out; omega
  have HPL := hid (place_at HP.out HI.out hl2 n.id)
  obtain ⟨hplt,-⟩ := place_get HI.out HN1.out
  rw [HE1.out] at hplt
  (with_reducible refine HPL.out.mono ?_)
  rintro e w4 ⟨rfl,hx4⟩
  have HP4 := hid (HP.out.ext hx4)
  have HF4 := hid (HF0.out.ext hx4)
  obtain ⟨pp,cap,hv,hcap,hcm,hp0,hp1⟩ := HP4.out.shape
  obtain ⟨ad,rfl⟩ : ∃ a,pp = some a := by
    cases pp with
    | none => have e := (hp0 rfl).1; have := HN1.out; rw [e] at this; cases this
    | some a => exact ⟨a,rfl⟩
  obtain ⟨g,rfl,hgb,hgl⟩ := hp1 ad rfl
  have HV := hid hv
  have cx := HP4.out.cell
  rw [hv] at cx
  have fx := HP4.out.xfree
  have hxl := HP4.out.lt
  have hrow := HP4.out.row
  rw [hv] at hrow
  have HNG : Hid (g ≠ x.b) := fun e => by
    have := owns_bne hrow HP4.out.blk HP4.out.ty.2.2.2
    rw [e] at this
    exact this rfl
  obtain ⟨k,hk⟩ : ∃ k,L.length = placeT L n.id + k + 1 := ⟨L.length - placeT L n.id - 1,by omega⟩
  rw [hk] at hrow cx
  have hone : ∀ u ∈ W1.ptrs L,u.oneCell' = true := fun u hu => by
    unfold Wit.ptrs at hu
    obtain ⟨m,-,rfl⟩ := List.mem_map.1 hu
    rfl
  have HDEL := hid (deleteP_any _ g cap (placeT L n.id) k (W1.ptrs L) (by rw [ptrs_len]; exact hk) (by rw [ptrs_len]; omega) hone w4 hrow)
  have HK := hid hk
  have hp60 : (placeT L n.id : Int) ≤ 60 := by have := H60.out; omega
  clear hx4 hp0 hp1 hv hrow hone hk hplt HP HF0 HPL
  generalize hasU L n.id = hs at *
  generalize hpp : placeT L n.id = pl at *
  have HPP := hid hpp
  clear hpp
  go_wp2_with fail
  (with_reducible refine HDEL.out.mono ?_)
  rintro e w5 ⟨rfl,hrow5,hg5⟩
  have hb5 : w5.heap[x.b]? = w4.heap[x.b]? := hg5.block x.b HP4.out.lt (by
    have := HNG.out
    simp only [ne_eq,Option.some.injEq]
    exact fun e => this e.symm)
  have cx5 : w5.cell? ⟨x.b,x.d,none⟩ = some (.slice (some ⟨g,0,none⟩) (pl + k + 1) cap) := by rw [← cx]; simp [World.cell?,hb5]
  have fx5 : w5.frozen? ⟨x.b,x.d,none⟩ = false := by rw [← fx]; simp [World.frozen?,hb5]
  have hx5 : x.b < w5.heap.size := Nat.lt_of_lt_of_le hxl hg5.size
  have hdl : (delU L n.id).length = pl + k := by
    have := delU_length HI.out HN1.out
    rw [HE1.out] at this
    have := HK.out
    omega
  have HFIN : Hid (∃ W',Pt base x W' (delU L n.id) (w5.setCell ⟨x.b,x.d,none⟩ (.slice (some ⟨g,0,none⟩) (pl + k) cap)) ∧ QOk W' (delU L n.id) ∧ Fr (Own x W l) (Own x W' (delU L n.id)) w (w5.setCell ⟨x.b,x.d,none⟩ (.slice (some ⟨g,0,none⟩) (pl + k) cap))) := by
    have hrm := HP4.out.remove HI.out HN1.out (v' := .slice (some ⟨g,0,none⟩) (pl + k) cap) (w' := w5) (by rw [HE1.out,hdl,HPP.out]; exact hrow5) (by rw [HV.out]; exact hg5) (by rw [HV.out]; rfl)
    have hqr := HQ.out.remove HI.out HN1.out HR1.out (.slice (some ⟨g,0,none⟩) (pl + k) cap)
    rw [HE1.out] at hrm hqr
    exact ⟨_,hrm.1,hqr,HF4.out.trans hrm.2⟩
  clear hrow5 hg5 hb5 hdl HDEL HP4 HF4 cx fx hxl HV HK HNG
  go_wp2
  go_returns
  exact ⟨rfl,HFIN.out⟩
end
end Go.Proofs.YtocicffmajbecaaGreatDoor
namespace Go.Proofs.YtocicffmajbecaaGreatDoor
open Go.RowKit
set_option linter.unusedSimpArgs false
def dnU : Nat → List Nd → Int → Nat
  | 0,_,_ => 0
  | f + 1,l,id => match getU l id with
    | none => 0
    | some n => dnU f l n.par + 1
theorem dnU_of {l : List Nd} (hs : Ids l) : ∀ (f k : Nat) (id : Int),Up l k id → k < f → dnU f l id = k
  | 0,_,_,_,h => absurd h (Nat.not_lt_zero _)
  | f + 1,0,id,hu,_ => by
    have : getU l id = none := hu
    simp only [dnU,this]
  | f + 1,k + 1,id,hu,h => by
    obtain ⟨n,hn,e,hu⟩ := hu
    have : getU l id = some n := by rw [← e]; exact getU_of hs hn
    simp only [dnU,this]
    rw [dnU_of hs f k n.par hu (by omega)]
theorem Wf.dn {l : List Nd} (h : Wf l) (id : Int) : Up l (dnU 6 l id) id ∧ dnU 6 l id ≤ 5 := by
  cases hg : getU l id with
  | none =>
    have : Up l 0 id := hg
    rw [dnU_of h.sk.ids 6 0 id this (by omega)]
    exact ⟨this,by omega⟩
  | some n =>
    obtain ⟨hn,rfl⟩ := getU_mem hg
    obtain ⟨k,h1,h2,-⟩ := h.sk.dep n hn
    rw [dnU_of h.sk.ids 6 k n.id h2 (by omega)]
    exact ⟨h2,h1⟩
def addK (l : List Nd) (parent id wt : Int) (thr : Bool) : Nat := addC l (dnU 6 l parent) parent id wt thr
def addL (l : List Nd) (parent id wt : Int) (thr : Bool) : List Nd := if addK l parent id wt thr = 0 then insT (newN l parent id wt thr) l else l
def remK (l : List Nd) (id : Int) : Nat := match getU l id with
  | none => 13
  | some n => if n.par < 0 then 13 else if (kidsU l id).isEmpty = true then 0 else 10
def remL (l : List Nd) (id : Int) : List Nd := if remK l id = 0 then delU (restU 5 l id) id else l
def rdyK (l : List Nd) (id : Int) : Nat := match getU l id with
  | none => 13
  | some n => if n.thr = true then 0 else 13
def rdyL (l : List Nd) (id : Int) (r : Bool) : List Nd := if rdyK l id = 0 then rdyU r l id else l
def wtK (l : List Nd) (id wt : Int) : Nat := if isW wt = false then 10 else match getU l id with
  | none => 13
  | some n => if n.par < 0 then 13 else 0
def parU (l : List Nd) (id : Int) : Int := match getU l id with
  | none => -1
  | some n => n.par
def wtA (l : List Nd) (id wt : Int) : List Nd := if wtK l id wt = 0 then upd id (wtF (nowU l (parU l id)) wt) l else l
def runK (l : List Nd) : Int × Bool := match runU 6 l 0 with
  | none => (0,false)
  | some R => (R.1,true)
def runL (l : List Nd) : List Nd := match runU 6 l 0 with
  | none => l
  | some R => upR 6 R.2 R.1
section
variable {w0 w : World} {x : Site} {l : List Nd} {fr : List (Nat × Obj)}
theorem errV_zero : errV 0 = .nilIface := rfl
theorem Wf.addL (hw : Wf l) (parent id wt : Int) (thr : Bool) : Wf (addL l parent id wt thr) := by
  unfold Go.Proofs.YtocicffmajbecaaGreatDoor.addL
  split
  · exact hw.add ‹_› (hw.dn parent).1
  · exact hw
theorem Wf.rdyL (hw : Wf l) (id : Int) (r : Bool) : Wf (rdyL l id r) := by
  unfold Go.Proofs.YtocicffmajbecaaGreatDoor.rdyL
  split
  · rename_i hk
    unfold rdyK at hk
    split at hk
    · cases hk
    · rename_i n hg
      obtain ⟨hn,rfl⟩ := getU_mem hg
      split at hk
      · exact hw.rdyU hn ‹_› r
      · cases hk
  · exact hw
theorem Wf.wtA (hw : Wf l) (id wt : Int) : Wf (wtA l id wt) := by
  unfold Go.Proofs.YtocicffmajbecaaGreatDoor.wtA
  split
  · rename_i hk
    unfold wtK at hk
    split at hk
    · cases hk
    · rename_i hi
      split at hk
      · cases hk
      · rename_i n hg
        obtain ⟨hn,hid⟩ := getU_mem hg
        split at hk
        · cases hk
        · obtain ⟨p,hp,he,-⟩ := (hw.sk.clo n hn).2.2 (by omega)
          have hpn : nowU l (parU l id) = p.now := by
            have : parU l id = n.par := by simp [parU,hg]
            rw [this,← he]; exact nowU_of hw.sk.ids hp
          rw [hpn,← hid]
          exact hw.weight hn (by omega) hp he (by simpa using hi)
  · exact hw
theorem Wf.run_none (hw : Wf l) {r : Nd} (hr : r ∈ l) (hr0 : r.id = 0) (hrd : r.rdy = false) : runU 6 l 0 = none := by
  have hrt : r.thr = false := by
    obtain ⟨q,hq,e1,-,e3⟩ := hw.root
    rw [uniqU hw.sk.ids hr hq (hr0.trans e1.symm)]; exact e3
  have hb : bestU l r.id = none := by rw [bestU_none,← hw.rd r hr hrt]; exact hrd
  rw [← hr0]
  exact runU_none hw.sk.ids hr hrt hb
theorem Wf.runL (hw : Wf l) : Wf (runL l) := by
  obtain ⟨r,hr,hr0,-,-⟩ := hw.root
  cases hrd : r.rdy with
  | false =>
    have hn := hw.run_none hr hr0 hrd
    have h2 : Go.Proofs.YtocicffmajbecaaGreatDoor.runL l = l := by simp [Go.Proofs.YtocicffmajbecaaGreatDoor.runL,hn]
    rw [h2]; exact hw
  | true =>
    obtain ⟨R,hR,h3,-⟩ := hw.run hr hr0 hrd
    have h2 : Go.Proofs.YtocicffmajbecaaGreatDoor.runL l = upR 6 R.2 R.1 := by simp [Go.Proofs.YtocicffmajbecaaGreatDoor.runL,hR]
    rw [h2]; exact h3
theorem Wf.rested (hw : Wf l) {n : Nd} (hn : n ∈ l) (h0 : 0 ≤ n.par) (hk : ∀ m ∈ l,m.par ≠ n.id) : Wf (restU 5 l n.id) ∧ (∃ n1 ∈ restU 5 l n.id,n1.id = n.id ∧ n1.par = n.par ∧ n1.rdy = false) ∧ ∀ m ∈ restU 5 l n.id,m.par ≠ n.id := by
  have hsim := rest_sim 5 l n.id
  have hkids : ∀ m ∈ restU 5 l n.id,m.par ≠ n.id := fun m hm => by
    obtain ⟨m0,hm0,ek⟩ := hsim.back hm
    obtain ⟨-,k2,-⟩ := keyS_eq ek
    rw [← k2]; exact hk m0 hm0
  cases ht : n.thr with
  | true => exact ⟨hw.rest hn ht,⟨offF n,rest_self (f := 4) hw.sk.ids hw.sk.clo hn ht h0,rfl,rfl,rfl⟩,hkids⟩
  | false =>
    have hr : n.rdy = false := by
      rw [hw.rd n hn ht,someT_not]
      exact fun m hm hp => absurd hp (hk m hm)
    rw [restU_no hw.sk.ids hn hr] at hkids ⊢
    exact ⟨hw,⟨n,hn,rfl,rfl,hr⟩,hkids⟩
theorem Wf.remL (hw : Wf l) (id : Int) : Wf (remL l id) := by
  unfold Go.Proofs.YtocicffmajbecaaGreatDoor.remL
  split
  · rename_i hk
    unfold remK at hk
    split at hk
    · cases hk
    · rename_i n hg
      obtain ⟨hn,rfl⟩ := getU_mem hg
      split at hk
      · cases hk
      · split at hk
        · rename_i h0 he
          have hkn := kids_nil.1 (List.isEmpty_iff.1 he)
          obtain ⟨h1,⟨n1,hn1,e1,e2,e3⟩,h3⟩ := hw.rested hn (by omega) hkn
          have := h1.remove hn1 (by omega) e3 (by rw [e1]; exact h3)
          rwa [e1] at this
        · cases hk
  · exact hw
end
structure Ste where
  what : Int
  id : Int
  a : Int
  b : Int
  thr : Bool
def stepL (l : List Nd) (s : Ste) : List Nd := if s.what ≤ 1 then addL l s.a s.id s.b s.thr else if s.what = 2 then remL l s.id else if s.what ≤ 4 then rdyL l s.id s.thr else if s.what = 5 then wtA l s.id s.b else runL l
theorem Wf.stepL {l : List Nd} (hw : Wf l) (s : Ste) : Wf (stepL l s) := by
  unfold Go.Proofs.YtocicffmajbecaaGreatDoor.stepL
  split
  · exact hw.addL _ _ _ _
  · split
    · exact hw.remL _
    · split
      · exact hw.rdyL _ _
      · split
        · exact hw.wtA _ _
        · exact hw.runL
theorem Wf.ne {l : List Nd} (hw : Wf l) : l ≠ [] := fun e => by
  obtain ⟨r,hr,-⟩ := hw.root
  rw [e] at hr; cases hr
end Go.Proofs.YtocicffmajbecaaGreatDoor
namespace Go.Proofs.YtocicffmajbecaaGreatDoor
open Go.RowKit
set_option linter.unusedSimpArgs false
theorem Pt.lower {base base' : Nat} {x : Site} {W : Wit} {l : List Nd} {w : World} (h : Pt base x W l w) (hb : base' ≤ base) : Pt base' x W l w :=
  ⟨h.blk,h.ty,Nat.le_trans hb h.hx,owns_base h.row hb,fun n hn => ⟨(h.node n hn).1,Nat.le_trans hb (h.node n hn).2⟩,fun n hn ht => ⟨⟨(h.idx n hn ht).1.blk,(h.idx n hn ht).1.row.base hb⟩,Nat.le_trans hb (h.idx n hn ht).2⟩,h.injN,h.injQ,h.injV⟩
def TG (w0 : World) (x : Site) (l : List Nd) (A : Nat → Prop) (v w : World) : Prop := ∃ W,Pt w0.heap.size x W l w ∧ QOk W l ∧ Ext w0 w ∧ Fr A (Own x W l) v w
def TA (w0 : World) (x : Site) (l : List Nd) (A : Nat → Prop) (w : World) : Prop := ∃ W,Pt w0.heap.size x W l w ∧ QOk W l ∧ Ext w0 w ∧ A = Own x W l
section
variable {w0 v w w' : World} {x : Site} {l l' : List Nd} {A B C : Nat → Prop}
theorem TG.xt (h : TG w0 x l A v w) : Ext w0 w := by obtain ⟨W,_,_,h,_⟩ := h; exact h
theorem TG.ext (h : TG w0 x l A v w) (k : Ext w w') : TG w0 x l A v w' := by
  obtain ⟨W,h1,h2,h3,h4⟩ := h
  exact ⟨W,h1.ext k,h2,h3.trans k,h4.trans ⟨k.below.os,k.below.tape,k.below.output,k.size,fun i hi _ => k.below.block i hi,fun _ h => .inl h⟩⟩
theorem TG.go {W W' : Wit} (h1 : Pt w0.heap.size x W l w) (h3 : Ext w0 w) (h4 : Fr A (Own x W l) v w) (k1 : Pt w0.heap.size x W' l' w') (k2 : QOk W' l') (k3 : Fr (Own x W l) (Own x W' l') w w') : TG w0 x l' A v w' :=
  ⟨W',k1,k2,k3.ext_of h3 fun _ hi => (h1.own_lt hi).1,h4.trans k3⟩
theorem TA.start (h : TA w0 x l A w) : TG w0 x l A w w := by
  obtain ⟨W,h1,h2,h3,rfl⟩ := h
  exact ⟨W,h1,h2,h3,Fr.refl _ _⟩
theorem TG.done (h : TG w0 x l A v w) : ∃ B,TA w0 x l B w ∧ Mvp A B v w := by
  obtain ⟨W,h1,h2,h3,h4⟩ := h
  exact ⟨_,⟨W,h1,h2,h3,rfl⟩,⟨h4.os,h4.tape,h4.output,h4.size,h4.block,h4.own⟩⟩
theorem TA.own (h : TA w0 x l A w) : ∀ k,A k → w0.heap.size ≤ k ∧ k < w.heap.size := by
  obtain ⟨W,h1,_,_,rfl⟩ := h
  exact fun k hk => h1.own_lt hk
theorem TA.xt (h : TA w0 x l A w) : Ext w0 w := by obtain ⟨W,_,_,h,_⟩ := h; exact h
theorem TA.ext (h : TA w0 x l A w) (k : Ext w w') : TA w0 x l A w' := by
  obtain ⟨W,h1,h2,h3,h4⟩ := h
  exact ⟨W,h1.ext k,h2,h3.trans k,h4⟩
theorem TA.keep (h : TA w0 x l C w) (k : Mvp A B w w') (hAC : ∀ i,A i → ¬ C i) (hA : ∀ i,A i → w0.heap.size ≤ i) : TA w0 x l C w' ∧ ∀ i,B i → ¬ C i := by
  have hlt := fun i hi => (h.own i hi).2
  obtain ⟨W,h1,h2,h3,rfl⟩ := h
  refine ⟨⟨W,h1.keep fun c hc => k.block c (hlt c hc) fun e => hAC c e hc,h2,k.xt h3 hA,rfl⟩,fun i hB hC => ?_⟩
  rcases k.own i hB with h4 | h4
  · exact hAC i h4 hC
  · have := hlt i hC
    omega
theorem TA.turn {P : Program} {f : FuncId} {args : Array Value} {r : Ending} (h : TA w0 x l A w) (c : TG w0 x l A w w → Calls P f args w fun e w' => e = r ∧ TG w0 x l' A w w') :
    Calls P f args w fun e w' => e = r ∧ ∃ B,TA w0 x l' B w' ∧ Mvp A B w w' := (c h.start).mono fun _ _ ⟨a,b⟩ => ⟨a,b.done⟩
theorem tg_adde (h : TG w0 x l A v w) (hw : Wf l) (dn : Nat) (parent id wt : Int) (thr : Bool) (hd : dn ≤ 900) (hu : Up l dn parent) {k : Nat} (hk : addC l dn parent id wt thr = k) (hk0 : k ≠ 0) :
    Calls Tryz.prog 78 #[.pointer (some ⟨x.b,x.d,none⟩),.int .i64 parent,.int .i64 id,.int .i64 wt,.bool thr] w fun e w' => e = .returned (errV k) ∧ TG w0 x l A v w' := by
  have hs := h
  obtain ⟨W,h1,h2,h3,h4⟩ := h
  exact (addP_err (hw.tok h1 h2) dn parent id wt thr hd hu hk hk0).mono fun _ _ ⟨a,b⟩ => ⟨a,hs.ext b⟩
theorem tg_add (h : TG w0 x l A v w) (hw : Wf l) (dn : Nat) (parent id wt : Int) (thr : Bool) (hd : dn ≤ 900) (hu : Up l dn parent) (hk : addC l dn parent id wt thr = 0) :
    Calls Tryz.prog 78 #[.pointer (some ⟨x.b,x.d,none⟩),.int .i64 parent,.int .i64 id,.int .i64 wt,.bool thr] w fun e w' => e = .returned .nilIface ∧ TG w0 x (insT (newN l parent id wt thr) l) A v w' := by
  obtain ⟨W,h1,h2,h3,h4⟩ := h
  cases thr with
  | true => exact (addP_thr (hw.tok h1 h2) h3.size dn parent id wt hk).mono fun _ _ ⟨a,W',b,c,d⟩ => ⟨a,TG.go h1 h3 h4 b c d⟩
  | false => exact (addP_grp (hw.tok h1 h2) h3.size dn parent id wt hd hu hk).mono fun _ _ ⟨a,W',b,c,d⟩ => ⟨a,TG.go h1 h3 h4 b c d⟩
theorem tg_readye (h : TG w0 x l A v w) (hw : Wf l) (id : Int) (r : Bool) (hk : ∀ n,getU l id = some n → n.thr = false) :
    Calls Tryz.prog 43 #[.pointer (some ⟨x.b,x.d,none⟩),.int .i64 id,.bool r] w fun e w' => e = .returned (errV 13) ∧ TG w0 x l A v w' := by
  have hs := h
  obtain ⟨W,h1,h2,h3,h4⟩ := h
  exact (readyP_err (hw.tok h1 h2) id r hk).mono fun _ _ ⟨a,b⟩ => ⟨a,hs.ext b⟩
theorem tg_ready (h : TG w0 x l A v w) (hw : Wf l) {n : Nd} (hn : n ∈ l) (ht : n.thr = true) (r : Bool) :
    Calls Tryz.prog 43 #[.pointer (some ⟨x.b,x.d,none⟩),.int .i64 n.id,.bool r] w fun e w' => e = .returned .nilIface ∧ TG w0 x (rdyU r l n.id) A v w' := by
  obtain ⟨W,h1,h2,h3,h4⟩ := h
  exact (readyP_any (hw.tok h1 h2) hn ht r 5 (hw.sk.chain hn)).mono fun _ _ ⟨a,W',b,c,d,_⟩ => ⟨a,TG.go h1 h3 h4 b c d⟩
theorem tg_weight10 (h : TG w0 x l A v w) (hw : Wf l) (id wt : Int) (hi : isW wt = false) :
    Calls Tryz.prog 65 #[.pointer (some ⟨x.b,x.d,none⟩),.int .i64 id,.int .i64 wt] w fun e w' => e = .returned (errV 10) ∧ TG w0 x l A v w' := by
  have hs := h
  obtain ⟨W,h1,h2,h3,h4⟩ := h
  exact (weightP_10 (hw.tok h1 h2) id wt hi).mono fun _ _ ⟨a,b⟩ => ⟨a,hs.ext b⟩
theorem tg_weight13 (h : TG w0 x l A v w) (hw : Wf l) (id wt : Int) (hi : isW wt = true) (hk : ∀ n,getU l id = some n → n.par < 0) :
    Calls Tryz.prog 65 #[.pointer (some ⟨x.b,x.d,none⟩),.int .i64 id,.int .i64 wt] w fun e w' => e = .returned (errV 13) ∧ TG w0 x l A v w' := by
  have hs := h
  obtain ⟨W,h1,h2,h3,h4⟩ := h
  exact (weightP_13 (hw.tok h1 h2) id wt hi hk).mono fun _ _ ⟨a,b⟩ => ⟨a,hs.ext b⟩
theorem tg_weight (h : TG w0 x l A v w) (hw : Wf l) (wt : Int) (hi : isW wt = true) {n p : Nd} (hn : n ∈ l) (h0 : 0 ≤ n.par) (hp : p ∈ l) (he : p.id = n.par) :
    Calls Tryz.prog 65 #[.pointer (some ⟨x.b,x.d,none⟩),.int .i64 n.id,.int .i64 wt] w fun e w' => e = .returned .nilIface ∧ TG w0 x (upd n.id (wtF p.now wt) l) A v w' := by
  obtain ⟨W,h1,h2,h3,h4⟩ := h
  have hs := hw.scale hn hp he wt
  have hb := hw.num.now p hp
  have how := ofW_bounds wt
  exact (weightP_any (hw.tok h1 h2) wt hi hn h0 hp he (hw.num.wt n hn) ⟨hs.1,by omega⟩).mono fun _ _ ⟨a,W',b,c,d,_⟩ => ⟨a,TG.go h1 h3 h4 b c d⟩
theorem tg_idle (h : TG w0 x l A v w) (hw : Wf l) {r : Nd} (hr : r ∈ l) (hr0 : r.id = 0) (hrd : r.rdy = false) :
    Calls Tryz.prog 70 #[.pointer (some ⟨x.b,x.d,none⟩)] w fun e w' => e = .returned (.tuple #[.int .i64 0,.bool false]) ∧ TG w0 x l A v w' := by
  have hs := h
  obtain ⟨W,h1,h2,h3,h4⟩ := h
  exact (runP_none (hw.tok h1 h2) hr hr0 hrd).mono fun _ _ ⟨a,b⟩ => ⟨a,hs.ext b⟩
theorem tg_run (h : TG w0 x l A v w) (hw : Wf l) {r : Nd} (hr : r ∈ l) (hr0 : r.id = 0) (hrd : r.rdy = true) {R : Int × List Nd} (hR : runU 6 l 0 = some R) :
    Calls Tryz.prog 70 #[.pointer (some ⟨x.b,x.d,none⟩)] w fun e w' => e = .returned (.tuple #[.int .i64 R.1,.bool true]) ∧ TG w0 x (upR 6 R.2 R.1) A v w' := by
  obtain ⟨W,h1,h2,h3,h4⟩ := h
  exact (runP_any (hw.tok h1 h2) hw.sk.acy hw.bdM (F := 6) (by decide) (fun m hm => chain_succ _ _ (hw.sk.chain hm)) hr hr0 hrd hR).mono fun _ _ ⟨a,W',b,c,d,_⟩ => ⟨a,TG.go h1 h3 h4 b c d⟩
theorem tg_remove13 (h : TG w0 x l A v w) (hw : Wf l) (id : Int) (hk : ∀ n,getU l id = some n → n.par < 0) :
    Calls Tryz.prog 50 #[.pointer (some ⟨x.b,x.d,none⟩),.int .i64 id] w fun e w' => e = .returned (errV 13) ∧ TG w0 x l A v w' := by
  have hs := h
  obtain ⟨W,h1,h2,h3,h4⟩ := h
  exact (removeP_13 (hw.tok h1 h2) id hk).mono fun _ _ ⟨a,b⟩ => ⟨a,hs.ext b⟩
theorem tg_readyI (h : TG w0 x l A v w) (hw : Wf l) {n : Nd} (hn : n ∈ l) (ht : n.thr = true) (r : Bool) {id : Int} (e : n.id = id) :
    Calls Tryz.prog 43 #[.pointer (some ⟨x.b,x.d,none⟩),.int .i64 id,.bool r] w fun e w' => e = .returned .nilIface ∧ TG w0 x (rdyU r l id) A v w' := e ▸ tg_ready h hw hn ht r
theorem tg_weightI (h : TG w0 x l A v w) (hw : Wf l) (wt : Int) (hi : isW wt = true) {n p : Nd} (hn : n ∈ l) (h0 : 0 ≤ n.par) (hp : p ∈ l) (he : p.id = n.par) {id : Int} (e : n.id = id) :
    Calls Tryz.prog 65 #[.pointer (some ⟨x.b,x.d,none⟩),.int .i64 id,.int .i64 wt] w fun e w' => e = .returned .nilIface ∧ TG w0 x (upd id (wtF p.now wt) l) A v w' := e ▸ tg_weight h hw wt hi hn h0 hp he
theorem tg_addX (h : TG w0 x l A v w) (hw : Wf l) (parent id wt : Int) (thr : Bool) :
    Calls Tryz.prog 78 #[.pointer (some ⟨x.b,x.d,none⟩),.int .i64 parent,.int .i64 id,.int .i64 wt,.bool thr] w fun e w' => e = .returned (errV (addK l parent id wt thr)) ∧ TG w0 x (addL l parent id wt thr) A v w' := by
  obtain ⟨hu,hd⟩ := hw.dn parent
  by_cases hk : addK l parent id wt thr = 0
  · rw [hk,errV_zero,addL,if_pos hk]
    exact tg_add h hw _ parent id wt thr (by omega) hu hk
  · rw [addL,if_neg hk]
    exact tg_adde h hw _ parent id wt thr (by omega) hu rfl hk
theorem tg_rdyX (h : TG w0 x l A v w) (hw : Wf l) (id : Int) (r : Bool) :
    Calls Tryz.prog 43 #[.pointer (some ⟨x.b,x.d,none⟩),.int .i64 id,.bool r] w fun e w' => e = .returned (errV (rdyK l id)) ∧ TG w0 x (rdyL l id r) A v w' := by
  cases hg : getU l id with
  | none =>
    have hk : rdyK l id = 13 := by simp [rdyK,hg]
    rw [rdyL,hk,if_neg (by decide)]
    exact tg_readye h hw id r fun n hn => by rw [hg] at hn; cases hn
  | some n =>
    obtain ⟨hn,hi⟩ := getU_mem hg
    cases ht : n.thr with
    | false =>
      have hk : rdyK l id = 13 := by simp [rdyK,hg,ht]
      rw [rdyL,hk,if_neg (by decide)]
      exact tg_readye h hw id r fun m hm => by rw [hg] at hm; obtain rfl := Option.some.inj hm; exact ht
    | true =>
      have hk : rdyK l id = 0 := by simp [rdyK,hg,ht]
      rw [rdyL,hk,if_pos rfl,errV_zero]
      exact tg_readyI h hw hn ht r hi
theorem tg_wtX (h : TG w0 x l A v w) (hw : Wf l) (id wt : Int) :
    Calls Tryz.prog 65 #[.pointer (some ⟨x.b,x.d,none⟩),.int .i64 id,.int .i64 wt] w fun e w' => e = .returned (errV (wtK l id wt)) ∧ TG w0 x (wtA l id wt) A v w' := by
  cases hi : isW wt with
  | false =>
    have hk : wtK l id wt = 10 := by simp [wtK,hi]
    rw [wtA,hk,if_neg (by decide)]
    exact tg_weight10 h hw id wt hi
  | true =>
    cases hg : getU l id with
    | none =>
      have hk : wtK l id wt = 13 := by simp [wtK,hi,hg]
      rw [wtA,hk,if_neg (by decide)]
      exact tg_weight13 h hw id wt hi fun n hn => by rw [hg] at hn; cases hn
    | some n =>
      by_cases h0 : n.par < 0
      · have hk : wtK l id wt = 13 := by simp [wtK,hi,hg,h0]
        rw [wtA,hk,if_neg (by decide)]
        exact tg_weight13 h hw id wt hi fun m hm => by rw [hg] at hm; obtain rfl := Option.some.inj hm; exact h0
      · have hk : wtK l id wt = 0 := by simp [wtK,hi,hg,h0]
        obtain ⟨hn,hid⟩ := getU_mem hg
        obtain ⟨p,hp,he,-⟩ := (hw.sk.clo n hn).2.2 (by omega)
        have hpn : nowU l (parU l id) = p.now := by
          have : parU l id = n.par := by simp [parU,hg]
          rw [this,← he]; exact nowU_of hw.sk.ids hp
        rw [wtA,hk,if_pos rfl,errV_zero,hpn]
        exact tg_weightI h hw wt hi hn (by omega) hp he hid
theorem tg_runX (h : TG w0 x l A v w) (hw : Wf l) :
    Calls Tryz.prog 70 #[.pointer (some ⟨x.b,x.d,none⟩)] w fun e w' => e = .returned (.tuple #[.int .i64 (runK l).1,.bool (runK l).2]) ∧ TG w0 x (runL l) A v w' := by
  obtain ⟨r,hr,hr0,-,-⟩ := hw.root
  cases hrd : r.rdy with
  | false =>
    have hn := hw.run_none hr hr0 hrd
    have h1 : runK l = (0,false) := by simp [runK,hn]
    have h2 : runL l = l := by simp [runL,hn]
    rw [h1,h2]
    exact tg_idle h hw hr hr0 hrd
  | true =>
    obtain ⟨R,hR,-,-⟩ := hw.run hr hr0 hrd
    have h1 : runK l = (R.1,true) := by simp [runK,hR]
    have h2 : runL l = upR 6 R.2 R.1 := by simp [runL,hR]
    rw [h1,h2]
    exact tg_run h hw hr hr0 hrd hR
theorem tg_remX (h : TG w0 x l A v w) (hw : Wf l) (id : Int) :
    Calls Tryz.prog 50 #[.pointer (some ⟨x.b,x.d,none⟩),.int .i64 id] w fun e w' => e = .returned (errV (remK l id)) ∧ TG w0 x (remL l id) A v w' := by
  cases hg : getU l id with
  | none =>
    have hk : remK l id = 13 := by simp [remK,hg]
    rw [remL,hk,if_neg (by decide)]
    exact tg_remove13 h hw id fun n hn => by rw [hg] at hn; cases hn
  | some n =>
    by_cases h0 : n.par < 0
    · have hk : remK l id = 13 := by simp [remK,hg,h0]
      rw [remL,hk,if_neg (by decide)]
      exact tg_remove13 h hw id fun m hm => by rw [hg] at hm; obtain rfl := Option.some.inj hm; exact h0
    · obtain ⟨hn,rfl⟩ := getU_mem hg
      by_cases he : (kidsU l n.id).isEmpty = true
      · have hk : remK l n.id = 0 := by simp only [remK,hg]; rw [if_neg h0,if_pos he]
        have hnil := List.isEmpty_iff.1 he
        have hkn := kids_nil.1 hnil
        obtain ⟨h1,⟨n1,hn1,e1,e2,e3⟩,h3⟩ := hw.rested hn (by omega) hkn
        rw [remL,hk,if_pos rfl,errV_zero]
        obtain ⟨W,k1,k2,k3,k4⟩ := h
        exact (removeP_ok (hw.tok k1 k2) hn (by omega) hnil 5 (hw.sk.chain hn) h1.sk.ids ⟨n1,hn1,e1,e3⟩ (rest_sim 5 l n.id).len h1.sk.len).mono fun _ _ ⟨a,W',b,c,d⟩ => ⟨a,TG.go k1 k3 k4 b c d⟩
      · have hk : remK l n.id = 10 := by simp only [remK,hg]; rw [if_neg h0,if_neg he]
        rw [remL,hk,if_neg (by decide)]
        have hs := h
        obtain ⟨W,k1,k2,k3,k4⟩ := h
        exact (removeP_10 (hw.tok k1 k2) hn (by omega) fun e => he (by rw [e]; rfl)).mono fun _ _ ⟨a,b⟩ => ⟨a,hs.ext b⟩
theorem tg_nodes (h : TG w0 x l A v w) (hw : Wf l) :
    Calls Tryz.prog 73 #[.pointer (some ⟨x.b,x.d,none⟩)] w fun e w' => ∃ vd,e = .returned vd ∧ TG w0 x l A v w' ∧ Ext w w' ∧ NodesV w' vd (l.map Nd.nn) ∧ ∀ k,vd.ownBlock = some k → w.heap.size ≤ k := by
  have hs := h
  obtain ⟨W,h1,h2,h3,h4⟩ := h
  refine (nodes_any (hw.tok h1 h2)).mono fun _ w' ⟨v',a,b,c⟩ => ⟨v',a,hs.ext c,c,b.nodes,fun k hk => ?_⟩
  rcases b.2 with ⟨q,_⟩ | ⟨g,cap,cur,e1,e2,_⟩
  · rw [q] at hk; cases hk
  · rw [e1] at hk; cases hk; exact e2
end
end Go.Proofs.YtocicffmajbecaaGreatDoor
