/- A tree as it may be, and that what comes, goes to sleep, wakes, weighs otherwise leaves it so. -/
import Derived.Test.YtfccmdmfllicdaaDoorPtI
namespace Go.Proofs.YtfccmdmfllicdaaDoor
open Go.RowKit

/-- Who is there, and in whom. -/
structure Sk (l : List Nd) : Prop where
  ids : Ids l
  clo : Clo l
  root : ∃ r ∈ l, r.id = 0 ∧ r.par = -1
  only : ∀ n ∈ l, n.par < 0 → n.id = 0 ∧ n.par = -1
  dep : ∀ n ∈ l, ∃ k, k ≤ 5 ∧ Up l k n.id ∧ (n.thr = false → k ≤ 4)
  len : l.length ≤ 60
theorem up_getU {l : List Nd} {g : Nd → Nd} (hg : ∀ m, (g m).id = m.id) {id : Int} (h : getU l id = none) : getU (l.map g) id = none := by
  rw [getU_none] at h ⊢
  intro n hn
  obtain ⟨m, hm, rfl⟩ := List.mem_map.1 hn
  rw [hg]; exact h m hm
theorem Up.map {l : List Nd} {g : Nd → Nd} (hg : ∀ m, (g m).id = m.id ∧ (g m).par = m.par ∧ (g m).thr = m.thr) : ∀ (k : Nat) (id : Int), Up l k id → Up (l.map g) k id
  | 0, id, h => up_getU (fun m => (hg m).1) h
  | k + 1, id, h => by
    obtain ⟨m, hm, e, h⟩ := h
    exact ⟨g m, List.mem_map.2 ⟨m, hm, rfl⟩, by rw [(hg m).1]; exact e, by rw [(hg m).2.1]; exact Up.map hg k _ h⟩
theorem Clo.map {l : List Nd} {g : Nd → Nd} (h : Clo l) (hg : ∀ m, (g m).id = m.id ∧ (g m).par = m.par ∧ (g m).thr = m.thr) : Clo (l.map g) := by
  intro n' hn'
  obtain ⟨n, hn, rfl⟩ := List.mem_map.1 hn'
  rw [(hg n).1, (hg n).2.1, (hg n).2.2]
  obtain ⟨h1, h2, h3⟩ := h n hn
  refine ⟨h1, h2, fun h0 => ?_⟩
  obtain ⟨p, hp, e, t⟩ := h3 h0
  exact ⟨g p, List.mem_map.2 ⟨p, hp, rfl⟩, by rw [(hg p).1]; exact e, by rw [(hg p).2.2]; exact t⟩
theorem Sk.map {l : List Nd} {g : Nd → Nd} (h : Sk l) (hg : ∀ m, (g m).id = m.id ∧ (g m).par = m.par ∧ (g m).thr = m.thr) : Sk (l.map g) where
  ids := List.pairwise_map.2 (h.ids.imp fun {a b} hab => by rw [(hg a).1, (hg b).1]; exact hab)
  clo := h.clo.map hg
  root := by
    obtain ⟨r, hr, e1, e2⟩ := h.root
    exact ⟨g r, List.mem_map.2 ⟨r, hr, rfl⟩, by rw [(hg r).1]; exact e1, by rw [(hg r).2.1]; exact e2⟩
  only := fun n' hn' h0 => by
    obtain ⟨n, hn, rfl⟩ := List.mem_map.1 hn'
    rw [(hg n).2.1] at h0
    rw [(hg n).1, (hg n).2.1]; exact h.only n hn h0
  dep := fun n' hn' => by
    obtain ⟨n, hn, rfl⟩ := List.mem_map.1 hn'
    obtain ⟨k, h1, h2, h3⟩ := h.dep n hn
    exact ⟨k, h1, by rw [(hg n).1]; exact Up.map hg _ _ h2, by rw [(hg n).2.2]; exact h3⟩
  len := by rw [List.length_map]; exact h.len
theorem ite_same {id : Int} {f : Nd → Nd} (hf : ∀ m, (f m).id = m.id ∧ (f m).par = m.par ∧ (f m).thr = m.thr) (m : Nd) : (if m.id = id then f m else m).id = m.id ∧ (if m.id = id then f m else m).par = m.par ∧ (if m.id = id then f m else m).thr = m.thr := by
  split
  · exact hf m
  · exact ⟨rfl, rfl, rfl⟩
theorem Sk.upd {l : List Nd} {id : Int} {f : Nd → Nd} (h : Sk l) (hf : ∀ m, (f m).id = m.id ∧ (f m).par = m.par ∧ (f m).thr = m.thr) : Sk (upd id f l) := h.map (ite_same hf)
theorem chain_succ {l : List Nd} : ∀ (k : Nat) (id : Int), Chain l k id → Chain l (k + 1) id
  | 0, _, h => h.elim
  | k + 1, id, h => by
    obtain ⟨n, hn, e, h⟩ := h
    exact ⟨n, hn, e, h.imp (fun x => x) (chain_succ k n.par)⟩
theorem chain_le {l : List Nd} {k m : Nat} {id : Int} (h : Chain l k id) (hm : k ≤ m) : Chain l m id := by
  induction hm with
  | refl => exact h
  | step _ ih => exact chain_succ _ _ ih
theorem chain_up {l : List Nd} (hc : Clo l) : ∀ (k : Nat) (id : Int), Up l (k + 1) id → Chain l (k + 1) id
  | 0, id, h => by
    obtain ⟨n, hn, e, h⟩ := h
    refine ⟨n, hn, e, .inl ?_⟩
    apply Decidable.byContradiction
    intro h0
    obtain ⟨p, hp, e2, -⟩ := (hc n hn).2.2 (by omega)
    exact getU_none.1 (show getU l n.par = none from h) p hp e2
  | k + 1, id, h => by
    obtain ⟨n, hn, e, h⟩ := h
    exact ⟨n, hn, e, .inr (chain_up hc k _ h)⟩
theorem Sk.chain {l : List Nd} (h : Sk l) {n : Nd} (hn : n ∈ l) : Chain l 5 n.id := by
  obtain ⟨k, h1, h2, -⟩ := h.dep n hn
  cases k with
  | zero => exact absurd rfl (getU_none.1 (show getU l n.id = none from h2) n hn)
  | succ k => exact chain_le (chain_up h.clo k _ h2) h1
theorem chain_self {l : List Nd} (hs : Ids l) {n : Nd} (hn : n ∈ l) (h0 : 0 ≤ n.par) (e : n.par = n.id) : ∀ k, ¬ Chain l k n.id
  | 0, h => h
  | k + 1, h => by
    obtain ⟨m, hm, e1, h⟩ := h
    rw [uniqU hs hm hn e1] at h
    rcases h with h | h
    · omega
    · rw [e] at h; exact chain_self hs hn h0 e k h
theorem Sk.acy {l : List Nd} (h : Sk l) : Acy l := fun n hn e => by
  have := (h.clo n hn).1
  exact chain_self h.ids hn (by omega) e 5 (h.chain hn)

/-- Passes, times, weights. -/
structure Num (M : Int) (l : List Nd) : Prop where
  top : ∀ n ∈ l, n.par < 0 → n.pass = 0 ∧ n.wt = 1
  wt : ∀ n ∈ l, isW n.wt = true
  now : ∀ n ∈ l, 0 ≤ n.now ∧ n.now ≤ M
  lag : ∀ n ∈ l, ∀ p ∈ l, p.id = n.par → 0 ≤ n.pass ∧ n.pass ≤ p.now + ofW n.wt ∧ (n.rdy = true → p.now ≤ n.pass)
/-- A group is ready just if one in it is. -/
def RdX (e : Int) (l : List Nd) : Prop := ∀ g ∈ l, g.thr = false → g.id ≠ e → g.rdy = someT l g.id
structure Wf (l : List Nd) : Prop where
  sk : Sk l
  num : Num 16777216 l
  rd : ∀ g ∈ l, g.thr = false → g.rdy = someT l g.id
theorem Wf.bdM {l : List Nd} (h : Wf l) : BdM 20000000 l := fun n hn => by
  have h1 := h.num.now n hn
  by_cases h0 : n.par < 0
  · have := (h.num.top n hn h0).1; omega
  · obtain ⟨p, hp, e, -⟩ := (h.sk.clo n hn).2.2 (by omega)
    have h2 := h.num.lag n hn p hp e
    have h3 := h.num.now p hp
    have h4 := ofW_bounds n.wt
    omega
theorem Wf.rt {l : List Nd} (h : Wf l) : Rt l := fun n hn h0 => ⟨(h.sk.only n hn h0).2, h.rd n hn ((h.sk.clo n hn).2.1 h0)⟩
theorem Wf.tok {base x : Nat} {W : Wit} {l : List Nd} {w : World} (h : Wf l) (hp : Pt base x W l w) (hq : QOk W l) : TOk base x W l w := ⟨hp, hq, h.sk.ids, h.sk.clo, h.bdM.bdd (by omega), h.rt, h.sk.len⟩

/-- Who is ready in a group when one node turns. -/
theorem someT_upd {l : List Nd} (hs : Ids l) {n : Nd} (hn : n ∈ l) {f : Nd → Nd} (hf : ∀ m, (f m).id = m.id ∧ (f m).par = m.par ∧ (f m).thr = m.thr) {g : Int} (hg : n.par ≠ g ∨ (f n).rdy = n.rdy) : someT (upd n.id f l) g = someT l g := by
  rw [Bool.eq_iff_iff, someT_iff, someT_iff]
  constructor
  · rintro ⟨m', hm', hp, hr⟩
    obtain ⟨m, hm, rfl⟩ := mem_upd.1 hm'
    by_cases e : m.id = n.id
    · obtain rfl := uniqU hs hm hn e
      rw [if_pos rfl] at hp hr
      rw [(hf m).2.1] at hp
      rcases hg with h | h
      · exact absurd hp h
      · exact ⟨m, hm, hp, by rw [← h]; exact hr⟩
    · rw [if_neg e] at hp hr; exact ⟨m, hm, hp, hr⟩
  · rintro ⟨m, hm, hp, hr⟩
    by_cases e : m.id = n.id
    · obtain rfl := uniqU hs hm hn e
      rcases hg with h | h
      · exact absurd hp h
      · exact ⟨f m, mem_upd.2 ⟨m, hm, by rw [if_pos rfl]⟩, by rw [(hf m).2.1]; exact hp, by rw [h]; exact hr⟩
    · exact ⟨m, mem_upd.2 ⟨m, hm, by rw [if_neg e]⟩, hp, hr⟩
/-- Numbers when one node turns that stays within its stride; its own time stays. -/
theorem Num.upd {M : Int} {l : List Nd} (h : Num M l) (hs : Ids l) {n : Nd} (hn : n ∈ l) {f : Nd → Nd} (hf : ∀ m, (f m).id = m.id ∧ (f m).par = m.par ∧ (f m).thr = m.thr) (hnow : (f n).now = n.now) (hw : isW (f n).wt = true) (ht : n.par < 0 → (f n).pass = 0 ∧ (f n).wt = 1)
    (hl : ∀ p ∈ l, p.id = n.par → 0 ≤ (f n).pass ∧ (f n).pass ≤ p.now + ofW (f n).wt ∧ ((f n).rdy = true → p.now ≤ (f n).pass)) : Num M (upd n.id f l) where
  top := fun m' hm' h0 => by
    obtain ⟨m, hm, rfl⟩ := mem_upd.1 hm'
    by_cases e : m.id = n.id
    · obtain rfl := uniqU hs hm hn e
      rw [if_pos rfl] at h0 ⊢
      rw [(hf m).2.1] at h0
      exact ht h0
    · rw [if_neg e] at h0 ⊢; exact h.top m hm h0
  wt := fun m' hm' => by
    obtain ⟨m, hm, rfl⟩ := mem_upd.1 hm'
    by_cases e : m.id = n.id
    · obtain rfl := uniqU hs hm hn e
      rw [if_pos rfl]; exact hw
    · rw [if_neg e]; exact h.wt m hm
  now := fun m' hm' => by
    obtain ⟨m, hm, rfl⟩ := mem_upd.1 hm'
    by_cases e : m.id = n.id
    · obtain rfl := uniqU hs hm hn e
      rw [if_pos rfl, hnow]; exact h.now m hm
    · rw [if_neg e]; exact h.now m hm
  lag := fun m' hm' p' hp' he => by
    obtain ⟨m, hm, rfl⟩ := mem_upd.1 hm'
    obtain ⟨p, hp, rfl⟩ := mem_upd.1 hp'
    rw [(ite_same hf p).1, (ite_same hf m).2.1] at he
    have hpn : (if p.id = n.id then f p else p).now = p.now := by
      by_cases e : p.id = n.id
      · obtain rfl := uniqU hs hp hn e
        rw [if_pos rfl]; exact hnow
      · rw [if_neg e]
    rw [hpn]
    by_cases e : m.id = n.id
    · obtain rfl := uniqU hs hm hn e
      rw [if_pos rfl]; exact hl p hp he
    · rw [if_neg e]; exact h.lag m hm p hp he

theorem wake_wf : ∀ (f : Nat) {l : List Nd} {n : Nd}, Sk l → Num 16777216 l → n ∈ l → RdX n.id l → (n.thr = false → someT l n.id = true) → Chain l f n.id → Wf (wakeU f l n.id)
  | 0, _, _, _, _, _, _, _, h => h.elim
  | f + 1, l, n, hsk, hnum, hn, hx, hsm, hch => by
    by_cases hr : n.rdy = true
    · rw [wakeU_rdy hsk.ids hn hr]
      refine ⟨hsk, hnum, fun g hg ht => ?_⟩
      by_cases e : g.id = n.id
      · obtain rfl := uniqU hsk.ids hg hn e
        rw [hr, hsm ht]
      · exact hx g hg ht e
    · have hr : n.rdy = false := by simpa using hr
      by_cases h0 : n.par < 0
      · rw [wakeU_top hsk.ids hn h0]
        have hneg : ∀ g ∈ l, n.par ≠ g.id := fun g hg e => by have := (hsk.clo g hg).1; omega
        refine ⟨hsk.upd onF_same, hnum.upd hsk.ids hn onF_same rfl (hnum.wt n hn) (hnum.top n hn) fun p hp he => absurd he.symm (hneg p hp), fun g' hg' ht => ?_⟩
        obtain ⟨g, hg, rfl⟩ := mem_upd.1 hg'
        rw [(ite_same onF_same g).2.2] at ht
        rw [(ite_same onF_same g).1, someT_upd hsk.ids hn onF_same (.inl (hneg g hg))]
        by_cases e : g.id = n.id
        · obtain rfl := uniqU hsk.ids hg hn e
          rw [if_pos rfl, hsm ht]; rfl
        · rw [if_neg e]; exact hx g hg ht e
      · obtain ⟨p, hp, he, htp⟩ := (hsk.clo n hn).2.2 (by omega)
        rw [wakeU_on hsk.ids hn hr (by omega) hp he]
        have hlag := hnum.lag n hn p hp he
        have hnow := hnum.now p hp
        have how := ofW_bounds n.wt
        have hacy := hsk.acy n hn
        have hpe : p.id ≠ n.id := by rw [he]; exact hacy
        have hp2 : p ∈ upd n.id (rdyF p.now) l := mem_upd.2 ⟨p, hp, by rw [if_neg hpe]⟩
        have hchp : Chain l f p.id := by
          obtain ⟨m, hm, e, h⟩ := hch
          rw [uniqU hsk.ids hm hn e] at h
          rw [he]; exact h.resolve_left h0
        refine wake_wf f (hsk.upd (rdyF_same _)) (hnum.upd hsk.ids hn (rdyF_same _) rfl (hnum.wt n hn) (fun h => absurd h h0) fun q hq hqe => ?_) hp2 ?_ ?_ (Chain.upd (rdyF_same _) _ _ hchp)
        · obtain rfl := uniqU hsk.ids hq hp (hqe.trans he.symm)
          simp only [rdyF]
          exact ⟨by omega, by omega, fun _ => by omega⟩
        · intro g' hg' ht hne
          obtain ⟨g, hg, rfl⟩ := mem_upd.1 hg'
          rw [(ite_same (rdyF_same p.now) g).2.2] at ht
          rw [(ite_same (rdyF_same p.now) g).1] at hne ⊢
          rw [someT_upd hsk.ids hn (rdyF_same _) (.inl (by rw [← he]; exact Ne.symm hne))]
          by_cases e : g.id = n.id
          · obtain rfl := uniqU hsk.ids hg hn e
            rw [if_pos rfl, hsm ht]; rfl
          · rw [if_neg e]; exact hx g hg ht e
        · intro _
          rw [someT_iff]
          exact ⟨rdyF p.now n, mem_upd.2 ⟨n, hn, by rw [if_pos rfl]⟩, he.symm, rfl⟩

theorem rest_wf : ∀ (f : Nat) {l : List Nd} {n : Nd}, Sk l → Num 16777216 l → n ∈ l → RdX n.id l → (n.thr = false → someT l n.id = false) → Chain l f n.id → Wf (restU f l n.id)
  | 0, _, _, _, _, _, _, _, h => h.elim
  | f + 1, l, n, hsk, hnum, hn, hx, hsm, hch => by
    by_cases hr : n.rdy = false
    · rw [restU_no hsk.ids hn hr]
      refine ⟨hsk, hnum, fun g hg ht => ?_⟩
      by_cases e : g.id = n.id
      · obtain rfl := uniqU hsk.ids hg hn e
        rw [hr, hsm ht]
      · exact hx g hg ht e
    · have hr : n.rdy = true := by simpa using hr
      have hnum1 : Num 16777216 (upd n.id offF l) := hnum.upd hsk.ids hn offF_same rfl (hnum.wt n hn) (hnum.top n hn) fun p hp he => by
        have := hnum.lag n hn p hp he
        exact ⟨this.1, this.2.1, fun h => by cases h⟩
      have hother : ∀ g' ∈ upd n.id offF l, g'.thr = false → g'.id ≠ n.par → g'.rdy = someT (upd n.id offF l) g'.id := fun g' hg' ht hne => by
        obtain ⟨g, hg, rfl⟩ := mem_upd.1 hg'
        rw [(ite_same offF_same g).2.2] at ht
        rw [(ite_same offF_same g).1] at hne ⊢
        rw [someT_upd hsk.ids hn offF_same (.inl (Ne.symm hne))]
        by_cases e : g.id = n.id
        · obtain rfl := uniqU hsk.ids hg hn e
          rw [if_pos rfl, hsm ht]; rfl
        · rw [if_neg e]; exact hx g hg ht e
      by_cases h0 : n.par < 0
      · rw [restU_top hsk.ids hn h0]
        exact ⟨hsk.upd offF_same, hnum1, fun g hg ht => hother g hg ht fun e => by have := ((hsk.upd (id := n.id) offF_same).clo g hg).1; omega⟩
      · obtain ⟨p, hp, he, htp⟩ := (hsk.clo n hn).2.2 (by omega)
        have hacy := hsk.acy n hn
        have hpe : p.id ≠ n.id := by rw [he]; exact hacy
        have hp2 : p ∈ upd n.id offF l := mem_upd.2 ⟨p, hp, by rw [if_neg hpe]⟩
        cases hst : someT (upd n.id offF l) n.par with
        | true =>
          rw [restU_stop hsk.ids hn hr hst]
          refine ⟨hsk.upd offF_same, hnum1, fun g hg ht => ?_⟩
          by_cases e : g.id = n.par
          · have e2 : g = p := uniqU (hsk.upd (id := n.id) offF_same).ids hg hp2 (e.trans he.symm)
            rw [e2, hx p hp htp hpe, he, hst]
            exact someT_iff.2 ⟨n, hn, rfl, hr⟩
          · exact hother g hg ht e
        | false =>
          rw [restU_on hsk.ids hn hr (by omega) hst, ← he]
          have hchp : Chain l f p.id := by
            obtain ⟨m, hm, e, h⟩ := hch
            rw [uniqU hsk.ids hm hn e] at h
            rw [he]; exact h.resolve_left h0
          exact rest_wf f (hsk.upd offF_same) hnum1 hp2 (fun g hg ht hne => hother g hg ht (by rw [← he]; exact hne)) (fun _ => by rw [he]; exact hst) (Chain.upd offF_same _ _ hchp)
theorem Wf.wake {l : List Nd} (h : Wf l) {n : Nd} (hn : n ∈ l) (ht : n.thr = true) : Wf (wakeU 5 l n.id) :=
  wake_wf 5 h.sk h.num hn (fun g hg hgt _ => h.rd g hg hgt) (fun e => by rw [ht] at e; cases e) (h.sk.chain hn)
theorem Wf.rest {l : List Nd} (h : Wf l) {n : Nd} (hn : n ∈ l) (ht : n.thr = true) : Wf (restU 5 l n.id) :=
  rest_wf 5 h.sk h.num hn (fun g hg hgt _ => h.rd g hg hgt) (fun e => by rw [ht] at e; cases e) (h.sk.chain hn)
theorem wtF_same (a b : Int) : ∀ n, (wtF a b n).id = n.id ∧ (wtF a b n).par = n.par ∧ (wtF a b n).thr = n.thr := fun _ => ⟨rfl, rfl, rfl⟩
theorem Wf.scale {l : List Nd} (h : Wf l) {n p : Nd} (hn : n ∈ l) (hp : p ∈ l) (he : p.id = n.par) (wt : Int) : 0 ≤ scaleW n.pass p.now n.wt wt ∧ scaleW n.pass p.now n.wt wt ≤ p.now + ofW wt ∧ (n.rdy = true → p.now ≤ scaleW n.pass p.now n.wt wt) := by
  have h1 := h.num.lag n hn p hp he
  have h2 := h.num.now p hp
  have h3 := scaleW_within (b := wt) (h.num.wt n hn) h1.2.1
  exact ⟨by omega, h3.1, fun hr => h3.2.1 (h1.2.2 hr)⟩
theorem Wf.weight {l : List Nd} (h : Wf l) {n p : Nd} (hn : n ∈ l) (h0 : 0 ≤ n.par) (hp : p ∈ l) (he : p.id = n.par) {wt : Int} (hw : isW wt = true) : Wf (upd n.id (wtF p.now wt) l) := by
  refine ⟨h.sk.upd (wtF_same _ _), h.num.upd h.sk.ids hn (wtF_same _ _) rfl hw (fun h' => by omega) fun q hq hqe => ?_, fun g' hg' ht => ?_⟩
  · obtain rfl := uniqU h.sk.ids hq hp (hqe.trans he.symm)
    exact h.scale hn hq he wt
  · obtain ⟨g, hg, rfl⟩ := mem_upd.1 hg'
    rw [(ite_same (wtF_same p.now wt) g).2.2] at ht
    rw [(ite_same (wtF_same p.now wt) g).1, someT_upd h.sk.ids hn (wtF_same _ _) (.inr rfl)]
    have : (if g.id = n.id then wtF p.now wt g else g).rdy = g.rdy := by split <;> rfl
    rw [this]; exact h.rd g hg ht

/-! ### A node let in -/
theorem up_uniq {l : List Nd} : ∀ (k m : Nat) (id : Int), Ids l → Up l k id → Up l m id → k = m
  | 0, 0, _, _, _, _ => rfl
  | 0, m + 1, id, _, h, h2 => by
    obtain ⟨n, hn, e, -⟩ := h2
    exact absurd e (getU_none.1 (show getU l id = none from h) n hn)
  | k + 1, 0, id, _, h, h2 => by
    obtain ⟨n, hn, e, -⟩ := h
    exact absurd e (getU_none.1 (show getU l id = none from h2) n hn)
  | k + 1, m + 1, id, hs, h, h2 => by
    obtain ⟨n, hn, e, h⟩ := h
    obtain ⟨n2, hn2, e2, h2⟩ := h2
    obtain rfl := uniqU hs hn hn2 (e.trans e2.symm)
    rw [up_uniq k m _ hs h h2]
theorem getU_ins {d : Nd} {l : List Nd} {id : Int} (h : getU l id = none) (hd : d.id ≠ id) : getU (insT d l) id = none := by
  rw [getU_none] at h ⊢
  intro n hn
  rcases mem_insT.1 hn with rfl | hn
  · exact hd
  · exact h n hn
theorem up_ins {d : Nd} {l : List Nd} (hc : Clo l) (hd0 : 0 ≤ d.id) (hd : getU l d.id = none) : ∀ (k : Nat) (n : Nd), n ∈ l → Up l (k + 1) n.id → Ids l → Up (insT d l) (k + 1) n.id
  | 0, n, hn, h, hs => by
    obtain ⟨m, hm, e, h⟩ := h
    obtain rfl := uniqU hs hm hn e
    refine ⟨m, mem_insT.2 (.inr hm), rfl, getU_ins h fun e2 => ?_⟩
    by_cases h0 : m.par < 0
    · omega
    · obtain ⟨p, hp, e3, -⟩ := (hc m hm).2.2 (by omega)
      exact getU_none.1 hd p hp (e3.trans e2.symm)
  | k + 1, n, hn, h, hs => by
    obtain ⟨m, hm, e, h⟩ := h
    obtain rfl := uniqU hs hm hn e
    obtain ⟨p, hp, e3, h3⟩ := h
    refine ⟨m, mem_insT.2 (.inr hm), rfl, ?_⟩
    rw [← e3]
    exact up_ins hc hd0 hd k p hp ⟨p, hp, rfl, h3⟩ hs
theorem someT_ins {d : Nd} {l : List Nd} (hr : d.rdy = false) (g : Int) : someT (insT d l) g = someT l g := by
  rw [Bool.eq_iff_iff, someT_iff, someT_iff]
  constructor
  · rintro ⟨m, hm, hp, h⟩
    rcases mem_insT.1 hm with rfl | hm
    · rw [hr] at h; cases h
    · exact ⟨m, hm, hp, h⟩
  · rintro ⟨m, hm, hp, h⟩
    exact ⟨m, mem_insT.2 (.inr hm), hp, h⟩
theorem addC_ok {l : List Nd} {dn : Nat} {parent id wt : Int} {thr : Bool} (hk : addC l dn parent id wt thr = 0) : isW wt = true ∧ 0 < id ∧ (∃ p ∈ l, p.id = parent ∧ p.thr = false) ∧ getU l id = none ∧ (thr = false → dn < 4) ∧ l.length < 60 := by
  unfold addC at hk
  by_cases c1 : isW wt = false ∨ id ≤ 0
  · rw [if_pos c1] at hk; cases hk
  rw [if_neg c1] at hk
  by_cases c2 : grpU l parent = false
  · rw [if_pos c2] at hk; cases hk
  rw [if_neg c2] at hk
  by_cases c3 : hasU l id = true
  · rw [if_pos c3] at hk; cases hk
  rw [if_neg c3] at hk
  by_cases c4 : thr = false ∧ 4 ≤ dn
  · rw [if_pos c4] at hk; cases hk
  rw [if_neg c4] at hk
  by_cases c5 : 60 ≤ l.length
  · rw [if_pos c5] at hk; cases hk
  refine ⟨?_, ?_, ?_, ?_, fun h => ?_, by omega⟩
  · cases e : isW wt
    · exact absurd (.inl e) c1
    · rfl
  · exact Int.not_le.1 fun e => c1 (.inr e)
  · cases hg : getU l parent with
    | none => exact absurd (by simp [grpU, hg]) c2
    | some p =>
      obtain ⟨hp, e⟩ := getU_mem hg
      exact ⟨p, hp, e, by simpa [grpU, hg] using c2⟩
  · cases e : getU l id with
    | none => rfl
    | some n => exact absurd (by simp [hasU, e]) c3
  · exact Nat.lt_of_not_le fun e => c4 ⟨h, e⟩
theorem Wf.add {l : List Nd} (h : Wf l) {dn : Nat} {parent id wt : Int} {thr : Bool} (hk : addC l dn parent id wt thr = 0) (hu : Up l dn parent) : Wf (insT (newN l parent id wt thr) l) := by
  obtain ⟨hw, hi, ⟨p, hp, hpe, hpt⟩, hnew, hd4, hlen⟩ := addC_ok hk
  have hne : ∀ n ∈ l, n.id ≠ id := getU_none.1 hnew
  have hp0 := (h.sk.clo p hp).1
  have hnow : nowU l parent = p.now := by rw [← hpe]; exact nowU_of h.sk.ids hp
  have hnp := h.num.now p hp
  have hup : ∀ n ∈ l, ∀ k, Up l k n.id → Up (insT (newN l parent id wt thr) l) k n.id := fun n hn k hk => by
    cases k with
    | zero => exact absurd rfl (getU_none.1 (show getU l n.id = none from hk) n hn)
    | succ k => exact up_ins h.sk.clo (by show 0 ≤ id; omega) hnew k n hn hk h.sk.ids
  obtain ⟨kp, hk1, hk2, hk3⟩ := h.sk.dep p hp
  have hkp : kp = dn := up_uniq _ _ _ h.sk.ids hk2 (by rw [hpe]; exact hu)
  refine ⟨⟨ids_insT h.sk.ids hnew, ?_, ?_, ?_, ?_, by rw [insT_length]; omega⟩, ⟨?_, ?_, ?_, ?_⟩, ?_⟩
  · intro n hn
    rcases mem_insT.1 hn with rfl | hn
    · exact ⟨by show 0 ≤ id; omega, fun h0 => absurd (show parent < 0 from h0) (by omega), fun _ => ⟨p, mem_insT.2 (.inr hp), hpe, hpt⟩⟩
    · obtain ⟨h1, h2, h3⟩ := h.sk.clo n hn
      refine ⟨h1, h2, fun h0 => ?_⟩
      obtain ⟨q, hq, e⟩ := h3 h0
      exact ⟨q, mem_insT.2 (.inr hq), e⟩
  · obtain ⟨r, hr, e⟩ := h.sk.root
    exact ⟨r, mem_insT.2 (.inr hr), e⟩
  · intro n hn h0
    rcases mem_insT.1 hn with rfl | hn
    · exact absurd (show parent < 0 from h0) (by omega)
    · exact h.sk.only n hn h0
  · intro n hn
    rcases mem_insT.1 hn with rfl | hn
    · refine ⟨kp + 1, ?_, ⟨_, mem_insT.2 (.inl rfl), rfl, ?_⟩, fun ht => ?_⟩
      · have := hk3 hpt; omega
      · show Up _ kp parent
        have := hup p hp kp hk2
        rwa [hpe] at this
      · have := hd4 ht; omega
    · obtain ⟨k, h1, h2, h3⟩ := h.sk.dep n hn
      exact ⟨k, h1, hup n hn k h2, h3⟩
  · intro n hn h0
    rcases mem_insT.1 hn with rfl | hn
    · exact absurd (show parent < 0 from h0) (by omega)
    · exact h.num.top n hn h0
  · intro n hn
    rcases mem_insT.1 hn with rfl | hn
    · exact hw
    · exact h.num.wt n hn
  · intro n hn
    rcases mem_insT.1 hn with rfl | hn
    · exact ⟨Int.le_refl 0, by show (0 : Int) ≤ 16777216; decide⟩
    · exact h.num.now n hn
  · intro n hn q hq he
    have how := ofW_bounds wt
    rcases mem_insT.1 hn with rfl | hn
    · rcases mem_insT.1 hq with rfl | hq
      · exact absurd (show id = parent from he) (fun e => hne p hp (hpe.trans e.symm))
      · obtain rfl := uniqU h.sk.ids hq hp ((show q.id = parent from he).trans hpe.symm)
        simp only [newN, hnow]
        exact ⟨by omega, by omega, fun h => by cases h⟩
    · rcases mem_insT.1 hq with rfl | hq
      · exfalso
        have he : id = n.par := he
        obtain ⟨q, hq, e, -⟩ := (h.sk.clo n hn).2.2 (by omega)
        exact hne q hq (e.trans he.symm)
      · exact h.num.lag n hn q hq he
  · intro g hg ht
    rw [someT_ins rfl]
    rcases mem_insT.1 hg with rfl | hg
    · show false = someT l id
      refine (someT_not.2 fun m hm hpm => ?_).symm
      exfalso
      obtain ⟨q, hq, e, -⟩ := (h.sk.clo m hm).2.2 (by omega)
      exact hne q hq (e.trans hpm)
    · exact h.rd g hg ht
theorem rootN_wf : Wf [rootN] where
  sk := {
    ids := by simp [Ids]
    clo := by
      intro n hn
      rw [List.mem_singleton.1 hn]
      exact ⟨Int.le_refl 0, fun _ => rfl, fun h => absurd (show (0 : Int) ≤ -1 from h) (by decide)⟩
    root := ⟨rootN, List.mem_singleton.2 rfl, rfl, rfl⟩
    only := by
      intro n hn _
      rw [List.mem_singleton.1 hn]
      exact ⟨rfl, rfl⟩
    dep := by
      intro n hn
      rw [List.mem_singleton.1 hn]
      exact ⟨1, by omega, ⟨rootN, List.mem_singleton.2 rfl, rfl, rfl⟩, fun _ => by omega⟩
    len := by simp }
  num := {
    top := by
      intro n hn _
      rw [List.mem_singleton.1 hn]
      exact ⟨rfl, rfl⟩
    wt := by
      intro n hn
      rw [List.mem_singleton.1 hn]
      rfl
    now := by
      intro n hn
      rw [List.mem_singleton.1 hn]
      exact ⟨Int.le_refl 0, by show (0 : Int) ≤ 16777216; decide⟩
    lag := by
      intro n hn p hp e
      rw [List.mem_singleton.1 hn, List.mem_singleton.1 hp] at e
      exact absurd (show (0 : Int) = -1 from e) (by decide) }
  rd := by
    intro g hg _
    rw [List.mem_singleton.1 hg]
    rfl
end Go.Proofs.YtfccmdmfllicdaaDoor
