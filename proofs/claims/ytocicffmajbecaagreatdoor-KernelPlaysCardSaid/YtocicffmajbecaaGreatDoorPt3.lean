/- The program's own tree: its groups' indexes tell who is ready; a scope that is gone round. -/
import Derived.Test.YtocicffmajbecaaGreatDoorPt2
namespace Go.Proofs.YtocicffmajbecaaGreatDoor
open Go.RowKit
noncomputable def leastN (p : Nat → Prop) : Nat := Classical.epsilon fun f => p f ∧ ∀ g,p g → f ≤ g
theorem leastN_spec {p : Nat → Prop} (h : ∃ f,p f) : p (leastN p) ∧ ∀ g,p g → leastN p ≤ g := by
  have : ∃ f,p f ∧ ∀ g,p g → f ≤ g := by
    obtain ⟨f,hf⟩ := h
    induction f using Nat.strongRecOn with
    | ind f ih =>
      by_cases hm : ∃ g,g < f ∧ p g
      · obtain ⟨g,hg,hp⟩ := hm; exact ih g hg hp
      · exact ⟨f,hf,fun g hg => Nat.le_of_not_lt fun h => hm ⟨g,h,hg⟩⟩
  exact Classical.epsilon_spec this
theorem wp_up {P : Program} {a : Act} {w : World} {Q : Exit → Act → World → Prop} {body : Code} (l : Nat) (J : Nat → Act → World → Prop) (hf : findLabel ((Code.label l).seq body) l = some (Code.skip.seq body)) (h0 : ∃ f,J f a w)
    (pass : ∀ f a w,J f a w → body.wp P (Exit.jump l (fun a' w' => ∃ f',f' < f ∧ J f' a' w') Q) a w) : (Code.scope ((Code.label l).seq body)).wp P Q a w := by
  refine wp_goto l (fun a w => ∃ f,J f a w) (fun a w => leastN fun f => J f a w) hf ?_ ?_
  · intro a w h
    obtain ⟨h1,h2⟩ := leastN_spec h
    refine Code.wp_mono ?_ (pass _ a w h1)
    intro e a' w' hq
    cases e with
    | goto m =>
      obtain ⟨hm,f',hlt,hj⟩ := hq
      exact ⟨hm,⟨f',hj⟩,Nat.lt_of_le_of_lt ((leastN_spec (p := fun f => J f a' w') ⟨f',hj⟩).2 f' hj) hlt⟩
    | _ => exact hq
  · intro start
    exact wp_seq (wp_label (start a w h0))
theorem len_le_of_sub {α : Type} [DecidableEq α] : ∀ {a b : List α},a.Nodup → (∀ x ∈ a,x ∈ b) → a.length ≤ b.length
  | [],_,_,_ => Nat.zero_le _
  | x :: a,b,hn,hs => by
    obtain ⟨h1,h2⟩ := List.nodup_cons.1 hn
    have hx := hs x List.mem_cons_self
    have := len_le_of_sub (b := b.erase x) h2 fun y hy => (List.mem_erase_of_ne (fun e : y = x => h1 (by rw [← e]; exact hy))).2 (hs y (List.mem_cons_of_mem _ hy))
    rw [List.length_erase_of_mem hx] at this
    have := List.length_pos_of_mem hx
    simp only [List.length_cons]
    omega
def QOk (W : Wit) (l : List Nd) : Prop := ∀ g ∈ l,g.thr = false → Sorted (W.rw g.id) ∧ ∀ e,e ∈ W.rw g.id ↔ ∃ m ∈ l,m.par = g.id ∧ m.rdy = true ∧ e = (m.pass,m.id)
section
variable {W : Wit} {l : List Nd}
theorem QOk.ids (hq : QOk W l) (hs : Ids l) {g : Nd} (hg : g ∈ l) (ht : g.thr = false) {a b : En} (ha : a ∈ W.rw g.id) (hb : b ∈ W.rw g.id) (e : a.2 = b.2) : a = b := by
  obtain ⟨m,hm,-,-,rfl⟩ := ((hq g hg ht).2 a).1 ha
  obtain ⟨n,hn,-,-,rfl⟩ := ((hq g hg ht).2 b).1 hb
  rw [uniqU hs hm hn e]
theorem lessB_irr (a : En) : lessB a a = false := by rw [lessB_false]; omega
theorem QOk.nodup (hq : QOk W l) (hs : Ids l) {g : Nd} (hg : g ∈ l) (ht : g.thr = false) : ((W.rw g.id).map Prod.snd).Nodup := by
  have h := (hq g hg ht).1
  have hu : ∀ a ∈ W.rw g.id,∀ b ∈ W.rw g.id,a.2 = b.2 → a = b := fun a ha b hb e => hq.ids hs hg ht ha hb e
  generalize W.rw g.id = rows at *
  clear hq
  induction rows with
  | nil => exact List.nodup_nil
  | cons a r ih =>
    obtain ⟨h1,h2⟩ := List.pairwise_cons.1 h
    rw [List.map_cons,List.nodup_cons]
    refine ⟨fun hm => ?_,ih h2 fun x hx y hy => hu x (List.mem_cons_of_mem _ hx) y (List.mem_cons_of_mem _ hy)⟩
    obtain ⟨b,hb,e⟩ := List.mem_map.1 hm
    have := hu b (List.mem_cons_of_mem _ hb) a List.mem_cons_self e
    subst this
    have := h1 b hb
    rw [lessB_irr] at this; cases this
theorem QOk.has (hq : QOk W l) (hs : Ids l) {n g : Nd} (hn : n ∈ l) (hg : g ∈ l) (ht : g.thr = false) (he : g.id = n.par) : idAt (W.rw g.id) n.id < (W.rw g.id).length ↔ n.rdy = true := by
  constructor
  · intro h
    have hm := List.getElem_mem h
    have hi := idAt_get h
    obtain ⟨m,hm',hp,hr,e⟩ := ((hq g hg ht).2 _).1 hm
    have : m.id = n.id := by rw [← hi,e]
    rw [← uniqU hs hm' hn this]; exact hr
  · intro hr
    apply Decidable.byContradiction
    intro h
    exact idAt_none.1 h _ (((hq g hg ht).2 _).2 ⟨n,hn,he.symm,hr,rfl⟩) rfl
theorem QOk.len (hq : QOk W l) (hs : Ids l) {g : Nd} (hg : g ∈ l) (ht : g.thr = false) : (W.rw g.id).length ≤ l.length := by
  have := len_le_of_sub (b := l.map Nd.id) (hq.nodup hs hg ht) fun i hi => by
    obtain ⟨e,he,rfl⟩ := List.mem_map.1 hi
    obtain ⟨m,hm,-,-,rfl⟩ := ((hq g hg ht).2 e).1 he
    exact List.mem_map.2 ⟨m,hm,rfl⟩
  simpa using this
theorem QOk.room (hq : QOk W l) (hs : Ids l) {n g : Nd} (hn : n ∈ l) (hg : g ∈ l) (ht : g.thr = false) (hr : n.rdy = false) : (W.rw g.id).length < l.length := by
  have := len_le_of_sub (a := n.id :: (W.rw g.id).map Prod.snd) (b := l.map Nd.id) (by
    rw [List.nodup_cons]
    refine ⟨fun hi => ?_,hq.nodup hs hg ht⟩
    obtain ⟨e,he,e2⟩ := List.mem_map.1 hi
    obtain ⟨m,hm,-,hr',rfl⟩ := ((hq g hg ht).2 e).1 he
    rw [uniqU hs hm hn e2,hr] at hr'; cases hr') fun i hi => by
    rcases List.mem_cons.1 hi with rfl | hi
    · exact List.mem_map.2 ⟨n,hn,rfl⟩
    · obtain ⟨e,he,rfl⟩ := List.mem_map.1 hi
      obtain ⟨m,hm,-,-,rfl⟩ := ((hq g hg ht).2 e).1 he
      exact List.mem_map.2 ⟨m,hm,rfl⟩
  simp at this
  omega
theorem QOk.rdyP (hq : QOk W l) (hs : Ids l) {n g : Nd} (hn : n ∈ l) (hg : g ∈ l) (ht : g.thr = false) (he : g.id = n.par) (h0 : 0 ≤ n.par) : rdyP W n = n.rdy := by
  have := hq.has hs hn hg ht he
  rw [he] at this
  unfold Go.Proofs.YtocicffmajbecaaGreatDoor.rdyP
  rw [if_neg (by omega),Bool.eq_iff_iff,decide_eq_true_eq]
  exact this
theorem QOk.nil (hq : QOk W l) {g : Nd} (hg : g ∈ l) (ht : g.thr = false) : W.rw g.id = [] ↔ someT l g.id = false := by
  rw [someT_not]
  constructor
  · intro h m hm hp
    cases hr : m.rdy
    · rfl
    · have := ((hq g hg ht).2 _).2 ⟨m,hm,hp,hr,rfl⟩
      rw [h] at this; cases this
  · intro h
    cases hw : W.rw g.id with
    | nil => rfl
    | cons e r =>
      obtain ⟨m,hm,hp,hr,-⟩ := ((hq g hg ht).2 e).1 (by rw [hw]; exact List.mem_cons_self)
      rw [h m hm hp] at hr; cases hr
theorem QOk.head (hq : QOk W l) (hs : Ids l) {g : Nd} (hg : g ∈ l) (ht : g.thr = false) {e : En} {r : List En} (h : W.rw g.id = e :: r) : ∃ b,bestU l g.id = some b ∧ e = (b.pass,b.id) := by
  have hne : someT l g.id ≠ false := fun hf => by rw [(hq.nil hg ht).2 hf] at h; cases h
  cases hb : bestU l g.id with
  | none => exact absurd (bestU_none.1 hb) hne
  | some b =>
    refine ⟨b,rfl,?_⟩
    obtain ⟨b1,b2,b3,b4⟩ := bestU_spec hs hb
    obtain ⟨hs1,hs2⟩ := hq g hg ht
    have hbm : (b.pass,b.id) ∈ W.rw g.id := (hs2 _).2 ⟨b,b1,b2,b3,rfl⟩
    obtain ⟨m,hm,hp,hr,em⟩ := (hs2 e).1 (by rw [h]; exact List.mem_cons_self)
    rw [h] at hbm hs1
    rcases List.mem_cons.1 hbm with he | he
    · exact he.symm
    · have h1 := (List.pairwise_cons.1 hs1).1 _ he
      rcases b4 m hm hp hr with rfl | h2
      · exact em
      · rw [← em] at h2
        rw [lessB_iff] at h1 h2
        omega
theorem QOk.turn (hq : QOk W l) (hs : Ids l) {n g : Nd} (hn : n ∈ l) (hg : g ∈ l) (_ht : g.thr = false) (he : g.id = n.par) (f : Nd → Nd) (hf : ∀ m,(f m).id = m.id ∧ (f m).par = m.par ∧ (f m).thr = m.thr) (v : Value) {rows' : List En} (hst : Sorted rows')
    (hm : ∀ e,e ∈ rows' ↔ (e ∈ W.rw g.id ∧ e.2 ≠ n.id) ∨ ((f n).rdy = true ∧ e = ((f n).pass,n.id))) : QOk (W.setQ g.id v rows') (upd n.id f l) := by
  intro g' hg' ht'
  obtain ⟨g0,hg0,rfl⟩ := mem_upd.1 hg'
  have hi : ∀ m : Nd,(if m.id = n.id then f m else m).id = m.id := fun m => by split <;> simp [hf]
  have ht : ∀ m : Nd,(if m.id = n.id then f m else m).thr = m.thr := fun m => by split <;> simp [hf]
  have hpp : ∀ m : Nd,(if m.id = n.id then f m else m).par = m.par := fun m => by split <;> simp [hf]
  rw [ht] at ht'
  rw [hi]
  simp only [Wit.setQ]
  by_cases e0 : g0.id = g.id
  · simp only [e0,if_true]
    refine ⟨hst,fun e => ?_⟩
    rw [hm]
    constructor
    · rintro (⟨h1,h2⟩ | ⟨h1,h2⟩)
      · obtain ⟨m,hm',hp,hr,rfl⟩ := ((hq g hg _ht).2 e).1 h1
        exact ⟨m,mem_upd.2 ⟨m,hm',by rw [if_neg h2]⟩,hp,hr,rfl⟩
      · exact ⟨f n,mem_upd.2 ⟨n,hn,by rw [if_pos rfl]⟩,by rw [(hf n).2.1,he],h1,by rw [h2,(hf n).1]⟩
    · rintro ⟨m',hm',hp,hr,rfl⟩
      obtain ⟨m,hm'',rfl⟩ := mem_upd.1 hm'
      by_cases e1 : m.id = n.id
      · obtain rfl := uniqU hs hm'' hn e1
        rw [if_pos rfl] at hr ⊢
        exact .inr ⟨hr,by rw [(hf m).1]⟩
      · rw [if_neg e1] at hp hr ⊢
        exact .inl ⟨((hq g hg _ht).2 _).2 ⟨m,hm'',hp,hr,rfl⟩,e1⟩
  · simp only [e0,if_false]
    refine ⟨(hq g0 hg0 ht').1,fun e => ?_⟩
    rw [(hq g0 hg0 ht').2]
    constructor
    · rintro ⟨m,hm',hp,hr,rfl⟩
      refine ⟨m,mem_upd.2 ⟨m,hm',?_⟩,hp,hr,rfl⟩
      rw [if_neg]
      intro e1
      rw [uniqU hs hm' hn e1,← he] at hp
      exact e0 hp.symm
    · rintro ⟨m',hm',hp,hr,rfl⟩
      obtain ⟨m,hm'',rfl⟩ := mem_upd.1 hm'
      rw [hpp] at hp
      have e1 : ¬ m.id = n.id := fun e1 => by
        rw [uniqU hs hm'' hn e1,← he] at hp
        exact e0 hp.symm
      rw [if_neg e1] at hr ⊢
      exact ⟨m,hm'',hp,hr,rfl⟩
theorem QOk.quiet (hq : QOk W l) (hs : Ids l) {n : Nd} (hn : n ∈ l) (f : Nd → Nd) (hf : ∀ m,(f m).id = m.id ∧ (f m).par = m.par ∧ (f m).thr = m.thr) (hm : (∃ g ∈ l,g.id = n.par) → (f n).rdy = n.rdy ∧ (n.rdy = true → (f n).pass = n.pass)) : QOk W (upd n.id f l) := by
  intro g' hg' ht'
  obtain ⟨g0,hg0,rfl⟩ := mem_upd.1 hg'
  have hi : ∀ m : Nd,(if m.id = n.id then f m else m).id = m.id := fun m => by split <;> simp [hf]
  have ht : ∀ m : Nd,(if m.id = n.id then f m else m).thr = m.thr := fun m => by split <;> simp [hf]
  have hpp : ∀ m : Nd,(if m.id = n.id then f m else m).par = m.par := fun m => by split <;> simp [hf]
  rw [ht] at ht'
  rw [hi]
  refine ⟨(hq g0 hg0 ht').1,fun e => ?_⟩
  rw [(hq g0 hg0 ht').2]
  constructor
  · rintro ⟨m,hm',hp,hr,rfl⟩
    by_cases e1 : m.id = n.id
    · obtain rfl := uniqU hs hm' hn e1
      obtain ⟨k1,k2⟩ := hm ⟨g0,hg0,hp.symm⟩
      exact ⟨f m,mem_upd.2 ⟨m,hm',by rw [if_pos rfl]⟩,by rw [(hf m).2.1]; exact hp,by rw [k1]; exact hr,by rw [k2 hr,(hf m).1]⟩
    · exact ⟨m,mem_upd.2 ⟨m,hm',by rw [if_neg e1]⟩,hp,hr,rfl⟩
  · rintro ⟨m',hm',hp,hr,rfl⟩
    obtain ⟨m,hm'',rfl⟩ := mem_upd.1 hm'
    rw [hpp] at hp
    by_cases e1 : m.id = n.id
    · obtain rfl := uniqU hs hm'' hn e1
      rw [if_pos rfl] at hr ⊢
      obtain ⟨k1,k2⟩ := hm ⟨g0,hg0,hp.symm⟩
      rw [k1] at hr
      exact ⟨m,hm'',hp,hr,by rw [k2 hr,(hf m).1]⟩
    · rw [if_neg e1] at hr ⊢
      exact ⟨m,hm'',hp,hr,rfl⟩
theorem mem_erase_id {rows : List En} {id : Int} (hu : ∀ a ∈ rows,∀ b ∈ rows,a.2 = b.2 → a = b) (hn : (rows.map Prod.snd).Nodup) (h : idAt rows id < rows.length) {e : En} : e ∈ rows.eraseIdx (idAt rows id) ↔ e ∈ rows ∧ e.2 ≠ id := by
  have hi := idAt_get h
  rw [List.eraseIdx_eq_take_drop_succ]
  have hsp : rows = rows.take (idAt rows id) ++ rows[idAt rows id] :: rows.drop (idAt rows id + 1) := by
    rw [← List.drop_eq_getElem_cons h,List.take_append_drop]
  generalize rows[idAt rows id] = x at *
  generalize rows.take (idAt rows id) = a at *
  generalize rows.drop (idAt rows id + 1) = b at *
  subst hsp
  simp only [List.map_append,List.map_cons] at hn
  obtain ⟨n1,n2,n3⟩ := List.nodup_append.1 hn
  have n4 := (List.nodup_cons.1 n2).1
  simp only [List.mem_append,List.mem_cons]
  constructor
  · rintro (h1 | h1)
    · exact ⟨.inl h1,fun e2 => n3 e.2 (List.mem_map.2 ⟨e,h1,rfl⟩) x.2 List.mem_cons_self (by rw [hi]; exact e2)⟩
    · exact ⟨.inr (.inr h1),fun e2 => n4 (List.mem_map.2 ⟨e,h1,by rw [hi]; exact e2⟩)⟩
  · rintro ⟨h1 | rfl | h1,h2⟩
    · exact .inl h1
    · exact absurd hi h2
    · exact .inr h1
theorem sorted_erase {rows : List En} (h : Sorted rows) (k : Nat) : Sorted (rows.eraseIdx k) := h.sublist (List.eraseIdx_sublist rows k)
theorem QOk.put (hq : QOk W l) (hs : Ids l) {n g : Nd} (hn : n ∈ l) (hg : g ∈ l) (ht : g.thr = false) (he : g.id = n.par) (hr : n.rdy = false) (f : Nd → Nd) (hf : ∀ m,(f m).id = m.id ∧ (f m).par = m.par ∧ (f m).thr = m.thr) (hr' : (f n).rdy = true) (v : Value) :
    QOk (W.setQ g.id v (ins ((f n).pass,n.id) (W.rw g.id))) (upd n.id f l) := by
  have hno : ∀ e ∈ W.rw g.id,e.2 ≠ n.id := fun e hm e2 => by
    obtain ⟨m,hm',-,hr2,rfl⟩ := ((hq g hg ht).2 e).1 hm
    rw [uniqU hs hm' hn e2,hr] at hr2; cases hr2
  refine hq.turn hs hn hg ht he f hf v (ins_sorted (hq g hg ht).1 fun x hx e => hno x hx (by rw [e])) fun e => ?_
  rw [mem_ins]
  constructor
  · rintro (h | h)
    · exact .inr ⟨hr',h⟩
    · exact .inl ⟨h,hno e h⟩
  · rintro (h | h)
    · exact .inr h.1
    · exact .inl h.2
theorem QOk.drop (hq : QOk W l) (hs : Ids l) {n g : Nd} (hn : n ∈ l) (hg : g ∈ l) (ht : g.thr = false) (he : g.id = n.par) (hr : n.rdy = true) (f : Nd → Nd) (hf : ∀ m,(f m).id = m.id ∧ (f m).par = m.par ∧ (f m).thr = m.thr) (hr' : (f n).rdy = false) (v : Value) :
    QOk (W.setQ g.id v ((W.rw g.id).eraseIdx (idAt (W.rw g.id) n.id))) (upd n.id f l) := by
  refine hq.turn hs hn hg ht he f hf v (sorted_erase (hq g hg ht).1 _) fun e => ?_
  rw [mem_erase_id (fun a ha b hb => hq.ids hs hg ht ha hb) (hq.nodup hs hg ht) ((hq.has hs hn hg ht he).2 hr),hr']
  simp
theorem QOk.rekey (hq : QOk W l) (hs : Ids l) {n g : Nd} (hn : n ∈ l) (hg : g ∈ l) (ht : g.thr = false) (he : g.id = n.par) (hr : n.rdy = true) (f : Nd → Nd) (hf : ∀ m,(f m).id = m.id ∧ (f m).par = m.par ∧ (f m).thr = m.thr) (hr' : (f n).rdy = true) (v : Value) :
    QOk (W.setQ g.id v (ins ((f n).pass,n.id) ((W.rw g.id).eraseIdx (idAt (W.rw g.id) n.id)))) (upd n.id f l) := by
  have hme := fun e => mem_erase_id (e := e) (fun a ha b hb => hq.ids hs hg ht ha hb) (hq.nodup hs hg ht) ((hq.has hs hn hg ht he).2 hr)
  refine hq.turn hs hn hg ht he f hf v (ins_sorted (sorted_erase (hq g hg ht).1 _) fun x hx e => ((hme x).1 hx).2 (by rw [e])) fun e => ?_
  rw [mem_ins,hme,hr']
  simp [or_comm]
end
end Go.Proofs.YtocicffmajbecaaGreatDoor
