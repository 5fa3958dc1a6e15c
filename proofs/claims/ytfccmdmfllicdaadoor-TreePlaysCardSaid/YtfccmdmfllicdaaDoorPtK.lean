/- The program's own tree: Remove. -/
import Derived.Test.YtfccmdmfllicdaaDoorPtJ
import Derived.Test.YtfccmdmfllicdaaDoorTm3
namespace Go.Proofs.YtfccmdmfllicdaaDoor
open Go.RowKit
set_option linter.unusedSimpArgs false

/-- The nodes but for one. -/
def delU (l : List Nd) (id : Int) : List Nd := l.eraseIdx (placeT l id)
theorem mem_eraseIdx_ids {l : List Nd} (hs : Ids l) : ∀ {i : Nat} (hi : i < l.length) {m : Nd}, m ∈ l.eraseIdx i ↔ m ∈ l ∧ m.id ≠ l[i].id := by
  intro i hi m
  constructor
  · intro h
    have hm := List.mem_of_mem_eraseIdx h
    refine ⟨hm, fun e => ?_⟩
    obtain ⟨j, hj, e2⟩ := List.mem_iff_getElem.1 h
    rw [List.getElem_eraseIdx] at e2
    rw [List.length_eraseIdx, if_pos hi] at hj
    split at e2
    · have := ids_get hs (by omega : j < l.length) hi (by omega)
      rw [e2] at this; omega
    · have := ids_get hs hi (by omega : j + 1 < l.length) (by omega)
      rw [e2] at this; omega
  · rintro ⟨hm, hne⟩
    obtain ⟨j, hj, rfl⟩ := List.mem_iff_getElem.1 hm
    have hji : j ≠ i := fun e => by subst e; exact hne rfl
    refine List.mem_iff_getElem.2 ?_
    by_cases h : j < i
    · exact ⟨j, by rw [List.length_eraseIdx, if_pos hi]; omega, by rw [List.getElem_eraseIdx, dif_pos h]⟩
    · refine ⟨j - 1, by rw [List.length_eraseIdx, if_pos hi]; omega, ?_⟩
      rw [List.getElem_eraseIdx, dif_neg (by omega)]
      congr 1; omega
theorem place_get {l : List Nd} (hs : Ids l) {n : Nd} (hn : n ∈ l) : ∃ h : placeT l n.id < l.length, l[placeT l n.id] = n := by
  have := placeT_has hs hn
  have hlt := (List.getElem?_eq_some_iff.1 this)
  exact ⟨hlt.1, hlt.2⟩
theorem mem_delU {l : List Nd} (hs : Ids l) {n : Nd} (hn : n ∈ l) {m : Nd} : m ∈ delU l n.id ↔ m ∈ l ∧ m.id ≠ n.id := by
  obtain ⟨h1, h2⟩ := place_get hs hn
  unfold delU
  rw [mem_eraseIdx_ids hs h1, h2]
theorem delU_length {l : List Nd} (hs : Ids l) {n : Nd} (hn : n ∈ l) : (delU l n.id).length + 1 = l.length := by
  obtain ⟨h1, h2⟩ := place_get hs hn
  unfold delU
  rw [List.length_eraseIdx, if_pos h1]; omega
theorem ids_delU {l : List Nd} (hs : Ids l) (id : Int) : Ids (delU l id) := List.Pairwise.sublist (List.eraseIdx_sublist l _) hs
theorem kids_nil {l : List Nd} {g : Int} : kidsU l g = [] ↔ ∀ m ∈ l, m.par ≠ g := by
  unfold kidsU
  rw [List.filter_eq_nil_iff]
  simp
section
variable {base x : Nat} {W : Wit} {l : List Nd} {w w' : World}
theorem Pt.remove (h : Pt base x W l w) (hs : Ids l) {n : Nd} (hn : n ∈ l) {v' : Value} (hrow : w'.ownsRow base 53 1 v' (delU l n.id).length ((W.ptrs l).eraseIdx (placeT l n.id))) (hg : w.grownBy w' W.v.ownBlock) (hv : v'.ownBlock = W.v.ownBlock) :
    Pt base x { W with v := v' } (delU l n.id) (w'.setCell ⟨x, 0, none⟩ v') ∧ Fr (Own x W l) (Own x { W with v := v' } (delU l n.id)) w (w'.setCell ⟨x, 0, none⟩ v') := by
  have hm : ∀ {m}, m ∈ delU l n.id → m ∈ l := fun h => ((mem_delU hs hn).1 h).1
  have keep : ∀ b, b < w.heap.size → b ≠ x → W.v.ownBlock ≠ some b → (w'.setCell ⟨x, 0, none⟩ v').heap[b]? = w.heap[b]? := fun b hb h1 h2 => by
    rw [Below.heap_setCell _ _ _ _ (by simpa using h1)]
    exact hg.block b hb (Ne.symm h2)
  have hxb : w'.heap[x]? = some (.cells #[W.v] 61 (0, 0)) := by
    rw [hg.block x h.lt (Ne.symm (owns_ne h.row h.blk (by decide)))]; exact h.blk
  have hsub : ∀ m : Nd, pnc { W with v := v' } m = pnc W m := fun m => rfl
  refine ⟨⟨?_, h.hx, ?_, ?_, ?_, ?_, ?_, ?_⟩, ⟨hg.os, hg.tape, hg.output, ?_, ?_, ?_⟩⟩
  · rw [set_same hxb]; rfl
  · have e : Wit.ptrs { W with v := v' } (delU l n.id) = (W.ptrs l).eraseIdx (placeT l n.id) := by
      unfold Wit.ptrs delU
      rw [List.eraseIdx_eq_take_drop_succ, List.eraseIdx_eq_take_drop_succ, List.map_append, List.map_take, List.map_drop]
    rw [e]
    refine owns_keep hrow fun g hgv => Below.heap_setCell _ _ _ _ fun e => ?_
    have e : g = x := e
    subst e
    exact owns_ne hrow hxb (by decide) hgv
  · intro m hm'
    refine ⟨?_, (h.node m (hm hm')).2⟩
    rw [hsub]
    show (w'.setCell _ _).heap[W.nb m.id]? = _
    rw [keep _ (h.nlt (hm hm')) (fun e => h.n_x (hm hm') e.symm) (h.n_v (hm hm'))]
    exact (h.node m (hm hm')).1
  · intro m hm' ht
    obtain ⟨hq, hqb⟩ := h.idx m (hm hm') ht
    exact ⟨hq.keep (keep _ hq.lt (h.q_x (hm hm') ht).symm (h.q_v (hm hm') ht)) fun g hgv => keep g (hq.row.lt g hgv).2 (fun e => h.r_x (hm hm') ht (by rw [hgv, e])) (h.r_v (hm hm') ht hgv), hqb⟩
  · exact fun a ha b hb => h.injN a (hm ha) b (hm hb)
  · exact fun a ha b hb => h.injQ a (hm ha) b (hm hb)
  · exact fun a ha b hb => h.injV a (hm ha) b (hm hb)
  · have := hg.size; simp [World.setCell]; omega
  · intro k hk hS
    exact keep k hk (fun e => hS (.inl e)) (fun e => hS (.inr (.inl e)))
  · rintro k (rfl | hk | ⟨m, hm', hk⟩)
    · exact .inl (.inl rfl)
    · exact .inl (.inr (.inl (by rw [← hv]; exact hk)))
    · exact .inl (.inr (.inr ⟨m, hm hm', hk⟩))
theorem QOk.remove (hq : QOk W l) (hs : Ids l) {n : Nd} (hn : n ∈ l) (hr : n.rdy = false) (v' : Value) : QOk { W with v := v' } (delU l n.id) := by
  intro g hg ht
  have hg' := ((mem_delU hs hn).1 hg).1
  refine ⟨(hq g hg' ht).1, fun e => ?_⟩
  show e ∈ W.rw g.id ↔ _
  rw [(hq g hg' ht).2]
  constructor
  · rintro ⟨m, hm, hp, hr', e⟩
    refine ⟨m, (mem_delU hs hn).2 ⟨hm, fun e' => ?_⟩, hp, hr', e⟩
    rw [uniqU hs hm hn e', hr] at hr'; cases hr'
  · rintro ⟨m, hm, hp, hr', e⟩
    exact ⟨m, ((mem_delU hs hn).1 hm).1, hp, hr', e⟩

theorem up_del (hs : Ids l) {n : Nd} (hn : n ∈ l) (hk : ∀ m ∈ l, m.par ≠ n.id) : ∀ (k : Nat) (id : Int), id ≠ n.id → Up l k id → Up (delU l n.id) k id
  | 0, id, hne, h => getU_none.2 fun m hm => getU_none.1 (show getU l id = none from h) m ((mem_delU hs hn).1 hm).1
  | k + 1, id, hne, h => by
    obtain ⟨m, hm, e, h⟩ := h
    exact ⟨m, (mem_delU hs hn).2 ⟨hm, by omega⟩, e, up_del hs hn hk k _ (hk m hm) h⟩
theorem Wf.remove (h : Wf l) {n : Nd} (hn : n ∈ l) (h0 : 0 ≤ n.par) (hr : n.rdy = false) (hk : ∀ m ∈ l, m.par ≠ n.id) : Wf (delU l n.id) where
  sk := {
    ids := ids_delU h.sk.ids _
    clo := fun m hm => by
      obtain ⟨hm, hne⟩ := (mem_delU h.sk.ids hn).1 hm
      obtain ⟨h1, h2, h3⟩ := h.sk.clo m hm
      refine ⟨h1, h2, fun h4 => ?_⟩
      obtain ⟨p, hp, he, ht⟩ := h3 h4
      exact ⟨p, (mem_delU h.sk.ids hn).2 ⟨hp, fun e => hk m hm (by rw [← he, e])⟩, he, ht⟩
    root := by
      obtain ⟨r, hr, e1, e2⟩ := h.sk.root
      refine ⟨r, (mem_delU h.sk.ids hn).2 ⟨hr, fun e => ?_⟩, e1, e2⟩
      rw [uniqU h.sk.ids hr hn e] at e2
      omega
    only := fun m hm => h.sk.only m ((mem_delU h.sk.ids hn).1 hm).1
    dep := fun m hm => by
      obtain ⟨hm, hne⟩ := (mem_delU h.sk.ids hn).1 hm
      obtain ⟨k, h1, h2, h3⟩ := h.sk.dep m hm
      exact ⟨k, h1, up_del h.sk.ids hn hk k _ hne h2, h3⟩
    len := by have := delU_length h.sk.ids hn; have := h.sk.len; omega }
  num := ⟨fun m hm => h.num.top m ((mem_delU h.sk.ids hn).1 hm).1, fun m hm => h.num.wt m ((mem_delU h.sk.ids hn).1 hm).1, fun m hm => h.num.now m ((mem_delU h.sk.ids hn).1 hm).1,
    fun m hm p hp => h.num.lag m ((mem_delU h.sk.ids hn).1 hm).1 p ((mem_delU h.sk.ids hn).1 hp).1⟩
  rd := fun g hg ht => by
    obtain ⟨hg, hne⟩ := (mem_delU h.sk.ids hn).1 hg
    rw [h.rd g hg ht, Bool.eq_iff_iff, someT_iff, someT_iff]
    constructor
    · rintro ⟨m, hm, hp, hr'⟩
      refine ⟨m, (mem_delU h.sk.ids hn).2 ⟨hm, fun e => ?_⟩, hp, hr'⟩
      rw [uniqU h.sk.ids hm hn e, hr] at hr'; cases hr'
    · rintro ⟨m, hm, hp, hr'⟩
      exact ⟨m, ((mem_delU h.sk.ids hn).1 hm).1, hp, hr'⟩

/-- A group that has something in it. -/
theorem removeP_10 (h : TOk base x W l w) {n : Nd} (hn : n ∈ l) (h0 : 0 ≤ n.par) (hk : kidsU l n.id ≠ []) :
    Calls Tryd.prog 10 #[.pointer (some ⟨x, 0, none⟩), .int .i64 n.id] w (Yields w (errV 10)) := by
  have hl1 : l.length ≤ 1000 := by have := h.len; omega
  have HFP : Hid (∀ w', Ext w w' → Calls Tryd.prog 27 #[.pointer (some ⟨x, 0, none⟩), .int .i64 n.id] w' (Yields w' (.pointer (some ⟨W.nb n.id, 0, none⟩)))) := fun w' hx => find_yes (h.pt.ext hx) h.ids hl1 hn
  have m3 := (h.pt.cells hn).2.2.2.1
  rw [grp_up (by omega)] at m3
  have hpl := h.pt.nlt hn
  have HWI := hid fun w' hx => within_any (w := w') (h.pt.ext hx) h.clo h.len hn
  obtain ⟨K, hK⟩ : ∃ K : Nat, (kidsU l n.id).length = K + 1 := by
    cases hc : kidsU l n.id with
    | nil => exact absurd hc hk
    | cons a r => exact ⟨r.length, rfl⟩
  rw [hK] at HWI
  rw [errV_pos (by decide)]
  clear h hl1 hk hn h0 hK
  go_enter Tryd.func10, Tryd.ntmps10
  go_wp2_with (go_at_call 27; (with_reducible refine (HFP.out _ (by repeat (first | exact Ext.refl _ | assumption | refine Ext.more ?_ _ | refine Ext.drew ?_ | refine Ext.drewN ?_ _ | refine Ext.alloc ?_ _ | refine Ext.setCell ?_ (by simp; try omega) _ | refine Ext.trans ?_ (by assumption)))).yields ?_); intro q1)
  (with_reducible refine (HWI.out _ (ext_more w q1)).mono ?_)
  rintro e w2 ⟨v', rfl, hrow, hx2⟩
  have hx3 := hid ((ext_more w q1).trans hx2)
  obtain ⟨p, c, rfl⟩ : ∃ p c, v' = .slice p (K + 1) c := by
    rcases hrow.2 with ⟨_, h0⟩ | ⟨g, cap, cur, e, -⟩
    · omega
    · exact ⟨_, _, e⟩
  clear hrow hx2
  go_wp2
  go_returns
  exact ⟨rfl, hx3.out⟩

set_option maxRecDepth 100000 in
set_option maxHeartbeats 4000000 in
theorem removeP_ok (h : TOk base x W l w) {n : Nd} (hn : n ∈ l) (h0 : 0 ≤ n.par) (hk : kidsU l n.id = []) (f : Nat) (hch : Chain l f n.id) (hids : Ids (restU f l n.id)) (hrest : ∃ n1 ∈ restU f l n.id, n1.id = n.id ∧ n1.rdy = false) (hlen : (restU f l n.id).length = l.length) (hclo : (restU f l n.id).length ≤ 60) :
    Calls Tryd.prog 10 #[.pointer (some ⟨x, 0, none⟩), .int .i64 n.id] w fun e w' => e = .returned .nilIface ∧ ∃ W', Pt base x W' (delU (restU f l n.id) n.id) w' ∧ QOk W' (delU (restU f l n.id) n.id) ∧ Fr (Own x W l) (Own x W' (delU (restU f l n.id) n.id)) w w' := by
  have hl1 : l.length ≤ 1000 := by have := h.len; omega
  have HFP : Hid (∀ w', Ext w w' → Calls Tryd.prog 27 #[.pointer (some ⟨x, 0, none⟩), .int .i64 n.id] w' (Yields w' (.pointer (some ⟨W.nb n.id, 0, none⟩)))) := fun w' hx => find_yes (h.pt.ext hx) h.ids hl1 hn
  have m3 := (h.pt.cells hn).2.2.2.1
  rw [grp_up (by omega)] at m3
  have hpl := h.pt.nlt hn
  have HWI := hid fun w' hx => within_any (w := w') (h.pt.ext hx) h.clo h.len hn
  have hK : (kidsU l n.id).length = 0 := by rw [hk]; rfl
  rw [hK] at HWI
  have HRE := hid fun w' (hx : Ext w w') => rest_any (h.pt.ext hx) h.qok h.ids h.clo h.len hn f hch
  obtain ⟨n1, hn1, e1, hr1⟩ := hrest
  generalize hLL : restU f l n.id = L at *
  have HI := hid hids
  have HN1 := hid hn1
  have HE1 := hid e1
  have HR1 := hid hr1
  have HLN := hid hlen
  have H60 := hid hclo
  clear h hl1 hk hn h0 hK hids hn1 e1 hr1 hlen hclo hch
  go_enter Tryd.func10, Tryd.ntmps10
  go_wp2_with (go_at_call 27; (with_reducible refine (HFP.out _ (by repeat (first | exact Ext.refl _ | assumption | refine Ext.more ?_ _ | refine Ext.drew ?_ | refine Ext.drewN ?_ _ | refine Ext.alloc ?_ _ | refine Ext.setCell ?_ (by simp; try omega) _ | refine Ext.trans ?_ (by assumption)))).yields ?_); intro q1)
  (with_reducible refine (HWI.out _ (ext_more w q1)).mono ?_)
  rintro e w2 ⟨v', rfl, hrow, hx2⟩
  have hx3 := (ext_more w q1).trans hx2
  obtain ⟨p, c, rfl⟩ : ∃ p c, v' = .slice p 0 c := by
    rcases hrow.2 with ⟨e, _⟩ | ⟨g, cap, cur, e, -⟩
    · exact ⟨_, _, e⟩
    · exact ⟨_, _, e⟩
  have HX3 := hid hx3
  clear hrow hx2 hx3 m3 hpl
  go_wp2_with fail
  (with_reducible refine (HRE.out _ HX3.out).mono ?_)
  rintro e w3 ⟨rfl, W1, hp, hq, hF, hv1, hv2, hv3⟩
  have HP := hid hp
  have HQ := hid hq
  have HF0 : Hid (Fr (Own x W l) (Own x W1 L) w w3) := (Fr.of_ext HX3.out).trans hF
  clear hp hq hF hv1 hv2 hv3 HRE HX3 HWI HFP
  go_wp2_with fail
  have hl2 : L.length ≤ 1000 := by have := H60.out; omega
  have HPL := hid (place_at HP.out HI.out hl2 n.id)
  obtain ⟨hplt, -⟩ := place_get HI.out HN1.out
  rw [HE1.out] at hplt
  (with_reducible refine HPL.out.mono ?_)
  rintro e w4 ⟨rfl, hx4⟩
  have HP4 := hid (HP.out.ext hx4)
  have HF4 := hid (HF0.out.ext hx4)
  obtain ⟨pp, cap, hv, hcap, hcm, hp0, hp1⟩ := HP4.out.shape
  obtain ⟨ad, rfl⟩ : ∃ a, pp = some a := by
    cases pp with
    | none => have e := (hp0 rfl).1; have := HN1.out; rw [e] at this; cases this
    | some a => exact ⟨a, rfl⟩
  obtain ⟨g, rfl, hgb, hgl⟩ := hp1 ad rfl
  have HV := hid hv
  have cx := HP4.out.cell
  rw [hv] at cx
  have fx := HP4.out.xfree
  have hxl := HP4.out.lt
  have hrow := HP4.out.row
  rw [hv] at hrow
  have HNG : Hid (g ≠ x) := fun e => by
    have := owns_ne hrow HP4.out.blk (by decide)
    rw [e] at this
    exact this rfl
  obtain ⟨k, hk⟩ : ∃ k, L.length = placeT L n.id + k + 1 := ⟨L.length - placeT L n.id - 1, by omega⟩
  rw [hk] at hrow cx
  have hone : ∀ u ∈ W1.ptrs L, u.oneCell' = true := fun u hu => by
    unfold Wit.ptrs at hu
    obtain ⟨m, -, rfl⟩ := List.mem_map.1 hu
    rfl
  have HDEL := hid (deleteP_any _ g cap (placeT L n.id) k (W1.ptrs L) (by rw [ptrs_len]; exact hk) (by rw [ptrs_len]; omega) hone w4 hrow)
  have HK := hid hk
  have hp60 : (placeT L n.id : Int) ≤ 60 := by have := H60.out; omega
  clear hx4 hp0 hp1 hv hrow hone hk hplt HP HF0 HPL
  generalize hasU L n.id = hs at *
  generalize hpp : placeT L n.id = pl at *
  have HPP := hid hpp
  clear hpp
  go_wp2_with fail
  (with_reducible refine HDEL.out.mono ?_)
  rintro e w5 ⟨rfl, hrow5, hg5⟩
  have hb5 : w5.heap[x]? = w4.heap[x]? := hg5.block x HP4.out.lt (by
    have := HNG.out
    simp only [ne_eq, Option.some.injEq]
    exact fun e => this e.symm)
  have cx5 : w5.cell? ⟨x, 0, none⟩ = some (.slice (some ⟨g, 0, none⟩) (pl + k + 1) cap) := by rw [← cx]; simp [World.cell?, hb5]
  have fx5 : w5.frozen? ⟨x, 0, none⟩ = false := by rw [← fx]; simp [World.frozen?, hb5]
  have hx5 : x < w5.heap.size := Nat.lt_of_lt_of_le hxl hg5.size
  have hdl : (delU L n.id).length = pl + k := by
    have := delU_length HI.out HN1.out
    rw [HE1.out] at this
    have := HK.out
    omega
  have HFIN : Hid (∃ W', Pt base x W' (delU L n.id) (w5.setCell ⟨x, 0, none⟩ (.slice (some ⟨g, 0, none⟩) (pl + k) cap)) ∧ QOk W' (delU L n.id) ∧ Fr (Own x W l) (Own x W' (delU L n.id)) w (w5.setCell ⟨x, 0, none⟩ (.slice (some ⟨g, 0, none⟩) (pl + k) cap))) := by
    have hrm := HP4.out.remove HI.out HN1.out (v' := .slice (some ⟨g, 0, none⟩) (pl + k) cap) (w' := w5) (by rw [HE1.out, hdl, HPP.out]; exact hrow5) (by rw [HV.out]; exact hg5) (by rw [HV.out]; rfl)
    have hqr := HQ.out.remove HI.out HN1.out HR1.out (.slice (some ⟨g, 0, none⟩) (pl + k) cap)
    rw [HE1.out] at hrm hqr
    exact ⟨_, hrm.1, hqr, HF4.out.trans hrm.2⟩
  clear hrow5 hg5 hb5 hdl HDEL HP4 HF4 cx fx hxl HV HK HNG
  go_wp2
  go_returns
  exact ⟨rfl, HFIN.out⟩
end
end Go.Proofs.YtfccmdmfllicdaaDoor
