/- The program's own tree: a node let in. -/
import Derived.Test.YtfccmdmfllicdaaDoorPt8
namespace Go.Proofs.YtfccmdmfllicdaaDoor
open Go.RowKit
set_option linter.unusedSimpArgs false

theorem mem_insT {d n : Nd} {l : List Nd} : n ∈ insT d l ↔ n = d ∨ n ∈ l := by
  unfold insT
  rw [List.mem_append, List.mem_cons]
  have h : n ∈ l ↔ n ∈ l.take (placeT l d.id) ∨ n ∈ l.drop (placeT l d.id) := by rw [← List.mem_append, List.take_append_drop]
  rw [h]
  constructor
  · rintro (h | h | h)
    · exact .inr (.inl h)
    · exact .inl h
    · exact .inr (.inr h)
  · rintro (h | h | h)
    · exact .inr (.inl h)
    · exact .inl h
    · exact .inr (.inr h)
theorem insT_length (d : Nd) (l : List Nd) : (insT d l).length = l.length + 1 := by
  have := placeT_le l d.id
  simp [insT]; omega
theorem ids_insT {d : Nd} {l : List Nd} (hs : Ids l) (hn : getU l d.id = none) : Ids (insT d l) := by
  unfold insT
  have hsp := hs
  rw [← List.take_append_drop (placeT l d.id) l] at hsp
  obtain ⟨s1, s2, s3⟩ := List.pairwise_append.1 hsp
  have hlow : ∀ a ∈ l.take (placeT l d.id), a.id < d.id := by
    intro a ha
    obtain ⟨i, hi, rfl⟩ := List.mem_iff_getElem.1 ha
    rw [List.length_take] at hi
    rw [List.getElem_take]
    have := List.not_of_lt_findIdx (p := fun n : Nd => !decide (n.id < d.id)) (xs := l) (i := i) (by show i < placeT l d.id; omega)
    simpa using this
  have hhigh : ∀ a ∈ l.drop (placeT l d.id), d.id < a.id := by
    intro a ha
    obtain ⟨i, hi, rfl⟩ := List.mem_iff_getElem.1 ha
    rw [List.length_drop] at hi
    rw [List.getElem_drop]
    have hlt : placeT l d.id < l.length := by omega
    have h0 : ¬ l[placeT l d.id].id < d.id := by
      have := List.findIdx_getElem (p := fun n : Nd => !decide (n.id < d.id)) (xs := l) (w := hlt)
      have h := this
      simp only [Bool.not_eq_true', decide_eq_false_iff_not] at h
      exact h
    have h1 := getU_none.1 hn _ (List.getElem_mem hlt)
    by_cases e : i = 0
    · subst e
      simp only [Nat.add_zero]
      omega
    · have := ids_get hs hlt (by omega : placeT l d.id + i < l.length) (by omega)
      omega
  refine List.pairwise_append.2 ⟨s1, List.pairwise_cons.2 ⟨hhigh, s2⟩, fun a ha b hb => ?_⟩
  rcases List.mem_cons.1 hb with rfl | hb
  · exact hlow a ha
  · exact s3 a ha b hb

def Wit.add (W : Wit) (d : Nd) (v : Value) (B Qb : Nat) : Wit :=
  { v := v, nb := fun i => if i = d.id then B else W.nb i, qb := fun i => if i = d.id then Qb else W.qb i, qv := fun i => if i = d.id then .slice none 0 0 else W.qv i, rw := fun i => if i = d.id then [] else W.rw i }

section
variable {base x : Nat} {W : Wit} {l : List Nd} {w0 w1 w2 : World}
theorem Pt.insert (h : Pt base x W l w0) (hc : Clo l) (d : Nd) (hnew : getU l d.id = none) (hpar : ∃ p ∈ l, p.id = d.par) {B Qb : Nat} {v' : Value} (hx1 : Ext w0 w1) (hB : w0.heap.size ≤ B) (hQ : d.thr = false → w0.heap.size ≤ Qb)
    (hBb : w1.heap[B]? = some (.cells #[.int .i64 d.id, .int .i64 d.wt, .bool d.thr, .pointer (some ⟨W.nb d.par, 0, none⟩), .complex .f64 (Fz d.pass) (Fz d.now), if d.thr = true then .pointer none else .pointer (some ⟨Qb, 0, none⟩)] 58 (0, 0)))
    (hQb : d.thr = false → Ix base Qb (.slice none 0 0) 60 0 [] w1) (hb0 : base ≤ w0.heap.size)
    (hrow : w2.ownsRow base 53 1 v' (l.length + 1) ((W.ptrs l).take (placeT l d.id) ++ .pointer (some ⟨B, 0, none⟩) :: (W.ptrs l).drop (placeT l d.id))) (hg : w1.grownBy w2 W.v.ownBlock)
    (hv : ∀ g, v'.ownBlock = some g → W.v.ownBlock = some g ∨ w1.heap.size ≤ g) :
    Pt base x (W.add d v' B Qb) (insT d l) (w2.setCell ⟨x, 0, none⟩ v') ∧ Fr (Own x W l) (Own x (W.add d v' B Qb) (insT d l)) w0 (w2.setCell ⟨x, 0, none⟩ v') := by
  have hne : ∀ n ∈ l, n.id ≠ d.id := getU_none.1 hnew
  have hdp : ¬ d.par = d.id := fun e => by
    obtain ⟨p, hp, e2⟩ := hpar
    exact hne p hp (e2.trans e)
  have hdp0 : ¬ d.par < 0 := fun e => by
    obtain ⟨p, hp, e2⟩ := hpar
    have := (hc p hp).1
    omega
  have h1 := h.ext hx1
  have hBl := lt_blk hBb
  -- what stays
  have keep : ∀ b, b < w1.heap.size → b ≠ x → W.v.ownBlock ≠ some b → (w2.setCell ⟨x, 0, none⟩ v').heap[b]? = w1.heap[b]? := fun b hb h1 h2 => by
    rw [Below.heap_setCell _ _ _ _ (by simpa using h1)]
    exact hg.block b hb (Ne.symm h2)
  have hxb : w2.heap[x]? = some (.cells #[W.v] 61 (0, 0)) := by
    rw [hg.block x h1.lt (Ne.symm (owns_ne h1.row h1.blk (by decide)))]; exact h1.blk
  have hsub : ∀ n ∈ l, pnc (W.add d v' B Qb) n = pnc W n := fun n hn => by
    have e1 := hne n hn
    have e2 : ¬ n.par < 0 → ¬ n.par = d.id := fun h0 e => by
      obtain ⟨p, hp, ep, -⟩ := (hc n hn).2.2 (by omega)
      exact hne p hp (ep.trans e)
    simp only [pnc, Wit.grp, Wit.que, Wit.add, e1, if_false]
    by_cases h0 : n.par < 0
    · simp [h0]
    · simp [h0, e2 h0]
  have hown : ∀ k, Own x (W.add d v' B Qb) (insT d l) k → Own x W l k ∨ w0.heap.size ≤ k := by
    rintro k (rfl | hk | ⟨n, hn, hk⟩)
    · exact .inl (.inl rfl)
    · rcases hv k hk with h2 | h2
      · exact .inl (.inr (.inl h2))
      · exact .inr (Nat.le_trans hx1.size h2)
    · rcases mem_insT.1 hn with rfl | hn
      · rcases hk with rfl | ⟨ht, rfl | hk⟩
        · exact .inr (by simp [Wit.add]; exact hB)
        · exact .inr (by simp [Wit.add]; exact hQ ht)
        · simp [Wit.add] at hk; cases hk
      · have e1 := hne n hn
        rcases hk with rfl | ⟨ht, rfl | hk⟩
        · exact .inl (.inr (.inr ⟨n, hn, .inl (by simp [Wit.add, e1])⟩))
        · exact .inl (.inr (.inr ⟨n, hn, .inr ⟨ht, .inl (by simp [Wit.add, e1])⟩⟩))
        · simp only [Wit.add, e1, if_false] at hk
          exact .inl (.inr (.inr ⟨n, hn, .inr ⟨ht, .inr hk⟩⟩))
  have hBx : B ≠ x := by have := h.lt; omega
  have hBv : W.v.ownBlock ≠ some B := fun e => by have := (h.row.lt B e).2; omega
  refine ⟨⟨?_, h.hx, ?_, ?_, ?_, ?_, ?_, ?_⟩, ⟨?_, ?_, ?_, ?_, ?_, hown⟩⟩
  · rw [set_same hxb]; rfl
  · have e : (W.add d v' B Qb).ptrs (insT d l) = (W.ptrs l).take (placeT l d.id) ++ .pointer (some ⟨B, 0, none⟩) :: (W.ptrs l).drop (placeT l d.id) := by
      have hm : ∀ m : List Nd, (∀ n ∈ m, n ∈ l) → (W.add d v' B Qb).ptrs m = W.ptrs m := fun m hm => by
        unfold Wit.ptrs
        refine List.map_congr_left fun n hn => ?_
        simp [Wit.add, hne n (hm n hn)]
      have e1 := hm (l.take (placeT l d.id)) fun n hn => List.mem_of_mem_take hn
      have e2 := hm (l.drop (placeT l d.id)) fun n hn => List.mem_of_mem_drop hn
      unfold insT
      unfold Wit.ptrs at e1 e2 ⊢
      rw [List.map_append, List.map_cons, e1, e2, List.map_take, List.map_drop]
      simp [Wit.add]
    rw [insT_length, e]
    refine owns_keep hrow fun g hgv => Below.heap_setCell _ _ _ _ fun e => ?_
    have e : g = x := e
    subst e
    exact owns_ne hrow hxb (by decide) hgv
  · intro n hn
    rcases mem_insT.1 hn with rfl | hn
    · have eB : (W.add n v' B Qb).nb n.id = B := by simp [Wit.add]
      rw [eB]
      refine ⟨?_, Nat.le_trans hb0 hB⟩
      rw [keep B hBl hBx hBv, hBb]
      simp [pnc, Wit.grp, Wit.que, Wit.add, hdp, hdp0]
    · have eN : (W.add d v' B Qb).nb n.id = W.nb n.id := by simp [Wit.add, hne n hn]
      rw [hsub n hn, eN]
      refine ⟨?_, (h.node n hn).2⟩
      rw [keep _ (h1.nlt hn) (fun e => h1.n_x hn e.symm) (h1.n_v hn)]
      exact (h1.node n hn).1
  · intro n hn ht
    rcases mem_insT.1 hn with rfl | hn
    · have hq := hQb ht
      simp only [Wit.add, if_true, List.length_nil]
      refine ⟨hq.keep (keep _ hq.lt (by have := hQ ht; have := h.lt; omega) fun e => by have := (h.row.lt _ e).2; have := hQ ht; omega) (fun g hg => absurd hg (by simp [Value.ownBlock])), Nat.le_trans hb0 (hQ ht)⟩
    · simp only [Wit.add, hne n hn, if_false]
      obtain ⟨hq, hqb⟩ := h1.idx n hn ht
      exact ⟨hq.keep (keep _ hq.lt (h1.q_x hn ht).symm (h1.q_v hn ht)) fun g hgv => keep g (hq.row.lt g hgv).2 (fun e => h1.r_x hn ht (by rw [hgv, e])) (h1.r_v hn ht hgv), hqb⟩
  · intro a ha b hb e
    rcases mem_insT.1 ha with ea | ka <;> rcases mem_insT.1 hb with eb | kb
    · rw [ea, eb]
    · subst ea
      simp only [Wit.add, hne b kb, if_true, if_false] at e
      have := h.nlt kb; omega
    · subst eb
      simp only [Wit.add, hne a ka, if_true, if_false] at e
      have := h.nlt ka; omega
    · simp only [Wit.add, hne a ka, hne b kb, if_false] at e
      exact h.injN a ka b kb e
  · intro a ha b hb t1 t2 e
    rcases mem_insT.1 ha with ea | ka <;> rcases mem_insT.1 hb with eb | kb
    · rw [ea, eb]
    · subst ea
      simp only [Wit.add, hne b kb, if_true, if_false] at e
      have := (h.idx b kb t2).1.lt; have := hQ t1; omega
    · subst eb
      simp only [Wit.add, hne a ka, if_true, if_false] at e
      have := (h.idx a ka t1).1.lt; have := hQ t2; omega
    · simp only [Wit.add, hne a ka, hne b kb, if_false] at e
      exact h.injQ a ka b kb t1 t2 e
  · intro a ha b hb t1 t2 g e1 e2
    rcases mem_insT.1 ha with ea | ka <;> rcases mem_insT.1 hb with eb | kb
    · rw [ea, eb]
    · subst ea
      simp only [Wit.add, if_true] at e1; cases e1
    · subst eb
      simp only [Wit.add, if_true] at e2; cases e2
    · simp only [Wit.add, hne a ka, hne b kb, if_false] at e1 e2
      exact h.injV a ka b kb t1 t2 g e1 e2
  · exact hg.os.trans hx1.below.os
  · exact hg.tape.trans hx1.below.tape
  · exact hg.output.trans hx1.below.output
  · have := hg.size; have := hx1.size; simp [World.setCell]; omega
  · intro k hk hS
    rw [keep k (Nat.lt_of_lt_of_le hk hx1.size) (fun e => hS (.inl e)) (fun e => hS (.inr (.inl e)))]
    exact hx1.below.block k hk
theorem QOk.insert {W : Wit} {l : List Nd} (hq : QOk W l) (hc : Clo l) (d : Nd) (hd : 0 ≤ d.id) (hnew : getU l d.id = none) (hr : d.rdy = false) (v' : Value) (B Qb : Nat) : QOk (W.add d v' B Qb) (insT d l) := by
  have hne : ∀ n ∈ l, n.id ≠ d.id := getU_none.1 hnew
  intro g hg ht
  rcases mem_insT.1 hg with rfl | hg
  · simp only [Wit.add, if_true]
    refine ⟨List.Pairwise.nil, fun e => ⟨fun h => absurd h List.not_mem_nil, ?_⟩⟩
    rintro ⟨m, hm, hp, hr', -⟩
    rcases mem_insT.1 hm with rfl | hm
    · rw [hr] at hr'; cases hr'
    · exfalso
      by_cases h0 : m.par < 0
      · omega
      · obtain ⟨p, hp', ep, -⟩ := (hc m hm).2.2 (by omega)
        exact hne p hp' (ep.trans hp)
  · simp only [Wit.add, hne g hg, if_false]
    refine ⟨(hq g hg ht).1, fun e => ?_⟩
    rw [(hq g hg ht).2]
    constructor
    · rintro ⟨m, hm, h⟩; exact ⟨m, mem_insT.2 (.inr hm), h⟩
    · rintro ⟨m, hm, hp, hr', e⟩
      rcases mem_insT.1 hm with rfl | hm
      · rw [hr] at hr'; cases hr'
      · exact ⟨m, hm, hp, hr', e⟩
end
end Go.Proofs.YtfccmdmfllicdaaDoor
