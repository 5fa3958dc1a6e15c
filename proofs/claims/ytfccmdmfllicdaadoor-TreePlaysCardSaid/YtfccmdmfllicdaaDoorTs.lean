/- A tree in a statement's walk: its nodes, what else lies there. -/
import Derived.Test.YtfccmdmfllicdaaDoorTm2
namespace Go.Proofs.YtfccmdmfllicdaaDoor
open Go.RowKit
set_option linter.unusedSimpArgs false

/-- In world w a tree lies at x with these nodes; the blocks fr lie beside it; nothing of w0 has turned. -/
def TSt (w0 : World) (x : Nat) (l : List Nd) (fr : List (Nat × Obj)) (w : World) : Prop :=
  ∃ W, Pt w0.heap.size x W l w ∧ QOk W l ∧ Ext w0 w ∧ ∀ p ∈ fr, w.heap[p.1]? = some p.2 ∧ ¬ Own x W l p.1 ∧ w0.heap.size ≤ p.1

section
variable {w0 w w' : World} {x : Nat} {l l' : List Nd} {fr : List (Nat × Obj)}
theorem TSt.xt (h : TSt w0 x l fr w) : Ext w0 w := by obtain ⟨W, _, _, h, _⟩ := h; exact h
theorem TSt.lt (h : TSt w0 x l fr w) : x < w.heap.size := by obtain ⟨W, h, _, _, _⟩ := h; exact h.lt
theorem TSt.ext (h : TSt w0 x l fr w) (k : Ext w w') : TSt w0 x l fr w' := by
  obtain ⟨W, h1, h2, h3, h4⟩ := h
  refine ⟨W, h1.ext k, h2, h3.trans k, fun p hp => ?_⟩
  obtain ⟨a, b, c⟩ := h4 p hp
  exact ⟨by rw [k.below.block _ (lt_blk a)]; exact a, b, c⟩
theorem TSt.go {W W' : Wit} (h1 : Pt w0.heap.size x W l w) (h3 : Ext w0 w) (h4 : ∀ p ∈ fr, w.heap[p.1]? = some p.2 ∧ ¬ Own x W l p.1 ∧ w0.heap.size ≤ p.1) (k1 : Pt w0.heap.size x W' l' w') (k2 : QOk W' l') (k3 : Fr (Own x W l) (Own x W' l') w w') : TSt w0 x l' fr w' := by
  refine ⟨W', k1, k2, k3.ext_of h3 fun i hi => (h1.own_lt hi).1, fun p hp => ?_⟩
  obtain ⟨a, b, c⟩ := h4 p hp
  refine ⟨by rw [k3.block _ (lt_blk a) b]; exact a, fun e => ?_, c⟩
  rcases k3.own _ e with h | h
  · exact b h
  · exact absurd (lt_blk a) (by omega)
/-- One block more beside it. -/
theorem TSt.alloc (h : TSt w0 x l fr w) (o : Obj) : TSt w0 x l ((w.heap.size, o) :: fr) (w.alloc o) := by
  obtain ⟨W, h1, h2, h3, h4⟩ := h
  have k : Ext w (w.alloc o) := Ext.alloc (Ext.refl w) o
  refine ⟨W, h1.ext k, h2, h3.trans k, fun p hp => ?_⟩
  rcases List.mem_cons.1 hp with rfl | hp
  · exact ⟨heap_alloc_new w o, fun e => absurd (h1.own_lt e).2 (Nat.lt_irrefl _), h3.size⟩
  · obtain ⟨a, b, c⟩ := h4 p hp
    exact ⟨by rw [k.below.block _ (lt_blk a)]; exact a, b, c⟩
theorem TSt.fewer {fr' : List (Nat × Obj)} (h : TSt w0 x l fr w) (k : ∀ p ∈ fr', p ∈ fr) : TSt w0 x l fr' w := by
  obtain ⟨W, h1, h2, h3, h4⟩ := h
  exact ⟨W, h1, h2, h3, fun p hp => h4 p (k p hp)⟩
theorem TSt.blk (h : TSt w0 x l fr w) {p : Nat × Obj} (hp : p ∈ fr) : w.heap[p.1]? = some p.2 := by
  obtain ⟨W, h1, h2, h3, h4⟩ := h
  exact (h4 p hp).1
/-- A block beside it set anew. -/
theorem TSt.poke {b j : Nat} {cs : Array Value} {T : TypeId} (h : TSt w0 x l ((b, .cells cs T (0, 0)) :: fr) w) (u : Value) (hne : ∀ p ∈ fr, p.1 ≠ b := by intro p hp; cases hp) :
    TSt w0 x l ((b, .cells (cs.setIfInBounds j u) T (0, 0)) :: fr) (w.setCell ⟨b, j, none⟩ u) := by
  obtain ⟨W, h1, h2, h3, h4⟩ := h
  obtain ⟨a, hx, d⟩ := h4 _ List.mem_cons_self
  refine ⟨W, h1.keep fun c hc => Below.heap_setCell _ _ _ _ fun e => hx (by rw [← show c = b from e]; exact hc), h2, h3.setCell d u, fun p hp => ?_⟩
  rcases List.mem_cons.1 hp with rfl | hp
  · exact ⟨set_same a j u, hx, d⟩
  · obtain ⟨a', b', d'⟩ := h4 p (List.mem_cons_of_mem _ hp)
    exact ⟨by rw [Below.heap_setCell _ _ _ _ (hne p hp)]; exact a', b', d'⟩

theorem ts_new (w : World) : Calls Tryd.prog 5 #[] w fun e w' => ∃ x, e = .returned (.pointer (some ⟨x, 0, none⟩)) ∧ TSt w x [rootN] [] w' :=
  (newT_any w).mono fun _ _ ⟨x, W, a, b, c, d⟩ => ⟨x, a, W, b, c, d, fun p hp => by cases hp⟩
theorem ts_adde (h : TSt w0 x l fr w) (hw : Wf l) (dn : Nat) (parent id wt : Int) (thr : Bool) (hd : dn ≤ 900) (hu : Up l dn parent) {k : Nat} (hk : addC l dn parent id wt thr = k) (hk0 : k ≠ 0) :
    Calls Tryd.prog 8 #[.pointer (some ⟨x, 0, none⟩), .int .i64 parent, .int .i64 id, .int .i64 wt, .bool thr] w fun e w' => e = .returned (errV k) ∧ TSt w0 x l fr w' := by
  have hs := h
  obtain ⟨W, h1, h2, h3, h4⟩ := h
  exact (addP_err (hw.tok h1 h2) dn parent id wt thr hd hu hk hk0).mono fun _ _ ⟨a, b⟩ => ⟨a, hs.ext b⟩
theorem ts_add (h : TSt w0 x l fr w) (hw : Wf l) (dn : Nat) (parent id wt : Int) (thr : Bool) (hd : dn ≤ 900) (hu : Up l dn parent) (hk : addC l dn parent id wt thr = 0) :
    Calls Tryd.prog 8 #[.pointer (some ⟨x, 0, none⟩), .int .i64 parent, .int .i64 id, .int .i64 wt, .bool thr] w fun e w' => e = .returned .nilIface ∧ TSt w0 x (insT (newN l parent id wt thr) l) fr w' := by
  obtain ⟨W, h1, h2, h3, h4⟩ := h
  cases thr with
  | true => exact (addP_thr (hw.tok h1 h2) h3.size dn parent id wt hk).mono fun _ _ ⟨a, W', b, c, d⟩ => ⟨a, TSt.go h1 h3 h4 b c d⟩
  | false => exact (addP_grp (hw.tok h1 h2) h3.size dn parent id wt hd hu hk).mono fun _ _ ⟨a, W', b, c, d⟩ => ⟨a, TSt.go h1 h3 h4 b c d⟩
theorem ts_readye (h : TSt w0 x l fr w) (hw : Wf l) (id : Int) (r : Bool) (hk : ∀ n, getU l id = some n → n.thr = false) :
    Calls Tryd.prog 12 #[.pointer (some ⟨x, 0, none⟩), .int .i64 id, .bool r] w fun e w' => e = .returned (errV 13) ∧ TSt w0 x l fr w' := by
  have hs := h
  obtain ⟨W, h1, h2, h3, h4⟩ := h
  exact (readyP_err (hw.tok h1 h2) id r hk).mono fun _ _ ⟨a, b⟩ => ⟨a, hs.ext b⟩
/-- The nodes behind Ready. -/
def rdyU (r : Bool) (l : List Nd) (id : Int) : List Nd := if r = true then wakeU 5 l id else restU 5 l id
theorem Wf.rdyU (h : Wf l) {n : Nd} (hn : n ∈ l) (ht : n.thr = true) (r : Bool) : Wf (rdyU r l n.id) := by
  unfold Go.Proofs.YtfccmdmfllicdaaDoor.rdyU
  split
  · exact h.wake hn ht
  · exact h.rest hn ht
theorem ts_ready (h : TSt w0 x l fr w) (hw : Wf l) {n : Nd} (hn : n ∈ l) (ht : n.thr = true) (r : Bool) :
    Calls Tryd.prog 12 #[.pointer (some ⟨x, 0, none⟩), .int .i64 n.id, .bool r] w fun e w' => e = .returned .nilIface ∧ TSt w0 x (rdyU r l n.id) fr w' := by
  obtain ⟨W, h1, h2, h3, h4⟩ := h
  exact (readyP_any (hw.tok h1 h2) hn ht r 5 (hw.sk.chain hn)).mono fun _ _ ⟨a, W', b, c, d, _⟩ => ⟨a, TSt.go h1 h3 h4 b c d⟩
theorem ts_weight10 (h : TSt w0 x l fr w) (hw : Wf l) (id wt : Int) (hi : isW wt = false) :
    Calls Tryd.prog 14 #[.pointer (some ⟨x, 0, none⟩), .int .i64 id, .int .i64 wt] w fun e w' => e = .returned (errV 10) ∧ TSt w0 x l fr w' := by
  have hs := h
  obtain ⟨W, h1, h2, h3, h4⟩ := h
  exact (weightP_10 (hw.tok h1 h2) id wt hi).mono fun _ _ ⟨a, b⟩ => ⟨a, hs.ext b⟩
theorem ts_weight13 (h : TSt w0 x l fr w) (hw : Wf l) (id wt : Int) (hi : isW wt = true) (hk : ∀ n, getU l id = some n → n.par < 0) :
    Calls Tryd.prog 14 #[.pointer (some ⟨x, 0, none⟩), .int .i64 id, .int .i64 wt] w fun e w' => e = .returned (errV 13) ∧ TSt w0 x l fr w' := by
  have hs := h
  obtain ⟨W, h1, h2, h3, h4⟩ := h
  exact (weightP_13 (hw.tok h1 h2) id wt hi hk).mono fun _ _ ⟨a, b⟩ => ⟨a, hs.ext b⟩
theorem ts_weight (h : TSt w0 x l fr w) (hw : Wf l) (wt : Int) (hi : isW wt = true) {n p : Nd} (hn : n ∈ l) (h0 : 0 ≤ n.par) (hp : p ∈ l) (he : p.id = n.par) :
    Calls Tryd.prog 14 #[.pointer (some ⟨x, 0, none⟩), .int .i64 n.id, .int .i64 wt] w fun e w' => e = .returned .nilIface ∧ TSt w0 x (upd n.id (wtF p.now wt) l) fr w' := by
  obtain ⟨W, h1, h2, h3, h4⟩ := h
  have hs := hw.scale hn hp he wt
  have hb := hw.num.now p hp
  have how := ofW_bounds wt
  exact (weightP_any (hw.tok h1 h2) wt hi hn h0 hp he (hw.num.wt n hn) ⟨hs.1, by omega⟩).mono fun _ _ ⟨a, W', b, c, d, _⟩ => ⟨a, TSt.go h1 h3 h4 b c d⟩
theorem ts_idle (h : TSt w0 x l fr w) (hw : Wf l) {r : Nd} (hr : r ∈ l) (hr0 : r.id = 0) (hrd : r.rdy = false) :
    Calls Tryd.prog 16 #[.pointer (some ⟨x, 0, none⟩)] w fun e w' => e = .returned (.tuple #[.int .i64 0, .bool false]) ∧ TSt w0 x l fr w' := by
  have hs := h
  obtain ⟨W, h1, h2, h3, h4⟩ := h
  exact (runP_none (hw.tok h1 h2) hr hr0 hrd).mono fun _ _ ⟨a, b⟩ => ⟨a, hs.ext b⟩
theorem ts_run (h : TSt w0 x l fr w) (hw : Wf l) {r : Nd} (hr : r ∈ l) (hr0 : r.id = 0) (hrd : r.rdy = true) {R : Int × List Nd} (hR : runU 6 l 0 = some R) :
    Calls Tryd.prog 16 #[.pointer (some ⟨x, 0, none⟩)] w fun e w' => e = .returned (.tuple #[.int .i64 R.1, .bool true]) ∧ TSt w0 x (upR 6 R.2 R.1) fr w' := by
  obtain ⟨W, h1, h2, h3, h4⟩ := h
  exact (runP_any (hw.tok h1 h2) hw.sk.acy hw.bdM (F := 6) (by decide) (fun m hm => chain_succ _ _ (hw.sk.chain hm)) hr hr0 hrd hR).mono fun _ _ ⟨a, W', b, c, d, _⟩ => ⟨a, TSt.go h1 h3 h4 b c d⟩
theorem ts_node (h : TSt w0 x l fr w) (hw : Wf l) {n : Nd} (hn : n ∈ l) :
    Calls Tryd.prog 23 #[.pointer (some ⟨x, 0, none⟩), .int .i64 n.id] w fun e w' => e = .returned (.tuple #[nnV n.nn, .bool true]) ∧ TSt w0 x l fr w' := by
  have hs := h
  obtain ⟨W, h1, h2, h3, h4⟩ := h
  exact (node_any (hw.tok h1 h2) hn).mono fun _ _ ⟨a, b⟩ => ⟨a, hs.ext b⟩
theorem ts_deep (h : TSt w0 x l fr w) (hw : Wf l) (id : Int) (n : Nat) (hn : n ≤ 1000) (hu : Up l n id) :
    Calls Tryd.prog 21 #[.pointer (some ⟨x, 0, none⟩), .int .i64 id] w fun e w' => e = .returned (.int .i64 n) ∧ TSt w0 x l fr w' := by
  have hs := h
  obtain ⟨W, h1, h2, h3, h4⟩ := h
  exact (deep_any h1 hw.sk.ids hw.sk.clo hw.sk.len id n hn hu).mono fun _ _ ⟨a, b⟩ => ⟨a, hs.ext b⟩
/-- The row it answers lies beside the tree, and stays. -/
theorem ts_nodes (h : TSt w0 x l fr w) (hw : Wf l) (hne : l ≠ []) :
    Calls Tryd.prog 19 #[.pointer (some ⟨x, 0, none⟩)] w fun e w' => ∃ g c cur, e = .returned (.slice (some ⟨g, 0, none⟩) l.length c) ∧ l.length ≤ c ∧ c ≤ maxLen ∧ TSt w0 x l ((g, .cells cur 48 (0, 0)) :: fr) w' ∧ NodesV w' (.slice (some ⟨g, 0, none⟩) l.length c) (l.map Nd.nn) := by
  have hs := h
  obtain ⟨W, h1, h2, h3, h4⟩ := h
  refine (nodes_any (hw.tok h1 h2)).mono fun _ w' ⟨v', a, b, c⟩ => ?_
  have hn := b.nodes
  rcases b.2 with ⟨_, h0⟩ | ⟨g, cap, cur, e1, e2, e3, e4, e5, _⟩
  · simp at h0; exact absurd h0 hne
  · subst e1
    rw [List.length_map] at a e4 hn
    refine ⟨g, cap, cur, a, e4, e5, ?_, hn⟩
    obtain ⟨W2, k1, k2, k3, k4⟩ := hs.ext c
    refine ⟨W, h1.ext c, h2, h3.trans c, fun p hp => ?_⟩
    rcases List.mem_cons.1 hp with rfl | hp
    · exact ⟨e3, fun e => absurd (h1.own_lt e).2 (by show ¬ g < _; omega), by have := h3.size; show _ ≤ g; omega⟩
    · obtain ⟨a', b', d'⟩ := h4 p hp
      exact ⟨by rw [c.below.block _ (lt_blk a')]; exact a', b', d'⟩
theorem removeP_13 {base : Nat} {W : Wit} (h : TOk base x W l w) (id : Int) (hk : ∀ n, getU l id = some n → n.par < 0) :
    Calls Tryd.prog 10 #[.pointer (some ⟨x, 0, none⟩), .int .i64 id] w (Yields w (errV 13)) := by
  have hl1 : l.length ≤ 1000 := by have := h.len; omega
  have HFP : Hid (∀ w', Ext w w' → Calls Tryd.prog 27 #[.pointer (some ⟨x, 0, none⟩), .int .i64 id] w' (Yields w' (nodP W l id))) := fun w' hx => find_at (h.pt.ext hx) h.ids hl1 _
  rw [errV_pos (by decide)]
  cases hg : getU l id with
  | none =>
    have HP : Hid (nodP W l id = .pointer none) := if_neg (by simp [hasU, hg])
    rw [HP.out] at HFP
    clear h hl1 hk hg HP
    go_enter Tryd.func10, Tryd.ntmps10
    go_wp2_with (go_at_call 27; (with_reducible refine (HFP.out _ (by repeat (first | exact Ext.refl _ | assumption | refine Ext.more ?_ _ | refine Ext.drew ?_ | refine Ext.drewN ?_ _ | refine Ext.alloc ?_ _ | refine Ext.setCell ?_ (by simp; try omega) _ | refine Ext.trans ?_ (by assumption)))).yields ?_); intro q1)
    go_returns
    exact ⟨rfl, (by repeat (first | exact Ext.refl _ | assumption | refine Ext.more ?_ _ | refine Ext.drew ?_ | refine Ext.drewN ?_ _ | refine Ext.alloc ?_ _ | refine Ext.setCell ?_ (by simp; try omega) _ | refine Ext.trans ?_ (by assumption)))⟩
  | some n =>
    have h0 := hk n hg
    obtain ⟨hn, rfl⟩ := getU_mem hg
    have HP : Hid (nodP W l n.id = .pointer (some ⟨W.nb n.id, 0, none⟩)) := if_pos (hasU_iff.2 ⟨n, hn, rfl⟩)
    rw [HP.out] at HFP
    have m3 := (h.pt.cells hn).2.2.2.1
    rw [grp_top h0] at m3
    have hpl := h.pt.nlt hn
    clear h hl1 hk hg HP hn h0
    go_enter Tryd.func10, Tryd.ntmps10
    go_wp2_with (go_at_call 27; (with_reducible refine (HFP.out _ (by repeat (first | exact Ext.refl _ | assumption | refine Ext.more ?_ _ | refine Ext.drew ?_ | refine Ext.drewN ?_ _ | refine Ext.alloc ?_ _ | refine Ext.setCell ?_ (by simp; try omega) _ | refine Ext.trans ?_ (by assumption)))).yields ?_); intro q1)
    go_returns
    exact ⟨rfl, (by repeat (first | exact Ext.refl _ | assumption | refine Ext.more ?_ _ | refine Ext.drew ?_ | refine Ext.drewN ?_ _ | refine Ext.alloc ?_ _ | refine Ext.setCell ?_ (by simp; try omega) _ | refine Ext.trans ?_ (by assumption)))⟩
theorem ts_remove13 (h : TSt w0 x l fr w) (hw : Wf l) (id : Int) (hk : ∀ n, getU l id = some n → n.par < 0) :
    Calls Tryd.prog 10 #[.pointer (some ⟨x, 0, none⟩), .int .i64 id] w fun e w' => e = .returned (errV 13) ∧ TSt w0 x l fr w' := by
  have hs := h
  obtain ⟨W, h1, h2, h3, h4⟩ := h
  exact (removeP_13 (hw.tok h1 h2) id hk).mono fun _ _ ⟨a, b⟩ => ⟨a, hs.ext b⟩
theorem ts_readyI (h : TSt w0 x l fr w) (hw : Wf l) {n : Nd} (hn : n ∈ l) (ht : n.thr = true) (r : Bool) {id : Int} (e : n.id = id) :
    Calls Tryd.prog 12 #[.pointer (some ⟨x, 0, none⟩), .int .i64 id, .bool r] w fun e w' => e = .returned .nilIface ∧ TSt w0 x (rdyU r l id) fr w' := e ▸ ts_ready h hw hn ht r
theorem ts_nodeI (h : TSt w0 x l fr w) (hw : Wf l) {n : Nd} (hn : n ∈ l) {id : Int} (e : n.id = id) :
    Calls Tryd.prog 23 #[.pointer (some ⟨x, 0, none⟩), .int .i64 id] w fun e w' => e = .returned (.tuple #[nnV n.nn, .bool true]) ∧ TSt w0 x l fr w' := e ▸ ts_node h hw hn
theorem ts_weightI (h : TSt w0 x l fr w) (hw : Wf l) (wt : Int) (hi : isW wt = true) {n p : Nd} (hn : n ∈ l) (h0 : 0 ≤ n.par) (hp : p ∈ l) (he : p.id = n.par) {id : Int} (e : n.id = id) :
    Calls Tryd.prog 14 #[.pointer (some ⟨x, 0, none⟩), .int .i64 id, .int .i64 wt] w fun e w' => e = .returned .nilIface ∧ TSt w0 x (upd id (wtF p.now wt) l) fr w' := e ▸ ts_weight h hw wt hi hn h0 hp he
end
end Go.Proofs.YtfccmdmfllicdaaDoor
