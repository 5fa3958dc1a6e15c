/- Wait. -/
import Derived.Test.YtoimkocjfijlkaaDoorOb4
import Derived.Test.YtoimkocjfijlkaaDoorErrV
namespace Go.Proofs.YtoimkocjfijlkaaDoor
open Go.RowKit
namespace Ob
open Go.Maps (Tidy IsMap Keyed)

/-- m[k] = v, at the operation, in a region that draws: the map owned. -/
theorem oper_mapUpdate {o : Oper} {a : Act} {w : World} {K : Act → World → Prop} {Q : Exit → Act → World → Prop} (m x v : Operand) (hop : o.op = Op.mapUpdate 56 m x v)
    {b : Nat} {D : DataW Value} (hown : OM w b D) (hn : Maps.size D < maxLen) (k : Int) (d : Value) (hm : a.eval m = .map (some b)) (hx : a.eval x = .int .i64 k) (hv : a.eval v = d) (hk : (Lit.int .i64 k).wf = true)
    (hK : ∀ w', OM w' b (D.put (key k) (.held d)) → w.grownBy w' (some b) → K (a.put o.dst undef) w') : Oper.wp Tryd.prog o a w K Q := by
  obtain ⟨w', hrun, r1, r2⟩ := World.ownsMap.update hown law Tryd.underlying56 hn (Go.Maps.keyOf_int_mk Tryd.underlying3 hk) (val := d) rfl
  unfold Oper.wp
  simp [execOp, hop, hm, hx, hv, hrun, Result.andThen]
  exact hK w' (tight r1) r2

section
variable {base x : Nat} {c : Nat → Int} {r : Nat → List Wt} {m : Value} {D : DataW Value} {w w' w3 w4 : World}
theorem row_nodup {α : Type} {g : Wt → α} (h : ((flat r).map g).Nodup) {i : Nat} (hi : i < 4) : ((r i).map g).Nodup := by
  simp only [flat, List.map_append, List.nodup_append] at h
  obtain ⟨a0, ⟨a1, ⟨a2, a3, _⟩, _⟩, _⟩ := h
  rcases four hi with rfl | rfl | rfl | rfl <;> assumption
/-- Rows apart. -/
theorem rows_apart {α : Type} {g : Wt → α} (hR : ((flat r).map g).Nodup) {i j : Nat} (hi : i < 4) (hj : j < 4) (hji : j ≠ i) {p f : Wt} (hp : p ∈ r i) (hf : f ∈ r j) : g p ≠ g f := by
  simp only [flat, List.map_append, List.nodup_append, List.mem_append, List.mem_map] at hR
  obtain ⟨-, ⟨-, ⟨-, -, h23⟩, h1⟩, h0⟩ := hR
  rcases four hi with rfl | rfl | rfl | rfl <;> rcases four hj with rfl | rfl | rfl | rfl
  all_goals first
    | exact absurd rfl hji
    | exact h0 _ ⟨p, hp, rfl⟩ _ (.inl ⟨f, hf, rfl⟩)
    | exact h0 _ ⟨p, hp, rfl⟩ _ (.inr (.inl ⟨f, hf, rfl⟩))
    | exact h0 _ ⟨p, hp, rfl⟩ _ (.inr (.inr ⟨f, hf, rfl⟩))
    | exact fun q => h0 _ ⟨f, hf, rfl⟩ _ (.inl ⟨p, hp, rfl⟩) q.symm
    | exact fun q => h0 _ ⟨f, hf, rfl⟩ _ (.inr (.inl ⟨p, hp, rfl⟩)) q.symm
    | exact fun q => h0 _ ⟨f, hf, rfl⟩ _ (.inr (.inr ⟨p, hp, rfl⟩)) q.symm
    | exact h1 _ ⟨p, hp, rfl⟩ _ (.inl ⟨f, hf, rfl⟩)
    | exact h1 _ ⟨p, hp, rfl⟩ _ (.inr ⟨f, hf, rfl⟩)
    | exact fun q => h1 _ ⟨f, hf, rfl⟩ _ (.inl ⟨p, hp, rfl⟩) q.symm
    | exact fun q => h1 _ ⟨f, hf, rfl⟩ _ (.inr ⟨p, hp, rfl⟩) q.symm
    | exact h23 _ ⟨p, hp, rfl⟩ _ ⟨f, hf, rfl⟩
    | exact fun q => h23 _ ⟨f, hf, rfl⟩ _ ⟨p, hp, rfl⟩ q.symm
/-- What a row's change touches is not the map's. -/
theorem Obs.notMap (h : Obs base x c r m D w) {i : Nat} (hi : i < 4) {b : Nat} (hm : m = .map (some b)) : ¬ In x (r i) b := fun q => by
  obtain ⟨b1, b2, b3, b4⟩ := h.mapFar hm
  rcases q with q | ⟨p, q1, q2⟩
  · exact b1 q
  · exact b4 p (mem_flat.2 ⟨i, hi, q1⟩) q2
/-- One is in: in his row, and in the map. -/
theorem Obs.into (h : Obs base x c r m D w) {i : Nat} (hi : i < 4) {id : Int} (hwf : wf64 id) (hno : ∀ e ∈ flat r, e.1 ≠ id) {b : Nat} (hm : m = .map (some b)) {v : Ending} (hb : base ≤ w.heap.size)
    (hj : Joined x i c (fun i => headOr (r i) nilV) (fun i => lastOr nilV (r i)) m (r i) (id, w.heap.size) w v w3) (ho : OM w4 b (D.put (key id) (.held (ptrV w.heap.size)))) (hg : w3.grownBy w4 (some b)) :
    Obs base x c (upd r i (r i ++ [(id, w.heap.size)])) m (D.put (key id) (.held (ptrV w.heap.size))) w4 ∧ Mvp (Own x m r) (Own x m (upd r i (r i ++ [(id, w.heap.size)]))) w w4 := by
  obtain ⟨-, h1, h2, h3⟩ := hj
  have hp := flat_in (r := r) hi ((id, w.heap.size) : Wt)
  obtain ⟨b1, b2, b3, b4⟩ := h.mapFar hm
  have hT : Tidy D := by
    rcases h.map with ⟨q, _⟩ | ⟨b', q, _, q3⟩
    · rw [q] at hm; cases hm
    · exact World.ownsMap.tidy q3 law
  have hF := (h.full.put hT hno w.heap.size).perm hp.symm
  have hnew : ∀ e ∈ flat r, e.2 ≠ w.heap.size := fun e he => by have := (h.node he).1; omega
  have hk : ∀ k, k < w.heap.size → ¬ In x (r i) k → k ≠ b → w4.heap[k]? = w.heap[k]? := fun k hk hI hkb => by
    rw [hg.block k (Nat.lt_of_lt_of_le hk h3.size) fun q => hkb (Option.some.inj q)]
    exact h3.block k hk hI
  have hx3 : x < w3.heap.size := h1.lt
  have hOA : OAt w4 x c (upd (fun i => headOr (r i) nilV) i (headOr (r i ++ [(id, w.heap.size)]) nilV)) (upd (fun i => lastOr nilV (r i)) i (ptrV w.heap.size)) m := h1.same (hg.block x hx3 fun q => b1 (Option.some.inj q).symm)
  refine ⟨⟨?_, fun j hj => ?_, ?_, ?_, fun f hf => ?_, fun f hf => ?_, .inr ⟨b, hm, b3, ho⟩, hF, h.bx, h.cb⟩, ?_⟩
  · have e1 := upd_comp (fun L => headOr L nilV) r i (r i ++ [(id, w.heap.size)])
    have e2 := upd_comp (fun L => lastOr nilV L) r i (r i ++ [(id, w.heap.size)])
    rw [e1, e2, lastOr_snoc]
    exact hOA
  · by_cases hji : j = i
    · subst hji
      rw [upd_same]
      refine h2.keep fun f hf => ?_
      have hlt := h2.lt f hf
      refine hg.block f.2 hlt fun q => ?_
      have q := Option.some.inj q
      rcases List.mem_append.1 hf with hf | hf
      · exact b4 f (mem_flat.2 ⟨j, hj, hf⟩) q
      · rw [List.mem_singleton.1 hf] at q
        simp only at q
        omega
    · rw [upd_other hji]
      refine (h.seg j hj).keep fun f hf => ?_
      have hf' := mem_flat.2 ⟨j, hj, hf⟩
      refine hk f.2 (h.node hf').1 (fun q => ?_) (b4 f hf')
      rcases q with q | ⟨p, q1, q2⟩
      · exact (h.node hf').2 q
      · exact rows_apart h.apart hi hj hji q1 hf q2
  · refine ((hp.map (·.2)).nodup_iff).2 ?_
    rw [List.map_cons, List.nodup_cons]
    refine ⟨fun q => ?_, h.apart⟩
    obtain ⟨e, he, q⟩ := List.mem_map.1 q
    exact hnew e he q
  · refine ((hp.map (·.1)).nodup_iff).2 ?_
    rw [List.map_cons, List.nodup_cons]
    refine ⟨fun q => ?_, h.ids⟩
    obtain ⟨e, he, q⟩ := List.mem_map.1 q
    exact hno e he q
  · rcases List.mem_cons.1 (hp.mem_iff.1 hf) with rfl | hf
    · exact hwf
    · exact h.wf f hf
  · rcases List.mem_cons.1 (hp.mem_iff.1 hf) with rfl | hf
    · exact hb
    · exact h.low f hf
  · refine ⟨hg.os.trans h3.os, hg.tape.trans h3.tape, hg.output.trans h3.output, Nat.le_trans h3.size hg.size, fun k hk' hA => hk k hk' (fun q => hA ?_) fun q => hA (.inr (.inl (by rw [hm, q]))), fun k hk' => ?_⟩
    · rcases q with q | ⟨p, q1, q2⟩
      · exact .inl q
      · exact .inr (.inr ⟨p, mem_flat.2 ⟨i, hi, q1⟩, q2⟩)
    · rcases hk' with q | q | ⟨f, hf, q⟩
      · exact .inl (.inl q)
      · exact .inl (.inr (.inl q))
      · rcases List.mem_cons.1 (hp.mem_iff.1 hf) with rfl | hf
        · exact .inr (by rw [← q]; exact Nat.le_refl _)
        · exact .inl (.inr (.inr ⟨f, hf, q⟩))
/-- A map is made. -/
theorem Obs.made (h : Obs base x c r (.map none) D w) (hb : base ≤ w.heap.size) : Obs base x c r (.map (some w.heap.size)) D ((w.setCell ⟨x, 12, none⟩ (.map (some w.heap.size))).alloc (.map #[] 0)) ∧
    Mvp (Own x (.map none) r) (Own x (.map (some w.heap.size)) r) w ((w.setCell ⟨x, 12, none⟩ (.map (some w.heap.size))).alloc (.map #[] 0)) := by
  have X := Ext.alloc (Ext.refl (w.setCell ⟨x, 12, none⟩ (.map (some w.heap.size)))) (.map #[] 0)
  obtain rfl : D = .map [] := by
    rcases h.map with ⟨_, q⟩ | ⟨b, q, _⟩
    · exact q
    · cases q
  refine ⟨⟨(h.at'.setM _).ext X, fun i hi => (seg_far (h.seg i hi) fun e he => (h.node (mem_flat.2 ⟨i, hi, he⟩)).2).ext X, h.apart, h.ids, h.wf, h.low, .inr ⟨w.heap.size, rfl, hb, ?_⟩, h.full, h.bx, h.cb⟩, ?_⟩
  · have := World.ownsMap_made (H := Value) (w.setCell ⟨x, 12, none⟩ (.map (some w.heap.size))) Tryd.prog 3 same
    rw [size_set] at this
    exact tight this
  · have m1 := ((Mvp.refl (Own x (.map none) r) w).set (g := x) (.inl rfl) 12 (.map (some w.heap.size))).ext X
    refine ⟨m1.os, m1.tape, m1.output, m1.size, m1.block, fun k hk => ?_⟩
    rcases hk with q | q | q
    · exact .inl (.inl q)
    · injection q with q
      injection q with q
      exact .inr (by omega)
    · exact .inl (.inr (.inr q))

set_option maxHeartbeats 2000000 in
theorem wait_form (w : World) {o : Int} (h : o < 0 ∨ 4 ≤ o) (id : Int) : Calls Tryd.prog 6 #[ptrV x, .int .i64 id, .int .i64 o] w fun e w' => e = .returned (.tuple #[.bool false, errV 10]) ∧ w' = w := by
  have CF := hid (find_out w (x := x) h)
  clear h
  rw [errV_pos (by decide)]
  go_enter Tryd.func6, Tryd.ntmps6
  go_wp2_with (go_at_call 17; (with_reducible refine CF.out.mono ?_); rintro e w2 ⟨rfl, hw2⟩; rw [hw2]; clear hw2; clear w2)
  go_returns
  exact ⟨rfl, rfl⟩
set_option maxHeartbeats 2000000 in
theorem wait_clash (h : Obs base x c r m D w) {i : Nat} (hi : i < 4) {e : Wt} (he : e ∈ flat r) : Calls Tryd.prog 6 #[ptrV x, .int .i64 e.1, .int .i64 i] w fun v w' => v = .returned (.tuple #[.bool false, errV 20]) ∧ w' = w := by
  have CF := hid (find_in w h.at' hi)
  have hk := look_places h.map (h.wf e he) (h.full.here e he).2
  have c1 := h.at'.map
  have hx := h.lt
  obtain ⟨q, rfl⟩ : ∃ r, m = .map r := by
    rcases h.map with ⟨q, _⟩ | ⟨b, q, _⟩
    · exact ⟨_, q⟩
    · exact ⟨_, q⟩
  clear h he
  rw [errV_pos (by decide)]
  go_enter Tryd.func6, Tryd.ntmps6
  go_wp2_with (go_at_call 17; (with_reducible refine CF.out.mono ?_); rintro e w2 ⟨rfl, hw2⟩; rw [hw2]; clear hw2; clear w2)
  go_returns
  exact ⟨rfl, rfl⟩
set_option maxHeartbeats 2000000 in
theorem wait_on (h : Obs base x c r m D w) {i : Nat} (hi : i < 4) {id : Int} (hwf : wf64 id) (hno : ∀ e ∈ flat r, e.1 ≠ id) (hc : 0 < c i) :
    Calls Tryd.prog 6 #[ptrV x, .int .i64 id, .int .i64 i] w fun v w' => v = .returned (.tuple #[.bool true, .nilIface]) ∧ Obs base x (upd c i (c i - 1)) r m D w' ∧ Mvp (Own x m r) (Own x m r) w w' := by
  have CF := hid (find_in w h.at' hi)
  have hk := look_places h.map hwf (h.full.miss hno)
  have c1 := h.at'.map
  obtain ⟨c0, -, -⟩ := h.at'.cell hi
  have f0 := h.at'.free (i * 3)
  have hx := h.lt
  have hcb := h.cb i hi
  have HH := hid h
  have HI := hid hi
  have HC := hid hcb
  obtain ⟨q, rfl⟩ : ∃ r, m = .map r := by
    rcases h.map with ⟨q, _⟩ | ⟨b, q, _⟩
    · exact ⟨_, q⟩
    · exact ⟨_, q⟩
  have hwr : IntKind.i64.wrap (c i - 1) = c i - 1 := IntWalk.i64_in _ (by omega)
  have HC0 := hid hc
  clear h hno hcb hi
  go_enter Tryd.func6, Tryd.ntmps6
  go_wp2_with (go_at_call 17; (with_reducible refine CF.out.mono ?_); rintro e w2 ⟨rfl, hw2⟩; rw [hw2]; clear hw2; clear w2)
  go_returns
  exact ⟨rfl, HH.out.setC HI.out (by have := HC.out; have := HC0.out; omega), (Mvp.refl _ w).set (g := x) (.inl rfl) _ _⟩
end
end Ob
end Go.Proofs.YtoimkocjfijlkaaDoor
