/- Objects in a statement's walk: the counts, who waits for each; what they own. -/
import Derived.Test.YtoimkocjfijlkaaDoorOb7
import Derived.WalkKit
namespace Go.Proofs.YtoimkocjfijlkaaDoor
open Go.RowKit
namespace Ob

theorem flat_same {α : Type} {W V : Nat → List α} (h : ∀ j, j < 4 → W j = V j) : flat W = flat V := by
  unfold flat
  rw [h 0 (by omega), h 1 (by omega), h 2 (by omega), h 3 (by omega)]
theorem others_same {id : Int} {W V : Nat → List Int} {j : Nat} (h : W j = V j) : others id W j = others id V j := by
  unfold others
  rw [h]
theorem others_none {id : Int} {W : Nat → List Int} (h : waits id W = false) : ∀ j, j < 4 → others id W j = W j := fun j hj => by
  unfold others
  refine List.filter_eq_self.2 fun x hx => ?_
  have : x ≠ id := fun e => by
    subst e
    have h1 : waits x W = true := by unfold waits; rw [List.contains_iff_mem]; exact mem_flat.2 ⟨j, hj, hx⟩
    rw [h1] at h; cases h
  simpa using this
/-- What a Wait comes to. -/
structure WAns where
  on : Bool
  err : Nat
  c : Nat → Int
  W : Nat → List Int
def waitR (id o : Int) (c : Nat → Int) (W : Nat → List Int) : WAns :=
  if o < 0 ∨ 4 ≤ o then ⟨false, 10, c, W⟩ else if waits id W = true then ⟨false, 20, c, W⟩ else if 0 < c o.toNat then ⟨true, 0, upd c o.toNat (c o.toNat - 1), W⟩ else ⟨false, 0, c, upd W o.toNat (W o.toNat ++ [id])⟩
/-- What a Signal comes to. -/
structure SAns where
  id : Int
  met : Bool
  err : Nat
  c : Nat → Int
  W : Nat → List Int
def sigR (o : Int) (c : Nat → Int) (W : Nat → List Int) : SAns :=
  if o < 0 ∨ 4 ≤ o then ⟨0, false, 10, c, W⟩ else match W o.toNat with
    | [] => ⟨0, false, 0, upd c o.toNat (min (c o.toNat + 1) 255), W⟩
    | id :: rest => ⟨id, true, 0, c, upd W o.toNat rest⟩

/-- In world w objects lie at x with these counts, these rows; they own the blocks A; nothing of w0 has turned. -/
def St (w0 : World) (x : Nat) (c : Nat → Int) (W : Nat → List Int) (A : Nat → Prop) (w : World) : Prop :=
  Ext w0 w ∧ ∃ r m D, Obs w0.heap.size x c r m D w ∧ (∀ j, j < 4 → ids r j = W j) ∧ A = Own x m r

section
variable {w0 w w' : World} {x : Nat} {c : Nat → Int} {W : Nat → List Int} {A B C : Nat → Prop}
theorem St.xt (h : St w0 x c W A w) : Ext w0 w := h.1
theorem St.own (h : St w0 x c W A w) : ∀ k, A k → w0.heap.size ≤ k ∧ k < w.heap.size := by
  obtain ⟨_, r, m, D, h1, _, rfl⟩ := h
  exact h1.own
theorem St.cb (h : St w0 x c W A w) : ∀ i, i < 4 → 0 ≤ c i ∧ c i ≤ 255 := by
  obtain ⟨_, r, m, D, h1, _, rfl⟩ := h
  exact h1.cb
theorem St.nodup (h : St w0 x c W A w) : (flat W).Nodup := by
  obtain ⟨_, r, m, D, h1, h2, rfl⟩ := h
  rw [← flat_same h2, flat_ids]
  exact h1.ids
theorem St.ext (h : St w0 x c W A w) (k : Ext w w') : St w0 x c W A w' := by
  obtain ⟨h0, r, m, D, h1, h2, h3⟩ := h
  exact ⟨h0.trans k, r, m, D, h1.ext k, h2, h3⟩
theorem St.told {V : Nat → List Int} (h : St w0 x c W A w) (k : ∀ j, j < 4 → W j = V j) : St w0 x c V A w := by
  obtain ⟨h0, r, m, D, h1, h2, h3⟩ := h
  exact ⟨h0, r, m, D, h1, fun j hj => (h2 j hj).trans (k j hj), h3⟩
theorem St.counts {d : Nat → Int} (h : St w0 x c W A w) (k : ∀ j, j < 4 → d j = c j) : St w0 x d W A w := by
  obtain ⟨h0, r, m, D, h1, h2, h3⟩ := h
  exact ⟨h0, r, m, D, ⟨h1.at'.told k (fun _ _ => rfl) (fun _ _ => rfl), h1.seg, h1.apart, h1.ids, h1.wf, h1.low, h1.map, h1.full, h1.bx, fun j hj => by rw [k j hj]; exact h1.cb j hj⟩, h2, h3⟩
/-- Kept by what touches others' blocks alone. -/
theorem St.keep (h : St w0 x c W C w) (k : Mvp A B w w') (hAC : ∀ i, A i → ¬ C i) (hA : ∀ i, A i → w0.heap.size ≤ i) : St w0 x c W C w' ∧ ∀ i, B i → ¬ C i := by
  have hlt := fun i hi => (h.own i hi).2
  obtain ⟨h0, r, m, D, h1, h2, rfl⟩ := h
  refine ⟨⟨k.xt h0 hA, r, m, D, h1.keep fun b hb => k.block b (hlt b hb) fun e => hAC b e hb, h2, rfl⟩, fun i hB hC => ?_⟩
  rcases k.own i hB with h4 | h4
  · exact hAC i h4 hC
  · have := hlt i hC
    omega
theorem St.of {r r' : Nat → List Wt} {m m' : Value} {c' : Nat → Int} {D D' : DataW Value} (h0 : Ext w0 w) (h : Obs w0.heap.size x c r m D w) (k : Obs w0.heap.size x c' r' m' D' w') (hm : Mvp (Own x m r) (Own x m' r') w w') (hW : ∀ j, j < 4 → ids r' j = W j) :
    ∃ B, St w0 x c' W B w' ∧ Mvp (Own x m r) B w w' := ⟨_, ⟨hm.xt h0 fun i hi => (h.own i hi).1, r', m', D', k, hW, rfl⟩, hm⟩

theorem st_new (h : Ext w0 w) : Calls Tryd.prog 5 #[] w fun e w' => e = .returned (ptrV w.heap.size) ∧ ∃ A, St w0 w.heap.size (fun _ => 0) (fun _ => []) A w' ∧ Ext w w' ∧ ∀ k, A k → w.heap.size ≤ k :=
  (new_any w).mono fun _ _ ⟨a, b, d⟩ => ⟨a, _, ⟨h.trans d, _, _, _, b.lower h.size, fun _ _ => rfl, rfl⟩, d, fun k hk => (b.own k hk).1⟩
theorem st_count (h : St w0 x c W A w) {i : Nat} (hi : i < 4) : Calls Tryd.prog 13 #[ptrV x, .int .i64 i] w fun e w' => e = .returned (.int .i64 (c i)) ∧ w' = w := by
  obtain ⟨h0, r, m, D, h1, h2, rfl⟩ := h
  exact count_in h1 hi
theorem st_row (h : St w0 x c W A w) {i : Nat} (hi : i < 4) (hl : (W i).length ≤ 1000000) :
    Calls Tryd.prog 14 #[ptrV x, .int .i64 i] w fun e w' => ∃ vd, e = .returned vd ∧ Ext w w' ∧ w'.ownsRow w.heap.size 3 1 vd (W i).length ((W i).map fun k => .int .i64 k) := by
  obtain ⟨h0, r, m, D, h1, h2, rfl⟩ := h
  have e := h2 i hi
  have el : (W i).length = (r i).length := by rw [← e]; simp [ids]
  have em : ((W i).map fun k => Value.int .i64 k) = (r i).map fun e => .int .i64 e.1 := by rw [← e]; simp [ids]
  rw [el, em]
  exact row_in h1 hi (by omega)
theorem st_wait (h : St w0 x c W A w) (id o : Int) (hw : wf64 id) (hl : (flat W).length ≤ 1000000) :
    Calls Tryd.prog 6 #[ptrV x, .int .i64 id, .int .i64 o] w fun e w' => e = .returned (.tuple #[.bool (waitR id o c W).on, errV (waitR id o c W).err]) ∧ ∃ B, St w0 x (waitR id o c W).c (waitR id o c W).W B w' ∧ Mvp A B w w' := by
  by_cases ho : o < 0 ∨ 4 ≤ o
  · unfold waitR
    rw [if_pos ho]
    refine (wait_form (x := x) w ho id).mono fun e w' ⟨a, b⟩ => ⟨a, A, ?_, ?_⟩
    · rw [b]; exact h
    · rw [b]; exact Mvp.refl _ _
  obtain ⟨i, hi, rfl⟩ : ∃ i : Nat, i < 4 ∧ o = i := ⟨o.toNat, by omega, by omega⟩
  have ei : ((i : Nat) : Int).toNat = i := by omega
  unfold waitR
  rw [if_neg ho, ei]
  have hn := h
  obtain ⟨h0, r, m, D, h1, h2, rfl⟩ := hn
  have hfl : flat W = flat (ids r) := (flat_same h2).symm
  have hws : waits id W = waits id (ids r) := by unfold waits; rw [hfl]
  by_cases hq : waits id W = true
  · rw [if_pos hq]
    rw [hws] at hq
    obtain ⟨e, he, rfl⟩ := waits_iff.1 hq
    refine (wait_clash h1 hi he).mono fun v w' ⟨a, b⟩ => ⟨a, Own x m r, ?_, ?_⟩
    · rw [b]; exact h
    · rw [b]; exact Mvp.refl _ _
  rw [if_neg hq]
  have hno := waits_not (r := r) (id := id) (by rw [← hws]; simpa using hq)
  by_cases hc : 0 < c i
  · rw [if_pos hc]
    exact (wait_on h1 hi hw hno hc).mono fun v w' ⟨a, b, d⟩ => ⟨a, St.of h0 h1 b d h2⟩
  · rw [if_neg hc]
    have := h1.cb i hi
    have hlen : (flat r).length ≤ 1000000 := by rw [hfl, flat_ids, List.length_map] at hl; exact hl
    refine (wait_wait h1 hi hw hno (by omega) hlen h0.size).mono fun v w' ⟨a, b, m', D', k1, k2⟩ => ⟨a, St.of h0 h1 k1 k2 fun j hj => ?_⟩
    rw [ids_upd, List.map_append]
    show _ = upd W i (W i ++ [id]) j
    by_cases hji : j = i
    · subst hji
      rw [upd_same, upd_same, ← h2 j hj]
      rfl
    · rw [upd_other hji, upd_other hji]
      exact h2 j hj
theorem st_signal (h : St w0 x c W A w) (o : Int) :
    Calls Tryd.prog 9 #[ptrV x, .int .i64 o] w fun e w' => e = .returned (.tuple #[.int .i64 (sigR o c W).id, .bool (sigR o c W).met, errV (sigR o c W).err]) ∧ ∃ B, St w0 x (sigR o c W).c (sigR o c W).W B w' ∧ Mvp A B w w' := by
  by_cases ho : o < 0 ∨ 4 ≤ o
  · unfold sigR
    rw [if_pos ho]
    refine (signal_form (x := x) w ho).mono fun e w' ⟨a, b⟩ => ⟨a, A, ?_, ?_⟩
    · rw [b]; exact h
    · rw [b]; exact Mvp.refl _ _
  obtain ⟨i, hi, rfl⟩ : ∃ i : Nat, i < 4 ∧ o = i := ⟨o.toNat, by omega, by omega⟩
  have ei : ((i : Nat) : Int).toNat = i := by omega
  unfold sigR
  rw [if_neg ho, ei]
  have hn := h
  obtain ⟨h0, r, m, D, h1, h2, rfl⟩ := hn
  have e := h2 i hi
  unfold ids at e
  cases hr : r i with
  | nil =>
    rw [hr] at e
    rw [← e]
    exact (signal_none h1 hi hr).mono fun v w' ⟨a, b, d⟩ => ⟨a, St.of h0 h1 b d h2⟩
  | cons q L =>
    rw [hr] at e
    rw [← e]
    refine (signal_one h1 hi hr).mono fun v w' ⟨a, D', k1, k2⟩ => ⟨a, St.of h0 h1 k1 k2 fun j hj => ?_⟩
    rw [ids_upd]
    show _ = upd W i (L.map (·.1)) j
    by_cases hji : j = i
    · subst hji
      rw [upd_same, upd_same]
    · rw [upd_other hji, upd_other hji]
      exact h2 j hj
theorem st_drop (h : St w0 x c W A w) (id : Int) (hw : wf64 id) :
    Calls Tryd.prog 11 #[ptrV x, .int .i64 id] w fun e w' => e = .returned (.bool (waits id W)) ∧ ∃ B, St w0 x c (others id W) B w' ∧ Mvp A B w w' := by
  have hn := h
  obtain ⟨h0, r, m, D, h1, h2, rfl⟩ := hn
  have hfl : flat W = flat (ids r) := (flat_same h2).symm
  have hws : waits id W = waits id (ids r) := by unfold waits; rw [hfl]
  cases hq : waits id W with
  | true =>
    rw [hws] at hq
    obtain ⟨e, he, rfl⟩ := waits_iff.1 hq
    obtain ⟨i, hi, he⟩ := mem_flat.1 he
    obtain ⟨L1, L2, hr⟩ := List.append_of_mem he
    refine (drop_yes h1 hi hr).mono fun v w' ⟨a, D', k1, k2⟩ => ⟨a, St.of h0 h1 k1 k2 fun j hj => ?_⟩
    rw [others_out h1.ids hi hr j hj]
    exact others_same (h2 j hj)
  | false =>
    have hno := waits_not (r := r) (id := id) (by rw [← hws]; exact hq)
    refine (drop_no h1 hw hno).mono fun v w' ⟨a, b⟩ => ⟨a, Own x m r, ?_, ?_⟩
    · rw [b]; exact h.told fun j hj => (others_none hq j hj).symm
    · rw [b]; exact Mvp.refl _ _
end
end Ob
end Go.Proofs.YtoimkocjfijlkaaDoor
