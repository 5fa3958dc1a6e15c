/- A region that draws its order and ends in a tail that waits for all that reads: up to the tail a condition S on the world is held, what reads under it is taken first; the tail is walked behind it, and may break S. No program is named here. -/
import Derived.Test.YtbnjfahjbemleaaLib
import Derived.OrdersHeld
import Derived.RegionTactic
import Derived.Deep.RegionHeld
namespace Go.Proofs.Ytbnjfahjbemleaa
open Go.RowKit

section
variable {P : Program} {ops : Array Oper} {Q : Exit → Act → World → Prop} {md : Region.Mode} {S : World → Prop}

def waitsB (md : Region.Mode) (ops : Array Oper) (s i : Nat) : Bool := match ops[s]? with
  | some o => o.after.any fun e => Region.binds md e && e.on == i
  | none => false
theorem waitsB_spec {s i : Nat} (h : waitsB md ops s i = true) : ∃ o, ops[s]? = some o ∧ ∃ e ∈ o.after, Region.binds md e = true ∧ e.on = i := by
  unfold waitsB at h
  split at h
  · rename_i o ho
    obtain ⟨e, he, hb⟩ := Array.any_eq_true'.1 h
    simp only [Bool.and_eq_true, beq_iff_eq] at hb
    exact ⟨o, ho, e, he, hb.1, hb.2⟩
  · cases h
/-- Somebody ahead of the tail waits for i, or all of the tail do, or its first one does and the others wait for one another. -/
def heldB (md : Region.Mode) (ops : Array Oper) (n i : Nat) : Bool :=
  ((List.range n).any fun s => s != i && waitsB md ops s i) || ((List.range ops.size).all fun t => decide (t < n) || waitsB md ops t i) ||
    (waitsB md ops n i && (List.range ops.size).all fun t => decide (t ≤ n) || (List.range t).any fun k => decide (n ≤ k) && waitsB md ops t k)

def Closed (md : Region.Mode) (ops : Array Oper) (listed : Array Bool) : Prop :=
  ∀ j o, ops[j]? = some o → listed.getD j true = true → ∀ e ∈ o.after, Region.binds md e = true → listed.getD e.on false = true
theorem getD_both {listed : Array Bool} {k : Nat} (h : listed.getD k false = true) : listed.getD k true = true := by
  rcases Nat.lt_or_ge k listed.size with h' | h'
  · simp [h'] at h ⊢; exact h
  · simp [Array.getElem?_eq_none h'] at h
/-- Who of a tail that waits for one another has come up has seen its first one come up. -/
theorem Closed.first {listed : Array Bool} (h : Closed md ops listed) {n : Nat} (hw : ((List.range ops.size).all fun t => decide (t ≤ n) || (List.range t).any fun k => decide (n ≤ k) && waitsB md ops t k) = true) :
    ∀ t, n ≤ t → t < ops.size → listed.getD t true = true → listed.getD n true = true := by
  intro t
  induction t using Nat.strongRecOn with
  | ind t ih =>
    intro hnt hts ht
    by_cases e : t = n
    · subst e; exact ht
    · have h1 := List.all_eq_true.1 hw t (List.mem_range.2 hts)
      simp only [Bool.or_eq_true, decide_eq_true_eq] at h1
      rcases h1 with h1 | h1
      · omega
      · obtain ⟨k, hk, hkw⟩ := List.any_eq_true.1 h1
        simp only [Bool.and_eq_true, decide_eq_true_eq] at hkw
        obtain ⟨o, ho, e', he, hb, hek⟩ := waitsB_spec hkw.2
        have := h t o ho ht e' he hb
        rw [hek] at this
        have hkt := List.mem_range.1 hk
        exact ih k hkt hkw.1 (by omega) (getD_both this)
theorem Closed.add {listed : Array Bool} (h : Closed md ops listed) {i : Nat} (hi : i ∈ Region.ready md ops listed) : Closed md ops (listed.setIfInBounds i true) := by
  intro j o ho hj e he hb
  by_cases hji : i = j
  · subst hji
    obtain ⟨_, o', ho', hall⟩ := mem_ready.1 hi
    rw [ho] at ho'
    cases ho'
    exact getD_set_true (hall e he hb)
  · rw [getD_set_ne true hji] at hj
    exact getD_set_true (h j o ho hj e he hb)

/-- In whatever order, up to the tail (numbers from n on): behind each operation S holds; the tail is left. -/
def wpAnyT (P : Program) (md : Region.Mode) (ops : Array Oper) (Q : Exit → Act → World → Prop) (S : World → Prop) (n k : Nat) : Nat → Array Bool → Act → World → Prop
  | 0, listed, a, w => (∀ j, j < n → listed.getD j true = true) ∧ wpAny P md ops Q k listed a w
  | fuel + 1, listed, a, w => Region.ready md ops listed ≠ [] ∧ ∀ i ∈ Region.ready md ops listed, wpOp P ops Q i (fun a' w' => S w' ∧ wpAnyT P md ops Q S n k fuel (listed.setIfInBounds i true) a' w') a w

theorem wpAny_of_T {n k : Nat} : ∀ (fuel : Nat) (listed : Array Bool) (a : Act) (w : World), wpAnyT P md ops Q S n k fuel listed a w → wpAny P md ops Q (k + fuel) listed a w
  | 0, _, _, _, h => h.2
  | fuel + 1, _, _, _, h => ⟨fun h0 => absurd h0 h.1, fun i hi => wpOp_mono (fun a' w' h' => wpAny_of_T fuel _ a' w' h'.2) (h.2 i hi)⟩

theorem unlisted {listed : Array Bool} {i : Nat} (h : listed.getD i true = false) : listed.getD i false = false := by
  rcases Nat.lt_or_ge i listed.size with h' | h'
  · simp [h'] at h ⊢; exact h
  · simp [Array.getElem?_eq_none h'] at h

theorem wpAnyT_first {n k i : Nat} {oi : Oper} {v : Value} (hi : ops[i]? = some oi) (hsel : ∀ (j : Nat) (o : Oper) cs b, ops[j]? = some o → o.op ≠ .select cs b)
    (hQ : ∀ c a w, Q (.panic c) (a.put oi.dst v) w → Q (.panic c) a w) (hl : heldB md ops n i = true) :
    ∀ (fuel : Nat) (listed : Array Bool) (a : Act) (w : World),
      (∀ j oj, ops[j]? = some oj → j ≠ i → listed.getD j true = false → (∀ e ∈ oj.after, Region.binds md e = true → e.on ≠ i) → oi.apart ops oj = true) →
      Closed md ops listed → i ∈ Region.ready md ops listed → YieldsIf P ops S oi v a → S w →
      wpAnyT P md ops Q S n k fuel (listed.setIfInBounds i true) (a.put oi.dst v) w → wpAnyT P md ops Q S n k (fuel + 1) listed a w := by
  intro fuel
  induction fuel with
  | zero =>
    intro listed a w _ hc hr hy hS H
    refine ⟨fun h => (by rw [h] at hr; cases hr), fun j hj => ?_⟩
    by_cases hji : j = i
    · subst hji; exact hy.wpOp hi hS ⟨hS, H⟩
    · exfalso
      have hun := unlisted (mem_ready.1 hr).1
      obtain ⟨hjun, oj, hoj, hall⟩ := mem_ready.1 hj
      have hjn : n ≤ j := by
        apply Decidable.byContradiction
        intro hlt
        have := H.1 j (by omega)
        rw [getD_set_ne true (Ne.symm hji), hjun] at this
        cases this
      unfold heldB at hl
      rw [Bool.or_eq_true] at hl
      rw [Bool.or_eq_true] at hl
      rcases hl with (hl | hl) | hl
      · obtain ⟨s, hs, hw⟩ := List.any_eq_true.1 hl
        simp only [Bool.and_eq_true, bne_iff_ne, ne_eq] at hw
        obtain ⟨hsi, hw⟩ := hw
        obtain ⟨o, ho, e, he, hb, hei⟩ := waitsB_spec hw
        have h1 := H.1 s (List.mem_range.1 hs)
        rw [getD_set_ne true (Ne.symm hsi)] at h1
        have h2 := hc s o ho h1 e he hb
        rw [hei, hun] at h2
        cases h2
      · have h1 := List.all_eq_true.1 hl j (List.mem_range.2 (Array.getElem?_eq_some_iff.1 hoj).1)
        simp only [Bool.or_eq_true, decide_eq_true_eq] at h1
        rcases h1 with h1 | h1
        · omega
        · obtain ⟨o, ho, e, he, hb, hei⟩ := waitsB_spec h1
          rw [hoj] at ho
          cases ho
          have h2 := hall e he hb
          rw [hei, hun] at h2
          cases h2
      · rw [Bool.and_eq_true] at hl
        obtain ⟨hl1, hl2⟩ := hl
        obtain ⟨on, hon, en, hen, hbn, hein⟩ := waitsB_spec hl1
        have hjs := (Array.getElem?_eq_some_iff.1 hoj).1
        by_cases e : j = n
        · subst e
          rw [hoj] at hon
          cases hon
          have h2 := hall en hen hbn
          rw [hein, hun] at h2
          cases h2
        · have h1 := List.all_eq_true.1 hl2 j (List.mem_range.2 hjs)
          simp only [Bool.or_eq_true, decide_eq_true_eq] at h1
          rcases h1 with h1 | h1
          · omega
          · obtain ⟨k, hk, hkw⟩ := List.any_eq_true.1 h1
            simp only [Bool.and_eq_true, decide_eq_true_eq] at hkw
            obtain ⟨o, ho, e', he, hb, hek⟩ := waitsB_spec hkw.2
            rw [hoj] at ho
            cases ho
            have h3 := hall e' he hb
            rw [hek] at h3
            have hkt := List.mem_range.1 hk
            have h4 := hc.first hl2 k hkw.1 (by omega) (getD_both h3)
            have h5 := hc n on hon h4 en hen hbn
            rw [hein, hun] at h5
            cases h5
  | succ fuel ih =>
    intro listed a w hfree hc hr hy hS H
    refine ⟨fun h => (by rw [h] at hr; cases hr), fun j hj => ?_⟩
    by_cases hji : j = i
    · subst hji; exact hy.wpOp hi hS ⟨hS, H⟩
    · have h1 := H.2 j (ready_mono hj hji)
      obtain ⟨hjun, oj, hoj, hall⟩ := mem_ready.1 hj
      have hnot : ∀ e ∈ oj.after, Region.binds md e = true → e.on ≠ i := fun e he hb heq => by
        have h1 := hall e he hb
        rw [heq, unlisted (mem_ready.1 hr).1] at h1
        cases h1
      have h2 := wpOp_putIf hoj (hfree j oj hoj hji hjun hnot) (fun cs b => hsel i oi cs b hi) (fun cs b => hsel j oj cs b hoj) hQ hy h1
      have hfree' : ∀ k ok, ops[k]? = some ok → k ≠ i → (listed.setIfInBounds j true).getD k true = false →
          (∀ e ∈ ok.after, Region.binds md e = true → e.on ≠ i) → oi.apart ops ok = true := fun k ok hk hki hun hno => by
        refine hfree k ok hk hki ?_ hno
        by_cases hjk : j = k
        · subst hjk; exact hjun
        · rw [getD_set_ne true hjk] at hun; exact hun
      refine wpOp_mono (fun a' w' h3 => ⟨h3.2.1, ih (listed.setIfInBounds j true) a' w' hfree' (hc.add hj) (ready_mono hr (Ne.symm hji)) h3.1 h3.2.1 ?_⟩) h2
      rw [Array.setIfInBounds_comm _ _ hji]
      exact h3.2.2

/-! ### The moves -/
/-- The state of a walk: what has come up is closed. -/
def wpT (P : Program) (md : Region.Mode) (ops : Array Oper) (Q : Exit → Act → World → Prop) (S : World → Prop) (n k fuel : Nat) (listed : Array Bool) (a : Act) (w : World) : Prop := Closed md ops listed → wpAnyT P md ops Q S n k fuel listed a w
theorem wpT_take (i : Nat) {n k : Nat} {oi : Oper} {v : Value} {fuel : Nat} {listed : Array Bool} {a : Act} {w : World} (hi : ops[i]? = some oi)
    (hs : Region.noSelect ops = true) (hf : Region.free md ops listed i = true) (hr : (Region.ready md ops listed).contains i = true) (hl : heldB md ops n i = true)
    (hQ : ∀ c a w, Q (.panic c) (a.put oi.dst v) w → Q (.panic c) a w) (hw : Region.wanted oi (yielded ops a.tmps) = true) (hS : S w) (hy : ∀ w, S w → (execOp a.eval oi).run P w = .ok (.value v) w)
    (h : wpT P md ops Q S n k fuel (listed.setIfInBounds i true) (a.put oi.dst v) w) : wpT P md ops Q S n k (fuel + 1) listed a w := fun hc =>
  have hr' : i ∈ Region.ready md ops listed := by simpa using hr
  wpAnyT_first hi (Region.noSelect_spec hs) hQ hl fuel listed a w (Region.free_spec hi hf) hc hr' (.inl ⟨hw, hy⟩) hS (h (hc.add hr'))
/-- One that its guard leaves out. -/
theorem wpT_skip (i : Nat) {n k : Nat} {oi : Oper} {fuel : Nat} {listed : Array Bool} {a : Act} {w : World} (hi : ops[i]? = some oi)
    (hs : Region.noSelect ops = true) (hf : Region.free md ops listed i = true) (hr : (Region.ready md ops listed).contains i = true) (hl : heldB md ops n i = true)
    (hQ : ∀ c a w, Q (.panic c) (a.put oi.dst undef) w → Q (.panic c) a w) (hw : Region.wanted oi (yielded ops a.tmps) = false) (hS : S w)
    (h : wpT P md ops Q S n k fuel (listed.setIfInBounds i true) (a.put oi.dst undef) w) : wpT P md ops Q S n k (fuel + 1) listed a w := fun hc =>
  have hr' : i ∈ Region.ready md ops listed := by simpa using hr
  wpAnyT_first hi (Region.noSelect_spec hs) hQ hl fuel listed a w (Region.free_spec hi hf) hc hr' (.inr ⟨hw, rfl⟩) hS (h (hc.add hr'))
/-- The one that comes up. -/
theorem wpT_one (i : Nat) {n k : Nat} {o : Oper} {fuel : Nat} {listed : Array Bool} {a : Act} {w : World} (ho : ops[i]? = some o) (hr : Region.ready md ops listed = [i]) (hw : Region.wanted o (yielded ops a.tmps) = true)
    (h : ∀ K' : Act → World → Prop, Shut (∀ a w, S w → wpT P md ops Q S n k fuel (listed.setIfInBounds i true) a w → K' a w) → Oper.wp P o a w K' Q) : wpT P md ops Q S n k (fuel + 1) listed a w := fun hc => by
  refine ⟨by rw [hr]; simp, fun j hj => ?_⟩
  have hj' := hj
  rw [hr] at hj
  obtain rfl := List.mem_singleton.1 hj
  refine wpOp_step ho (fun K' hK => ?_)
  rw [if_pos hw]
  exact h K' (fun a' w' h1 h2 => hK _ _ ⟨h1, h2 (hc.add hj')⟩)
theorem wpT_done {n k : Nat} {listed : Array Bool} {a : Act} {w : World} (hl : (List.range n).all (fun j => listed.getD j true) = true) (h : wpAny P md ops Q k listed a w) : wpT P md ops Q S n k 0 listed a w := fun _ =>
  ⟨fun j hj => List.all_eq_true.1 hl j (List.mem_range.2 hj), h⟩
/-- One of the tail. -/
theorem wpAny_one (i : Nat) {fuel : Nat} {o : Oper} {listed : Array Bool} {a : Act} {w : World} (ho : ops[i]? = some o) (hr : Region.ready md ops listed = [i]) (hw : Region.wanted o (yielded ops a.tmps) = true)
    (h : ∀ K' : Act → World → Prop, Shut (∀ a w, wpAny P md ops Q fuel (listed.setIfInBounds i true) a w → K' a w) → Oper.wp P o a w K' Q) : wpAny P md ops Q (fuel + 1) listed a w :=
  wpAny_all hr (by simp) fun j hj => by
    obtain rfl := List.mem_singleton.1 hj
    refine wpOp_step ho (fun K' hK => ?_)
    rw [if_pos hw]
    exact h K' hK
/-! ### The same, their premises by computation -/
theorem wpT_tk (i : Nat) {n k : Nat} {oi : Oper} {v : Value} {fuel : Nat} {listed : Array Bool} {a : Act} {w : World} (hS : S w)
    (h : wpT P md ops Q S n k fuel (listed.setIfInBounds i true) (a.put oi.dst v) w) (hi : ops[i]? = some oi := by rfl)
    (hs : Region.noSelect ops = true := by kernel_rfl) (hf : Region.free md ops listed i = true := by kernel_rfl) (hr : (Region.ready md ops listed).contains i = true := by kernel_rfl) (hl : heldB md ops n i = true := by kernel_rfl)
    (hw : Region.wanted oi (yielded ops a.tmps) = true := by rfl)
    (hy : ∀ w, S w → (execOp a.eval oi).run P w = .ok (.value v) w := by intro u hu; (try go_split_ands); go_simp; first | done | (with_reducible rfl))
    (hQ : ∀ c a w, Q (.panic c) (a.put oi.dst v) w → Q (.panic c) a w := by intro _ _ _ h; first | exact h | (obtain ⟨h, _⟩ := h; cases h)) : wpT P md ops Q S n k (fuel + 1) listed a w :=
  wpT_take i hi hs hf hr hl hQ hw hS hy h
theorem wpT_sk (i : Nat) {n k : Nat} {oi : Oper} {fuel : Nat} {listed : Array Bool} {a : Act} {w : World} (hS : S w)
    (h : wpT P md ops Q S n k fuel (listed.setIfInBounds i true) (a.put oi.dst undef) w) (hi : ops[i]? = some oi := by rfl)
    (hs : Region.noSelect ops = true := by kernel_rfl) (hf : Region.free md ops listed i = true := by kernel_rfl) (hr : (Region.ready md ops listed).contains i = true := by kernel_rfl) (hl : heldB md ops n i = true := by kernel_rfl)
    (hw : Region.wanted oi (yielded ops a.tmps) = false := by rfl)
    (hQ : ∀ c a w, Q (.panic c) (a.put oi.dst undef) w → Q (.panic c) a w := by intro _ _ _ h; first | exact h | (obtain ⟨h, _⟩ := h; cases h)) : wpT P md ops Q S n k (fuel + 1) listed a w :=
  wpT_skip i hi hs hf hr hl hQ hw hS h
theorem wpT_on (i : Nat) {n k : Nat} {o : Oper} {fuel : Nat} {listed : Array Bool} {a : Act} {w : World} 
    (h : ∀ K' : Act → World → Prop, Shut (∀ a w, S w → wpT P md ops Q S n k fuel (listed.setIfInBounds i true) a w → K' a w) → Oper.wp P o a w K' Q)
    (ho : ops[i]? = some o := by rfl) (hr : Region.ready md ops listed = [i] := by kernel_rfl) (hw : Region.wanted o (yielded ops a.tmps) = true := by rfl) : wpT P md ops Q S n k (fuel + 1) listed a w :=
  wpT_one i ho hr hw h
theorem wpAny_tk (i : Nat) {oi : Oper} {v : Value} {fuel : Nat} {listed : Array Bool} {a : Act} {w : World}
    (h : wpAny P md ops Q fuel (listed.setIfInBounds i true) (a.put oi.dst v) w) (hi : ops[i]? = some oi := by rfl)
    (hs : Region.noSelect ops = true := by kernel_rfl) (hf : Region.free md ops listed i = true := by kernel_rfl) (hr : (Region.ready md ops listed).contains i = true := by kernel_rfl)
    (hw : Region.wanted oi (yielded ops a.tmps) = true := by rfl) (hy : ∀ w, (execOp a.eval oi).run P w = .ok (.value v) w := by intro w; go_simp; first | done | (with_reducible rfl))
    (hQ : ∀ c a w, Q (.panic c) (a.put oi.dst v) w → Q (.panic c) a w := by intro _ _ _ h; first | exact h | (obtain ⟨h, _⟩ := h; cases h)) : wpAny P md ops Q (fuel + 1) listed a w :=
  wpAny_take hi hs hf hr hQ (Or.inl ⟨hw, hy⟩) h
theorem wpAny_on (i : Nat) {fuel : Nat} {o : Oper} {listed : Array Bool} {a : Act} {w : World}
    (h : ∀ K' : Act → World → Prop, Shut (∀ a w, wpAny P md ops Q fuel (listed.setIfInBounds i true) a w → K' a w) → Oper.wp P o a w K' Q)
    (ho : ops[i]? = some o := by rfl) (hr : Region.ready md ops listed = [i] := by kernel_rfl) (hw : Region.wanted o (yielded ops a.tmps) = true := by rfl) : wpAny P md ops Q (fuel + 1) listed a w :=
  wpAny_one i ho hr hw h
theorem wp_region_T {id : Nat} (n k : Nat) (S : World → Prop) {a : Act} {w : World} (hm : P.follows .mixedOrders = true) (hn : k + n = ops.size) (h : wpT P .any ops Q S n k n (Array.replicate ops.size false) a w.drew) : (Code.region id ops true).wp P Q a w := by
  refine wp_region_any hm ?_
  rw [← hn]
  have hc : Closed .any ops (Array.replicate ops.size false) := fun j o ho hj => by
    have hlt := (Array.getElem?_eq_some_iff.1 ho).1
    simp [hlt] at hj
  have := wpAny_of_T n _ _ _ (h hc)
  rw [hn] at this ⊢
  exact this
end
end Go.Proofs.Ytbnjfahjbemleaa
