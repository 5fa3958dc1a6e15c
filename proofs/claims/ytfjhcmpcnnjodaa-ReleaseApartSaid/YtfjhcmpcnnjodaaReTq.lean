/- What stage 14's statements say, as data: a plan's slots are domains' slots; levels out of a row of bytes; what is left while a domain gives away. No program is named here. -/
import Derived.Test.YtfjhcmpcnnjodaaReAll
import Derived.Test.YtfjhcmpcnnjodaaBlk
namespace Go.Proofs.Ytfjhcmpcnnjodaa
open Go.RowKit

/-- The slots of a plan are those of domains, a frame of them. -/
theorem owners_ok {c : Cnf} (h : isConf c = 0) {k : Nat} (hk : k < c.plans.length) : ((ownersL c k).length : Int) = c.frame ∧ ∀ x ∈ ownersL c k, 0 ≤ x ∧ x < (c.doms.length : Int) := by
  obtain ⟨e, hM, hm, hC⟩ := owners_in h hk
  have hl : c.plans[k].length = c.doms.length := ((Good.of h).mayS (List.getElem_mem hk)).2
  rw [e]
  refine ⟨by rw [slotsL_length hC, counts_tot hM], fun x hx => ?_⟩
  obtain ⟨t, ht, rfl⟩ := List.getElem_of_mem hx
  have hsl := slotsL_length hC
  obtain ⟨b, e1, e2, -⟩ := slot_best hC (t := t) (by omega)
  rw [slotsL_get ht, e1]
  rw [countsL_length, hl] at e2
  omega
theorem okT_of {c : Cnf} {own lv : List Int} (h : isConf c = 0) (h1 : (own.length : Int) = c.frame) (h2 : lv.length = c.doms.length) (h3 : ∀ x ∈ own, 0 ≤ x ∧ x < (c.doms.length : Int)) : okT c own lv = true := by
  unfold okT
  rw [decide_eq_true h, decide_eq_true h1, decide_eq_true h2]
  simpa using h3
theorem turnL_of {c : Cnf} {own lv : List Int} (h : isConf c = 0) (h1 : (own.length : Int) = c.frame) (h2 : lv.length = c.doms.length) (h3 : ∀ x ∈ own, 0 ≤ x ∧ x < (c.doms.length : Int)) : turnL c own lv = (outL c own lv, freedL c own lv) := by
  unfold turnL; rw [if_pos (okT_of h h1 h2 h3)]

/-! Levels out of a row of bytes: the first i of n are laid. -/
def lvAt (V : List Int) (i j : Nat) : Int := if j < i ∧ j < V.length then at0 V j % 5 else 0
def lvTo (V : List Int) (n i : Nat) : List Int := (List.range n).map (lvAt V i)
theorem lvTo_length (V : List Int) (n i : Nat) : (lvTo V n i).length = n := by simp [lvTo]
theorem lvTo_get {V : List Int} {n i j : Nat} (h : j < (lvTo V n i).length) : (lvTo V n i)[j] = lvAt V i j := by simp [lvTo]
theorem lvTo_zero (V : List Int) (n : Nat) : (lvTo V n 0).map iV = List.replicate n (Value.int .i64 0) := by
  apply List.ext_getElem
  · simp [lvTo]
  · intro i h1 h2
    simp [lvTo, lvAt, iV]
theorem lvTo_set {V : List Int} {n i : Nat} (hv : i < V.length) : (lvTo V n i).set i (at0 V i % 5) = lvTo V n (i + 1) := by
  apply List.ext_getElem
  · rw [List.length_set, lvTo_length, lvTo_length]
  · intro j h1 h2
    rw [List.getElem_set, lvTo_get h2]
    unfold lvAt
    by_cases e : i = j
    · subst e; rw [if_pos rfl, if_pos (by omega)]
    · rw [if_neg e, lvTo_get]
      unfold lvAt
      by_cases h3 : j < i ∧ j < V.length
      · rw [if_pos h3, if_pos (by omega)]
      · rw [if_neg h3, if_neg (by omega)]
theorem lvTo_end {V : List Int} {n i : Nat} (h : V.length ≤ i) : lvTo V n i = lvTo V n n := by
  unfold lvTo
  refine List.map_congr_left fun j hj => ?_
  unfold lvAt
  by_cases h1 : j < V.length
  · rw [if_pos (by omega), if_pos (by have := List.mem_range.1 hj; omega)]
  · rw [if_neg (by omega), if_neg (by omega)]
theorem lvAt_bounds (V : List Int) (i j : Nat) : 0 ≤ lvAt V i j ∧ lvAt V i j < 5 := by
  unfold lvAt
  split
  · exact ⟨Int.emod_nonneg _ (by omega), Int.emod_lt_of_pos _ (by omega)⟩
  · omega

/-! What is left for the slots below m. -/
def leftAt (own : List Int) (d s : Int) (m : Nat) : Int := max (s - (cntTo own d own.length - cntTo own d m)) 0
theorem left_start (own : List Int) (d s : Int) (h : 0 ≤ s) : leftAt own d s own.length = s := by unfold leftAt; omega
theorem left_bounds (own : List Int) (d : Int) {s : Int} (h : 0 ≤ s) (h9 : s ≤ 64) {m : Nat} (hm : m ≤ own.length) : 0 ≤ leftAt own d s m ∧ leftAt own d s m ≤ 64 := by
  have := cntTo_mono own d m own.length hm
  unfold leftAt; omega
theorem left_other {own : List Int} {d : Int} {k : Nat} (h : at0 own k ≠ d) (s : Int) : leftAt own d s (k + 1) = leftAt own d s k := by
  unfold leftAt
  rw [show cntTo own d (k + 1) = cntTo own d k by rw [cntTo, if_neg h, Int.add_zero]]
theorem left_own {own : List Int} {d : Int} {k : Nat} (h : at0 own k = d) (s : Int) : leftAt own d s k = max (leftAt own d s (k + 1) - 1) 0 := by
  unfold leftAt
  rw [show cntTo own d (k + 1) = cntTo own d k + 1 by rw [cntTo, if_pos h]]
  omega
/-- A slot is given away just while something is left. -/
theorem left_giv {c : Cnf} {own lv : List Int} {d : Int} {k : Nat} (h : at0 own k = d) : giv c own lv k = decide (0 < leftAt own d (min (amtN c d (at0 lv d.toNat)) (cntTo own d own.length)) (k + 1)) := by
  have h1 : cntTo own d (k + 1) = cntTo own d k + 1 := by rw [cntTo, if_pos h]
  have h2 := (cntTo_le own d k).1
  unfold giv leftAt behind
  rw [h, decide_eq_decide]
  omega

/-- Another's level is nothing to it. -/
theorem giv_apart {c : Cnf} {own lv : List Int} {i k : Nat} {x : Int} (h0 : 0 ≤ at0 own i) (h : at0 own i ≠ k) (hk : k < lv.length) : giv c own (lv.set k x) i = giv c own lv i := by
  unfold giv
  rw [at0_set hk, if_neg (by omega)]
theorem outAt_apart {c : Cnf} {own lv : List Int} {i k : Nat} {x : Int} (h0 : 0 ≤ at0 own i) (h : at0 own i ≠ k) (hk : k < lv.length) : outAt c own (lv.set k x) i = outAt c own lv i ∧ freedAt c own (lv.set k x) i = freedAt c own lv i := by
  unfold outAt freedAt
  rw [giv_apart h0 h hk]
  exact ⟨rfl, rfl⟩
end Go.Proofs.Ytfjhcmpcnnjodaa
