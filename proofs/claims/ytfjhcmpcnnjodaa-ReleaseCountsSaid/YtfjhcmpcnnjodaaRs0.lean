/- The document's sum of a row and whether shares may be (tontineref11.total, MayShares); its own rounds beside the program's, as data. -/
import Derived.Test.YtfjhcmpcnnjodaaBlk
import Derived.Test.YtfjhcmpcnnjodaaShD
import Derived.Test.YtfjhcmpcnnjodaaRt
import Derived.Deep.CutRange
import Derived.Deep.CutBlock
namespace Go.Proofs.Ytfjhcmpcnnjodaa
open Go.RowKit

theorem mayS_tot {f : Int} {l : List Int} (hf1 : ¬ f < 1) (hf2 : ¬ 64 < f) (hl : ¬ 6 < l.length) (h : l.all (fun x => decide (0 ≤ x) && decide (x ≤ 1000)) = true) : mayS f l = decide (0 < tot l) := by
  have hlo : ∀ x ∈ l, 0 ≤ x := fun x hx => by have := List.all_eq_true.1 h x hx; simp at this; omega
  have e := tot_pos l hlo
  unfold mayS
  rw [decide_eq_true (by omega), decide_eq_true (by omega), decide_eq_true (by omega), h]
  simp only [Bool.and_self, Bool.true_and]
  by_cases hp : 0 < tot l
  · rw [decide_eq_true hp, List.any_eq_true]
    obtain ⟨x, hx, h5⟩ := e.1 hp
    exact ⟨x, hx, by simpa using h5⟩
  · rw [decide_eq_false hp, List.any_eq_false]
    intro x hx
    have : ¬ 0 < x := fun h5 => hp (e.2 ⟨x, hx, h5⟩)
    simpa using this

set_option maxRecDepth 100000 in
set_option maxHeartbeats 1000000 in
theorem mayR_any {f : Int} {l : List Int} {v : Value} {w : World} (h : Ints w v l) : Calls Try.prog 41 #[.int .i64 f, v] w (Yields w (.bool (mayS f l))) := by
  obtain ⟨pa, ca, rfl, hca, hma⟩ := h.shape
  unfold maxLen at hma
  have HA := hid h
  clear h
  by_cases hf1 : f < 1
  · have hr : Hid (mayS f l = false) := hid (by simp [mayS]; intros; omega)
    go_enter Try.func41, Try.ntmps41
    go_wp2
    go_returns
    exact ⟨by simp [hr.out], ext_by⟩
  by_cases hf2 : 64 < f
  · have hr : Hid (mayS f l = false) := hid (by simp [mayS]; intros; omega)
    go_enter Try.func41, Try.ntmps41
    go_wp2
    go_returns
    exact ⟨by simp [hr.out], ext_by⟩
  by_cases hl0 : (l.length : Int) < 1
  · have hr : Hid (mayS f l = false) := hid (by
      obtain rfl : l = [] := List.eq_nil_of_length_eq_zero (by omega)
      simp [mayS])
    go_enter Try.func41, Try.ntmps41
    go_wp2
    go_returns
    exact ⟨by simp [hr.out], ext_by⟩
  by_cases hl : (6 : Int) < l.length
  · have hr : Hid (mayS f l = false) := hid (by simp [mayS]; intros; omega)
    go_enter Try.func41, Try.ntmps41
    go_wp2
    go_returns
    exact ⟨by simp [hr.out], ext_by⟩
  have hmt : Hid (l.all (fun x => decide (0 ≤ x) && decide (x ≤ 1000)) = true → mayS f l = decide (0 < tot l)) := hid fun h => mayS_tot hf1 hf2 (by omega) h
  have hno : Hid (l.all (fun x => decide (0 ≤ x) && decide (x ≤ 1000)) = false → mayS f l = false) := hid fun h => by simp [mayS, h]
  go_enter Try.func41, Try.ntmps41
  go_wp2
  go_loopw [5] (fun v5 wr => Ext w wr ∧ ∃ (k : Nat), v5 = .int .i64 k ∧ k ≤ l.length ∧ Hid ((l.take k).all (fun x => decide (0 ≤ x) && decide (x ≤ 1000)) = true)) (fun v5 _ => (l.length - intOf v5).toNat)
  case atStart => exact ⟨Ext.refl _, 0, rfl, by omega, hid (by simp)⟩
  case round =>
    obtain ⟨hx, k, rfl, hk, hb⟩ := hrel
    by_cases hlt : k < l.length
    · obtain ⟨ba, oa, rfl, a0⟩ := HA.out.at k hlt
      have m0 := hx.cell a0
      simp only [Nat.mul_one] at m0
      have e2 : Hid ((l.take (k + 1)).all (fun x => decide (0 ≤ x) && decide (x ≤ 1000)) = (decide (0 ≤ l[k]) && decide (l[k] ≤ 1000))) := hid (by
        rw [List.take_succ_eq_append_getElem hlt, List.all_append, hb.out]; simp)
      have e3 : Hid ((decide (0 ≤ l[k]) && decide (l[k] ≤ 1000)) = false → l.all (fun x => decide (0 ≤ x) && decide (x ≤ 1000)) = false) := hid (fun h => by
        rw [← Bool.not_eq_true, List.all_eq_true]
        intro hh
        have := hh _ (List.getElem_mem hlt)
        rw [this] at h; cases h)
      clear a0 hb
      generalize l[k] = x at *
      have i1 : (k : Int) < l.length := by omega
      by_cases h1 : x < 0
      · have hn := e3.out (by simp; omega)
        have HN : Hid (mayS f l = false) := hid (hno.out hn)
        clear hn
        go_wp2
        go_returns
        exact ⟨by simp [HN.out], hx⟩
      by_cases h2 : 1000 < x
      · have hn := e3.out (by simp; omega)
        have HN : Hid (mayS f l = false) := hid (hno.out hn)
        clear hn
        go_wp2
        go_returns
        exact ⟨by simp [HN.out], hx⟩
      have E2 : Hid ((l.take (k + 1)).all (fun x => decide (0 ≤ x) && decide (x ≤ 1000)) = true) := hid (by rw [e2.out]; simp; omega)
      clear e2 e3
      go_wp2
      all_goals
        go_roundw
        case rel => exact ⟨hx, k + 1, by go_num, by omega, E2⟩
        case measure => simp [intOf]; omega
    · obtain rfl : k = l.length := by omega
      have h2 := hb.out
      rw [List.take_length] at h2
      have HE : Hid (mayS f l = decide (0 < tot l)) := hid (hmt.out h2)
      have HBD : Hid (∀ x ∈ l, -100000 ≤ x ∧ x ≤ 100000) := hid fun x hx => by have := List.all_eq_true.1 h2 x hx; simp at this; omega
      clear h2 hb
      have hli : l.length ≤ 1000 := by omega
      have HL := hid hli
      by_cases hp : 0 < tot l
      · have HP : Hid (mayS f l = true) := hid (by rw [HE.out, decide_eq_true hp])
        go_wp2_with (go_at_call 40; refine (total_any (HA.out.ext (by assumption)) HBD.out HL.out).yields ?_; intro p)
        go_returns
        exact ⟨by simp [HP.out], ext_by⟩
      · have HP : Hid (mayS f l = false) := hid (by rw [HE.out, decide_eq_false hp])
        go_wp2_with (go_at_call 40; refine (total_any (HA.out.ext (by assumption)) HBD.out HL.out).yields ?_; intro p)
        go_returns
        exact ⟨by simp [HP.out]; try omega, ext_by⟩
theorem mayR_to {f : Int} {l : List Int} {v : Value} {w : World} {r : Bool} (h : Ints w v l) (e : mayS f l = r) : Calls Try.prog 41 #[.int .i64 f, v] w (Yields w (.bool r)) := e ▸ mayR_any h

/-! The document's rounds: who has had one more is at -1. -/
def stepR (P : List Pr) : List Pr := P.set (am (rs P)) ((P.getD (am (rs P)) (0, 0)).1 + 1, -1)
def runR : Nat → List Pr → List Pr
  | 0, P => P
  | n + 1, P => runR n (stepR P)
theorem stepR_length (P : List Pr) : (stepR P).length = P.length := by simp [stepR]
theorem runR_length : ∀ (n : Nat) (P : List Pr), (runR n P).length = P.length
  | 0, _ => rfl
  | n + 1, P => by rw [runR, runR_length n, stepR_length]
/-- Both beside one another. -/
structure Bsd (P Q : List Pr) : Prop where
  len : Q.length = P.length
  one : ∀ (i : Nat) (p q : Pr), P[i]? = some p → Q[i]? = some q → q.1 = p.1 ∧ ((0 ≤ p.2 ∧ q.2 = p.2) ∨ (p.2 < 0 ∧ q.2 = -1))
theorem Bsd.am {P Q : List Pr} (h : Bsd P Q) {hm : am (rs P) < P.length} (hp : 0 < (P[am (rs P)]).2) : Go.Proofs.Ytfjhcmpcnnjodaa.am (rs Q) = Go.Proofs.Ytfjhcmpcnnjodaa.am (rs P) := by
  have hq : Go.Proofs.Ytfjhcmpcnnjodaa.am (rs P) < Q.length := by rw [h.len]; exact hm
  have hmq : Q[Go.Proofs.Ytfjhcmpcnnjodaa.am (rs P)].2 = P[Go.Proofs.Ytfjhcmpcnnjodaa.am (rs P)].2 := by
    have := (h.one _ _ _ (List.getElem?_eq_getElem hm) (List.getElem?_eq_getElem hq)).2
    rcases this with ⟨_, e⟩ | ⟨e, _⟩
    · exact e
    · omega
  refine am_of (by rw [rs_length]; exact hq) (fun j hj => ?_) (fun j hj => ?_)
  · rw [rs_length] at hj
    have hjp : j < P.length := by rw [← h.len]; exact hj
    rw [rs_get Q hq, rs_get Q hj, hmq]
    have h1 := am_max (rs P) (j := j) (by rw [rs_length]; exact hjp)
    rw [rs_get P hm, rs_get P hjp] at h1
    have := (h.one _ _ _ (List.getElem?_eq_getElem hjp) (List.getElem?_eq_getElem hj)).2
    omega
  · have hjp : j < P.length := by omega
    have hjq : j < Q.length := by omega
    rw [rs_get Q hq, rs_get Q hjq, hmq]
    have h1 := am_first (rs P) hj
    rw [rs_get P hm, rs_get P hjp] at h1
    have := (h.one _ _ _ (List.getElem?_eq_getElem hjp) (List.getElem?_eq_getElem hjq)).2
    omega
variable {f : Int} {l : List Int}
theorem Bsd.step (h : May f l) {n : Nat} {P Q : List Pr} (hI : Inv f l (n + 1) P) (hb : Bsd P Q) : Bsd (stepP (tot l) P) (stepR Q) := by
  obtain ⟨hm, hp⟩ := hI.top h
  have e := hb.am hp
  have hq : Go.Proofs.Ytfjhcmpcnnjodaa.am (rs P) < Q.length := by rw [hb.len]; exact hm
  have hS := h.S1
  refine ⟨by rw [stepR_length, stepP_length, hb.len], ?_⟩
  intro i p q hpi hqi
  unfold stepP at hpi
  unfold stepR at hqi
  rw [e, getD_of hq] at hqi
  rw [getD_of hm] at hpi
  have ho := hb.one _ _ _ (List.getElem?_eq_getElem hm) (List.getElem?_eq_getElem hq)
  have hml : Go.Proofs.Ytfjhcmpcnnjodaa.am (rs P) < l.length := by rw [← hI.len]; exact hm
  have hd := hI.due _ l[Go.Proofs.Ytfjhcmpcnnjodaa.am (rs P)] _ (List.getElem?_eq_getElem hml) (List.getElem?_eq_getElem hm)
  have hr := (rem_bounds h (List.getElem_mem hml)).2.2
  rw [List.getElem?_set] at hpi hqi
  by_cases hi : Go.Proofs.Ytfjhcmpcnnjodaa.am (rs P) = i
  · rw [if_pos hi, if_pos hm] at hpi
    rw [if_pos hi, if_pos hq] at hqi
    obtain rfl := Option.some.inj hpi
    obtain rfl := Option.some.inj hqi
    refine ⟨by simp only; omega, .inr ⟨?_, rfl⟩⟩
    rcases hd with e2 | ⟨e2, -⟩
    · rw [e2]; simp only; omega
    · rw [e2] at hp; simp only at hp; omega
  · rw [if_neg hi] at hpi hqi
    exact hb.one i p q hpi hqi
theorem Bsd.run (h : May f l) : ∀ (k n : Nat) {P Q : List Pr}, Inv f l (n + k) P → Bsd P Q → Bsd (runP (tot l) k P) (runR k Q)
  | 0, _, _, _, _, hb => hb
  | k + 1, n, P, Q, hI, hb => by rw [runP, runR]; exact Bsd.run h k n (hI.step h) (hb.step h hI)
theorem Bsd.refl_low (h : May f l) : Bsd (low f (tot l) l) (low f (tot l) l) := ⟨rfl, fun i p q hp hq => by
  rw [hp] at hq
  obtain rfl := Option.some.inj hq
  refine ⟨rfl, .inl ⟨?_, rfl⟩⟩
  have hpm := List.mem_of_getElem? hp
  simp only [low, List.mem_map] at hpm
  obtain ⟨x, hx, rfl⟩ := hpm
  exact (rem_bounds h hx).2.2.1⟩
theorem Bsd.cs_eq {P Q : List Pr} (h : Bsd P Q) : cs Q = cs P := by
  apply List.ext_getElem
  · rw [cs_length, cs_length, h.len]
  · intro i h1 h2
    rw [cs_length] at h1 h2
    simp only [cs, List.getElem_map]
    exact (h.one _ _ _ (List.getElem?_eq_getElem h2) (List.getElem?_eq_getElem h1)).1
/-- The document's counts are the program's. -/
theorem counts_same (h : May f l) : cs (runR (leftN f (tot l) l).toNat (low f (tot l) l)) = countsL f l :=
  (Bsd.run h _ 0 (by rw [Nat.zero_add]; exact Inv.start h) (Bsd.refl_low h)).cs_eq
end Go.Proofs.Ytfjhcmpcnnjodaa
