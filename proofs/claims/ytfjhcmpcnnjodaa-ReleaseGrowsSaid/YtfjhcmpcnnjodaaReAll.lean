/- The document's Turn (tontineref11): whose slots are whose then, and who gave them. -/
import Derived.Test.YtfjhcmpcnnjodaaPl0
import Derived.Test.YtfjhcmpcnnjodaaRefAll
import Derived.Test.YtfjhcmpcnnjodaaRwL
import Derived.Test.YtfjhcmpcnnjodaaCopy
import Derived.Test.YtfjhcmpcnnjodaaTail
import Derived.Test.YtfjhcmpcnnjodaaPiece
import Derived.Deep.CutRange
import Derived.Deep.CutBlock
import Derived.Deep.LoopGhost
import Derived.Laws.MakeOwn
namespace Go.Proofs.Ytfjhcmpcnnjodaa
open Go.RowKit

/-- How much at a level. -/
def amtN (c : Cnf) (d l : Int) : Int := if isConf c = 0 ∧ 0 ≤ d ∧ d < c.doms.length ∧ 0 ≤ l ∧ l < (relOf c d).length then at0 (relOf c d) l.toNat else 0
/-- How many slots behind the i-th are d's. -/
def behind (own : List Int) (d : Int) (i : Nat) : Int := cntTo own d own.length - cntTo own d (i + 1)
/-- Whether the i-th slot is given away; whose it is then; who gave it. -/
def giv (c : Cnf) (own lv : List Int) (i : Nat) : Bool := decide (behind own (at0 own i) i < amtN c (at0 own i) (at0 lv (at0 own i).toNat))
def outAt (c : Cnf) (own lv : List Int) (i : Nat) : Int := if giv c own lv i = true then toOf c (at0 own i) else at0 own i
def freedAt (c : Cnf) (own lv : List Int) (i : Nat) : Int := if giv c own lv i = true then at0 own i else -1
def outL (c : Cnf) (own lv : List Int) : List Int := (List.range own.length).map (outAt c own lv)
def freedL (c : Cnf) (own lv : List Int) : List Int := (List.range own.length).map (freedAt c own lv)
/-- Whether slots and levels are as they are to be. -/
def okT (c : Cnf) (own lv : List Int) : Bool := decide (isConf c = 0) && decide ((own.length : Int) = c.frame) && decide (lv.length = c.doms.length) && own.all (fun x => decide (0 ≤ x) && decide (x < c.doms.length))
def turnL (c : Cnf) (own lv : List Int) : List Int × List Int := if okT c own lv = true then (outL c own lv, freedL c own lv) else ([], [])

theorem outL_length (c : Cnf) (own lv : List Int) : (outL c own lv).length = own.length := by simp [outL]
theorem freedL_length (c : Cnf) (own lv : List Int) : (freedL c own lv).length = own.length := by simp [freedL]
theorem outL_get {c : Cnf} {own lv : List Int} {i : Nat} (h : i < (outL c own lv).length) : (outL c own lv)[i] = outAt c own lv i := by simp [outL]
theorem freedL_get {c : Cnf} {own lv : List Int} {i : Nat} (h : i < (freedL c own lv).length) : (freedL c own lv)[i] = freedAt c own lv i := by simp [freedL]
theorem amtN_get {c : Cnf} (hi : isConf c = 0) {k j : Nat} (h : k < c.doms.length) (hj : j < c.doms[k].release.length) : amtN c k j = c.doms[k].release[j] := by
  unfold amtN
  rw [relOf_get h, if_pos ⟨hi, by omega, by omega, by omega, by omega⟩, Int.toNat_natCast, at0_get hj]
theorem amtN_out {c : Cnf} {d l : Int} (h : isConf c ≠ 0 ∨ d < 0 ∨ (c.doms.length : Int) ≤ d ∨ l < 0 ∨ ((relOf c d).length : Int) ≤ l) : amtN c d l = 0 := by
  unfold amtN
  rw [if_neg]
  omega
/-- What is given away lies between nothing and a frame. -/
theorem amtN_bounds (c : Cnf) (d l : Int) : 0 ≤ amtN c d l ∧ amtN c d l ≤ 64 := by
  by_cases h : isConf c = 0 ∧ 0 ≤ d ∧ d < c.doms.length ∧ 0 ≤ l ∧ l < (relOf c d).length
  · obtain ⟨hi, h1, h2, h3, h4⟩ := h
    obtain ⟨k, rfl⟩ : ∃ k : Nat, d = k := ⟨d.toNat, by omega⟩
    obtain ⟨j, rfl⟩ : ∃ j : Nat, l = j := ⟨l.toNat, by omega⟩
    have hk : k < c.doms.length := by omega
    rw [relOf_get hk] at h4
    have hj : j < c.doms[k].release.length := by omega
    rw [amtN_get hi hk hj]
    have g := Good.of hi
    have hd := domsB_get c 0 c.doms g.dom k hk
    simp only [domB, Bool.and_eq_true] at hd
    have hg := hd.2
    unfold giveB at hg
    split at hg
    · have := List.isEmpty_iff.1 hg
      rw [this] at hj
      simp at hj
    · simp only [Bool.and_eq_true, List.all_eq_true, withB_iff] at hg
      have := hg.1.1.2 _ (List.getElem_mem hj)
      have := g.f64
      omega
  · unfold amtN
    rw [if_neg h]
    omega
theorem cntTo_mono (s : List Int) (d : Int) : ∀ (a b : Nat), a ≤ b → cntTo s d a ≤ cntTo s d b
  | a, 0, h => by obtain rfl : a = 0 := by omega
                  exact Int.le_refl _
  | a, b + 1, h => by
    by_cases e : a = b + 1
    · subst e; exact Int.le_refl _
    · have := cntTo_mono s d a b (by omega)
      simp only [cntTo]
      split <;> omega
theorem cntTo_le (s : List Int) (d : Int) : ∀ k : Nat, 0 ≤ cntTo s d k ∧ cntTo s d k ≤ k
  | 0 => by simp [cntTo]
  | k + 1 => by
    have := cntTo_le s d k
    simp only [cntTo]
    split <;> omega
theorem behind_nonneg (own : List Int) (d : Int) {i : Nat} (h : i < own.length) : 0 ≤ behind own d i := by
  have := cntTo_mono own d (i + 1) own.length (by omega)
  unfold behind; omega
/-- One slot further down. -/
theorem behind_step (own : List Int) (d : Int) (i : Nat) : behind own d i = behind own d (i + 1) + if at0 own (i + 1) = d then 1 else 0 := by
  have e : cntTo own d (i + 1 + 1) = cntTo own d (i + 1) + if at0 own (i + 1) = d then 1 else 0 := rfl
  unfold behind
  split at e <;> split <;> omega

/-! How it stands while domain d gives away: what lies from slot m on is done. -/
def stAt (own : List Int) (f g : Nat → Int) (d : Int) (m j : Nat) : Int := if at0 own j < d ∨ (at0 own j = d ∧ m ≤ j) then f j else g j
def stL (own : List Int) (f g : Nat → Int) (d : Int) (m : Nat) : List Int := (List.range own.length).map (stAt own f g d m)
theorem stL_length (own : List Int) (f g : Nat → Int) (d : Int) (m : Nat) : (stL own f g d m).length = own.length := by simp [stL]
theorem stL_congr {own : List Int} {f g : Nat → Int} {d d' : Int} {m m' : Nat} (h : ∀ j, j < own.length → stAt own f g d m j = stAt own f g d' m' j) : stL own f g d m = stL own f g d' m' := by
  unfold stL
  exact List.map_congr_left fun j hj => h j (List.mem_range.1 hj)
theorem stL_start {own : List Int} (f g : Nat → Int) (h : ∀ x ∈ own, 0 ≤ x) : stL own f g 0 own.length = (List.range own.length).map g := by
  unfold stL
  refine List.map_congr_left fun j hj => ?_
  have hj := List.mem_range.1 hj
  have := h _ (List.getElem_mem hj)
  unfold stAt
  rw [at0_get hj, if_neg (by omega)]
theorem stL_next {own : List Int} (f g : Nat → Int) (d : Int) : stL own f g d 0 = stL own f g (d + 1) own.length := stL_congr fun j hj => by
  unfold stAt
  by_cases h : at0 own j < d + 1
  · rw [if_pos (by omega), if_pos (by omega)]
  · rw [if_neg (by omega), if_neg (by omega)]
theorem stL_end {own : List Int} (f g : Nat → Int) {n : Int} (h : ∀ x ∈ own, x < n) : stL own f g n own.length = (List.range own.length).map f := by
  unfold stL
  refine List.map_congr_left fun j hj => ?_
  have hj := List.mem_range.1 hj
  have := h _ (List.getElem_mem hj)
  unfold stAt
  rw [at0_get hj, if_pos (by omega)]
theorem stL_skip {own : List Int} (f g : Nat → Int) {d : Int} {k : Nat} (h : at0 own k ≠ d) : stL own f g d (k + 1) = stL own f g d k := stL_congr fun j hj => by
  unfold stAt
  by_cases e : j = k
  · subst e
    by_cases h1 : at0 own j < d
    · rw [if_pos (.inl h1), if_pos (.inl h1)]
    · rw [if_neg (by omega), if_neg (by omega)]
  · by_cases h1 : at0 own j < d ∨ (at0 own j = d ∧ k ≤ j)
    · rw [if_pos (by omega), if_pos h1]
    · rw [if_neg (by omega), if_neg h1]
theorem stL_set {own : List Int} (f g : Nat → Int) {d : Int} {k : Nat} (h : at0 own k = d) : (stL own f g d (k + 1)).set k (f k) = stL own f g d k := by
  apply List.ext_getElem
  · rw [List.length_set, stL_length, stL_length]
  · intro i h1 h2
    rw [List.getElem_set]
    simp only [stL, List.getElem_map, List.getElem_range]
    unfold stAt
    by_cases e : k = i
    · subst e
      rw [if_pos rfl, if_pos (by omega)]
    · rw [if_neg e]
      by_cases h3 : at0 own i < d ∨ (at0 own i = d ∧ k ≤ i)
      · rw [if_pos (by omega), if_pos h3]
      · rw [if_neg (by omega), if_neg h3]
/-- Where nothing is left all is done. -/
theorem stL_none {own : List Int} (f g : Nat → Int) {d : Int} {m : Nat} (h : ∀ j, j < m → at0 own j = d → f j = g j) : stL own f g d m = stL own f g d 0 := stL_congr fun j hj => by
  unfold stAt
  by_cases h1 : at0 own j < d
  · rw [if_pos (.inl h1), if_pos (.inl h1)]
  · by_cases h2 : at0 own j = d
    · rw [if_pos (show at0 own j < d ∨ (at0 own j = d ∧ 0 ≤ j) by omega)]
      by_cases h3 : m ≤ j
      · rw [if_pos (by omega)]
      · rw [if_neg (by omega)]; exact (h j (by omega) h2).symm
    · rw [if_neg (by omega), if_neg (by omega)]
/-- The k-th is given away while something is left. -/
theorem giv_yes {c : Cnf} {own lv : List Int} {k : Nat} {d left : Int} (h : at0 own k = d) (hl : left = amtN c d (at0 lv d.toNat) - (cntTo own d own.length - cntTo own d (k + 1))) (hp : 0 < left) : giv c own lv k = true := by
  unfold giv behind
  rw [h]
  exact decide_eq_true (by omega)
theorem giv_no {c : Cnf} {own lv : List Int} {m j : Nat} {d left : Int} (h : at0 own j = d) (hj : j < m) (hl : left = amtN c d (at0 lv d.toNat) - (cntTo own d own.length - cntTo own d m)) (hp : left ≤ 0) : giv c own lv j = false := by
  have := cntTo_mono own d (j + 1) m (by omega)
  unfold giv behind
  rw [h]
  exact decide_eq_false (by omega)
end Go.Proofs.Ytfjhcmpcnnjodaa

namespace Go.Proofs.Ytfjhcmpcnnjodaa
open Go.RowKit

set_option maxRecDepth 100000 in
set_option maxHeartbeats 4000000 in
theorem ramount_any {c : Cnf} {pv dv : Value} {w : World} (hc : ConfV w c pv dv) (hr : ∀ d ∈ c.doms, ∀ r ∈ d.routes, r.length ≤ 300) (d l : Int) : Calls Try.prog 12 #[confV c pv dv, .int .i64 d, .int .i64 l] w (Yields w (.int .i64 (amtN c d l))) := by
  obtain ⟨pp, cp, rfl, hp1, hp2⟩ := hc.plans.shape
  obtain ⟨pd, cd, rfl, hd1, hd2⟩ := hc.doms.shape
  unfold maxLen at hp2 hd2
  have HC := hid hc
  have HR := hid hr
  cases hi : isConf c
  case succ m =>
    have HI := hid hi
    have hE : Hid (amtN c d l = 0) := hid (amtN_out (.inl (by omega)))
    have hm1 : (((m + 1 : Nat) : Int) == 0) = false := by simp; omega
    have hm2 : (((m + 1 : Nat) : Int) != 0) = true := by simp; omega
    clear hi hc hr
    go_enter Try.func12, Try.ntmps12
    go_wp2_with (go_at_call 14; refine (isConf_to HI.out _ _ _ (HC.out.ext ext_by) HR.out).yields ?_; intro p1)
    go_returns
    exact ⟨by simp [hE.out], ext_by⟩
  have HI := hid hi
  by_cases h0 : d < 0
  · have hE : Hid (amtN c d l = 0) := hid (amtN_out (.inr (.inl h0)))
    clear hi hc hr
    go_enter Try.func12, Try.ntmps12
    go_wp2_with (go_at_call 14; refine (isConf_to HI.out _ _ _ (HC.out.ext ext_by) HR.out).yields ?_; intro p1)
    go_returns
    exact ⟨by simp [hE.out], ext_by⟩
  by_cases h1 : (c.doms.length : Int) ≤ d
  · have hE : Hid (amtN c d l = 0) := hid (amtN_out (.inr (.inr (.inl h1))))
    clear hi hc hr
    go_enter Try.func12, Try.ntmps12
    go_wp2_with (go_at_call 14; refine (isConf_to HI.out _ _ _ (HC.out.ext ext_by) HR.out).yields ?_; intro p1)
    go_returns
    exact ⟨by simp [hE.out], ext_by⟩
  by_cases h2 : l < 0
  · have hE : Hid (amtN c d l = 0) := hid (amtN_out (.inr (.inr (.inr (.inl h2)))))
    clear hi hc hr
    go_enter Try.func12, Try.ntmps12
    go_wp2_with (go_at_call 14; refine (isConf_to HI.out _ _ _ (HC.out.ext ext_by) HR.out).yields ?_; intro p1)
    go_returns
    exact ⟨by simp [hE.out], ext_by⟩
  obtain ⟨k, rfl⟩ : ∃ k : Nat, d = k := ⟨d.toNat, by omega⟩
  have hk : k < c.doms.length := by omega
  obtain ⟨db, doff, rfl, vr, ve, DC, -, hrel, -⟩ := hc.doms.at k hk
  have c3 := DC.release
  have hdb := World.block_lt_of_cell? _ _ c3
  obtain ⟨pe, ce, rfl, he1, he2⟩ := hrel.shape
  unfold maxLen at he2
  have hrl := relOf_get hk
  have i1 : (k : Int) < c.doms.length := by omega
  by_cases h3 : (c.doms[k].release.length : Int) ≤ l
  · have hE : Hid (amtN c k l = 0) := hid (amtN_out (.inr (.inr (.inr (.inr (by rw [hrl]; exact h3))))))
    clear hi hc hr DC hrel hrl
    generalize c.doms[k].release = rel at *
    go_enter Try.func12, Try.ntmps12
    go_wp2_with (go_at_call 14; refine (isConf_to HI.out _ _ _ (HC.out.ext ext_by) HR.out).yields ?_; intro p1)
    go_returns
    exact ⟨by simp [hE.out], ext_by⟩
  · obtain ⟨j, rfl⟩ : ∃ j : Nat, l = j := ⟨l.toNat, by omega⟩
    have hj : j < c.doms[k].release.length := by omega
    have hE : Hid (amtN c k j = c.doms[k].release[j]) := hid (amtN_get hi hk hj)
    obtain ⟨eb, eo, rfl, e0, -⟩ := hrel.at j hj
    simp only [Nat.mul_one] at e0
    have heb := World.block_lt_of_cell? _ _ e0
    have i2 : (j : Int) < c.doms[k].release.length := by omega
    clear hi hc hr DC hrel hrl
    generalize c.doms[k].release[j] = x at *
    generalize c.doms[k].release = rel at *
    go_enter Try.func12, Try.ntmps12
    go_wp2_with (go_at_call 14; refine (isConf_to HI.out _ _ _ (HC.out.ext ext_by) HR.out).yields ?_; intro p1)
    go_returns
    exact ⟨by simp [hE.out], ext_by⟩
end Go.Proofs.Ytfjhcmpcnnjodaa

namespace Go.Proofs.Ytfjhcmpcnnjodaa
open Go.RowKit

theorem ints_cells {w : World} {v : Value} {l : List Int} (h : Ints w v l) (hl : 0 < l.length) : ∃ b off cap, v = .slice (some ⟨b, off, none⟩) l.length cap ∧ l.length ≤ cap ∧ cap ≤ maxLen ∧ ∀ (j : Nat) (u : Value), (l.map iV)[j]? = some u → w.cell? ((⟨b, off, none⟩ : Addr).add j) = some u := by
  obtain ⟨p, cap, rfl, h1, h2⟩ := h.shape
  obtain ⟨b, off, rfl, -⟩ := h.at 0 hl
  refine ⟨b, off, cap, rfl, h1, h2, fun j u hj => ?_⟩
  rw [List.getElem?_map] at hj
  obtain ⟨x, hx, rfl⟩ := Option.map_eq_some_iff.1 hj
  obtain ⟨hjl, rfl⟩ := List.getElem?_eq_some_iff.1 hx
  obtain ⟨b', off', e, hc⟩ := h.at j hjl
  injection e with e
  injection e with e1 e2
  subst e1 e2
  rw [add_add]
  simpa [iV] using hc
theorem iV_one (l : List Int) : ∀ u ∈ l.map iV, u.oneCell' = true := by
  intro u hu
  obtain ⟨x, _, rfl⟩ := List.mem_map.1 hu
  rfl
theorem Rw1.of_blk {base g T : Nat} {L : List Value} {w : World} (h : Blk w g T L) (hb : base ≤ g) (hl : L.length ≤ maxLen) : Rw1 base T g L.length L w :=
  ⟨⟨by simp, .inr ⟨g, L.length, L.toArray, rfl, hb, h, Nat.le_refl _, hl, by simp, by simp⟩⟩⟩
theorem Rw1.ints {base g cap : Nat} {l : List Int} {w : World} (h : Rw1 base 3 g cap (l.map iV) w) : Ints w (.slice (some ⟨g, 0, none⟩) l.length cap) l := by
  have := h.own
  rw [List.length_map] at this
  exact ints_of_owns this
theorem run_makeF (n : Nat) (hn : n ≤ 64) (w : World) : (Instr.makeSlice 26 (.int .i64 n) (.int .i64 n)).run Try.prog w = .ok (.slice (some ⟨w.heap.size, 0, none⟩) n n) (w.alloc (.cells (List.replicate n (Value.int .i64 0)).toArray 3)) := by
  obtain ⟨i0, hi, hz0, hz1, hz2⟩ := info_parts infoI
  have := run_make (P := Try.prog) w 26 3 i0 (.int .i64 0) (by kernel_rfl) hi hz0 .i64 .i64 n n (by omega) (by omega) (by rw [hz2]; omega) (by omega)
  rw [this, Int.toNat_natCast, hz1, made_rep _ rfl]

set_option maxRecDepth 100000 in
set_option maxHeartbeats 4000000 in
theorem rturn_none {c : Cnf} {pv dv vo vl : Value} {own lv : List Int} {w : World} (hc : ConfV w c pv dv) (hr : ∀ d ∈ c.doms, ∀ r ∈ d.routes, r.length ≤ 300) (hO : Ints w vo own) (hL : Ints w vl lv) (h : isConf c ≠ 0 ∨ (own.length : Int) ≠ c.frame ∨ lv.length ≠ c.doms.length) :
    Calls Try.prog 10 #[confV c pv dv, vo, vl] w (Yields w (.tuple #[.slice none 0 0, .slice none 0 0])) := by
  obtain ⟨pp, cp, rfl, hp1, hp2⟩ := hc.plans.shape
  obtain ⟨pd, cd, rfl, hd1, hd2⟩ := hc.doms.shape
  obtain ⟨po, co, rfl, ho1, ho2⟩ := hO.shape
  obtain ⟨pl, cl, rfl, hl1, hl2⟩ := hL.shape
  unfold maxLen at hp2 hd2 ho2 hl2
  have HC := hid hc
  have HR := hid hr
  clear hO hL hc hr
  cases hi : isConf c
  case succ m =>
    have HI := hid hi
    have hm1 : (((m + 1 : Nat) : Int) == 0) = false := by simp; omega
    have hm2 : (((m + 1 : Nat) : Int) != 0) = true := by simp; omega
    clear hi h
    go_enter Try.func10, Try.ntmps10
    go_wp2_with (go_at_call 14; refine (isConf_to HI.out _ _ _ (HC.out.ext ext_by) HR.out).yields ?_; intro p1)
    all_goals
      refine bodyPost_ret (v := .tuple #[.slice none 0 0, .slice none 0 0]) (by simp [results, Try.results10, go_sem]) rfl ⟨rfl, ext_by⟩
  have HI := hid hi
  by_cases h1 : (own.length : Int) = c.frame
  · have h2 : lv.length ≠ c.doms.length := by omega
    have hm1 : ((own.length : Int) == c.frame) = true := by simpa using h1
    have hm2 : ((own.length : Int) != c.frame) = false := by simpa using h1
    have hm3 : ((lv.length : Int) == (c.doms.length : Int)) = false := by simp; omega
    have hm4 : ((lv.length : Int) != (c.doms.length : Int)) = true := by simp; omega
    clear hi h h1 h2
    go_enter Try.func10, Try.ntmps10
    go_wp2_with (go_at_call 14; refine (isConf_to HI.out _ _ _ (HC.out.ext ext_by) HR.out).yields ?_; intro p1)
    all_goals
      refine bodyPost_ret (v := .tuple #[.slice none 0 0, .slice none 0 0]) (by simp [results, Try.results10, go_sem]) rfl ⟨rfl, ext_by⟩
  · have hm1 : ((own.length : Int) == c.frame) = false := by simpa using h1
    have hm2 : ((own.length : Int) != c.frame) = true := by simpa using h1
    clear hi h h1
    go_enter Try.func10, Try.ntmps10
    go_wp2_with (go_at_call 14; refine (isConf_to HI.out _ _ _ (HC.out.ext ext_by) HR.out).yields ?_; intro p1)
    all_goals
      refine bodyPost_ret (v := .tuple #[.slice none 0 0, .slice none 0 0]) (by simp [results, Try.results10, go_sem]) rfl ⟨rfl, ext_by⟩

set_option maxRecDepth 100000 in
set_option maxHeartbeats 8000000 in
theorem rturn_some {c : Cnf} {pv dv vo vl : Value} {own lv : List Int} {w : World} (hc : ConfV w c pv dv) (hr : ∀ d ∈ c.doms, ∀ r ∈ d.routes, r.length ≤ 300) (hO : Ints w vo own) (hL : Ints w vl lv) (hi : isConf c = 0) (h1 : (own.length : Int) = c.frame) (h2 : lv.length = c.doms.length) :
    Calls Try.prog 10 #[confV c pv dv, vo, vl] w fun e w' => ∃ a b, e = .returned (.tuple #[a, b]) ∧ Ext w w' ∧ Ints w' a (turnL c own lv).1 ∧ Ints w' b (turnL c own lv).2 := by
  have G := Good.of hi
  have ho0 : 0 < own.length := by have := G.f1; omega
  have hl0 : 0 < lv.length := by have := G.d1; omega
  obtain ⟨pp, cp, rfl, hp1, hp2⟩ := hc.plans.shape
  obtain ⟨pd, cd, rfl, hd1, hd2⟩ := hc.doms.shape
  obtain ⟨ob, oo, co, rfl, ho1, ho2, hnews⟩ := ints_cells hO ho0
  obtain ⟨lb, lo, cl, rfl, hl1, hl2, -⟩ := ints_cells hL hl0
  unfold maxLen at hp2 hd2 ho2 hl2
  have HC := hid hc
  have HR := hid hr
  have HO := hid hO
  have HL := hid hL
  have HI := hid hi
  have HN := hid hnews
  have f64 := G.f64
  have d6 := G.d6
  have d1 := G.d1
  have hmf := run_makeF own.length (by omega)
  have hm1 : ((own.length : Int) == c.frame) = true := by simpa using h1
  have hm2 : ((own.length : Int) != c.frame) = false := by simpa using h1
  have hm3 : ((lv.length : Int) == (c.doms.length : Int)) = true := by simp; omega
  have hm4 : ((lv.length : Int) != (c.doms.length : Int)) = false := by simp; omega
  have H1 := hid h1
  have H2 := hid h2
  clear hc hr hO hL hi hnews G
  go_enter Try.func10, Try.ntmps10
  go_upto_region 3 with (go_at_call 14; refine (isConf_to HI.out _ _ _ (HC.out.ext ext_by) HR.out).yields ?_; intro p1)
  refine wp_forget (fun u => Ext w u ∧ u.cell? ⟨w.heap.size, 0, none⟩ = some (.int .i64 c.frame) ∧ u.cell? ⟨w.heap.size, 1, none⟩ = some (.int .i64 c.epoch) ∧ u.cell? ⟨w.heap.size, 2, none⟩ = some (.slice pp c.plans.length cp) ∧ u.cell? ⟨w.heap.size, 3, none⟩ = some (.slice pd c.doms.length cd)) ⟨ext_by, by simp [go_sem], by simp [go_sem], by simp [go_sem], by simp [go_sem]⟩ ?_
  rintro W ⟨X, k0, k1, k2, k3⟩
  have hbW : w.heap.size < W.heap.size := World.block_lt_of_cell? _ _ k0
  have hol : own.length ≤ 64 := by omega
  clear hm1 hm2 hm3 hm4 h1 h2
  go_cut [8, 9] from 32 to 36 (fun s8 s9 wx => ∃ g1 c1 g2 : Nat, s8 = .slice (some ⟨g1, 0, none⟩) own.length c1 ∧ s9 = .slice (some ⟨g2, 0, none⟩) own.length own.length ∧ g1 ≠ g2 ∧ W.heap.size ≤ g1 ∧ W.heap.size ≤ g2 ∧ Ext W wx ∧ Hid (Rw1 W.heap.size 3 g1 c1 (own.map iV) wx) ∧ Hid (Blk wx g2 3 (List.replicate own.length (Value.int .i64 0))))
  case first =>
    refine wp_region_T 6 1 (fun u => Ext W u) (by kernel_rfl) (by kernel_rfl) ?_
    have HSS : Ext W W.drew := (Ext.refl W).drew
    generalize W.drew = w2 at *
    refine wpT_tk 0 HSS ?_; (try simp only [nrm])
    refine wpT_tk 2 HSS ?_; (try simp only [nrm])
    refine wpT_tk 3 HSS ?_; (try simp only [nrm])
    refine wpT_two 1 4 rfl rfl (by kernel_rfl) (by rfl) (by rfl) (fun K' hK => ?_) (fun K' hK => ?_)
    · refine wp_copy (.const (.slice none 0 0)) (.tmp 32) 26 3 (.int .i64 0) 8 rfl Try.underlying26 infoI rfl (ad := ⟨ob, oo, none⟩) (m := own.length) (c := co) (news := own.map iV) (by rfl) (by rfl) (by simp) (fun j u hj => HSS.cell (X.cell (HN.out j u hj))) (iV_one own) (by unfold maxLen; omega) (by omega) ho0 ?_
      intro g1 c1 w3 ho hg hx
      have HSS2 : Ext W w3 := HSS.trans hx
      have hw2 : W.heap.size ≤ w2.heap.size := HSS.size
      have B1 : Hid (Rw1 W.heap.size 3 g1 c1 (own.map iV) w3) := hid ⟨by rw [List.length_map]; exact owns_base ho hw2⟩
      have hgW : W.heap.size ≤ g1 := by omega
      refine hK.out _ _ HSS2 ?_
      (try simp only [nrm])
      clear hK K' HSS ho hx hg hw2
      have HSS := HSS2
      clear HSS2 w2
      refine wpT_tk 5 HSS ?_; (try simp only [nrm])
      refine wpT_on 4 (fun K' hK => ?_); go_simp
      have HSS2 : Ext W (w3.alloc (.cells (Array.replicate own.length (Value.int .i64 0)) 3 (0, 0))) := HSS.alloc _
      have B2 : Hid (Blk (w3.alloc (.cells (Array.replicate own.length (Value.int .i64 0)) 3 (0, 0))) w3.heap.size 3 (List.replicate own.length (Value.int .i64 0))) := hid (by have := Blk.new w3 3 (List.replicate own.length (Value.int .i64 0)); simpa using this)
      have B3 : Hid (Rw1 W.heap.size 3 g1 c1 (own.map iV) (w3.alloc (.cells (Array.replicate own.length (Value.int .i64 0)) 3 (0, 0)))) := hid (B1.out.ext (Ext.alloc (Ext.refl _) _))
      have hs2 : W.heap.size ≤ w3.heap.size := HSS.size
      have hs3 : g1 < w3.heap.size := B1.out.blk.2.1
      refine hK.out _ _ HSS2 ?_
      (try simp only [nrm])
      clear hK K' HSS B1
      have HSS := HSS2
      clear HSS2
      generalize w3.alloc (.cells (Array.replicate own.length (Value.int .i64 0)) 3 (0, 0)) = w4 at *
      generalize w3.heap.size = B at *
      clear w3
      refine wpT_done (by kernel_rfl) ?_
      refine wpAny_tk 6 ?_; (try simp only [nrm])
      refine wpAny_done (by kernel_rfl) ?_ _
      go_wp2
      go_meet
      case rel => exact ⟨_, _, _, rfl, rfl, by omega, by omega, by omega, HSS, B3, B2⟩
    · go_simp
      have HSS2 : Ext W (w2.alloc (.cells (Array.replicate own.length (Value.int .i64 0)) 3 (0, 0))) := HSS.alloc _
      have B1 : Hid (Blk (w2.alloc (.cells (Array.replicate own.length (Value.int .i64 0)) 3 (0, 0))) w2.heap.size 3 (List.replicate own.length (Value.int .i64 0))) := hid (by have := Blk.new w2 3 (List.replicate own.length (Value.int .i64 0)); simpa using this)
      have hs1 : W.heap.size ≤ w2.heap.size := HSS.size
      refine hK.out _ _ HSS2 ?_
      (try simp only [nrm])
      clear hK K' HSS
      have HSS := HSS2
      clear HSS2
      generalize w2.alloc (.cells (Array.replicate own.length (Value.int .i64 0)) 3 (0, 0)) = w3 at *
      generalize w2.heap.size = A at *
      clear w2
      refine wpT_on 1 (fun K' hK => ?_)
      refine wp_copy (.const (.slice none 0 0)) (.tmp 32) 26 3 (.int .i64 0) 8 rfl Try.underlying26 infoI rfl (ad := ⟨ob, oo, none⟩) (m := own.length) (c := co) (news := own.map iV) (by rfl) (by rfl) (by simp) (fun j u hj => HSS.cell (X.cell (HN.out j u hj))) (iV_one own) (by unfold maxLen; omega) (by omega) ho0 ?_
      intro g1 c1 w4 ho hg hx
      have HSS2 : Ext W w4 := HSS.trans hx
      have hw3 : W.heap.size ≤ w3.heap.size := HSS.size
      have B2 : Hid (Rw1 W.heap.size 3 g1 c1 (own.map iV) w4) := hid ⟨by rw [List.length_map]; exact owns_base ho hw3⟩
      have B3 := hid (B1.out.ext hx)
      have hgW : W.heap.size ≤ g1 := by omega
      have hs3 : A < w3.heap.size := B1.out.lt
      have hgA : g1 ≠ A := by omega
      refine hK.out _ _ HSS2 ?_
      (try simp only [nrm])
      clear hK K' HSS ho hx hg hw3 B1 hs3
      have HSS := HSS2
      clear HSS2 w3
      refine wpT_tk 5 HSS ?_; (try simp only [nrm])
      refine wpT_done (by kernel_rfl) ?_
      refine wpAny_tk 6 ?_; (try simp only [nrm])
      refine wpAny_done (by kernel_rfl) ?_ _
      go_wp2
      go_meet
      case rel => exact ⟨_, _, _, rfl, rfl, hgA, hgW, hs1, HSS, B2, B3⟩
  case rest =>
    obtain ⟨g1, c1, g2, rfl, rfl, hgg, hg1, hg2, hxc, hB1, hB2⟩ := hcut
    have HB1 := hB1
    have hok : Hid (∀ r, own.all (fun x => decide (0 ≤ x) && decide (x < (c.doms.length : Int))) = r → okT c own lv = r) := hid fun r h => by
      unfold okT
      rw [decide_eq_true HI.out, decide_eq_true H1.out, decide_eq_true H2.out, h]; rfl
    clear hB1 hmf
    go_wp2
    go_loopw [10] (fun v10 wr => Ext W wr ∧ ∃ i : Nat, v10 = .int .i64 i ∧ i ≤ own.length ∧ Hid (Rw1 W.heap.size 3 g1 c1 (own.map iV) wr) ∧ Hid (Blk wr g2 3 ((List.replicate i (-1) ++ List.replicate (own.length - i) 0).map iV)) ∧ Hid ((own.take i).all (fun x => decide (0 ≤ x) && decide (x < (c.doms.length : Int))) = true)) (fun v10 _ => (own.length - intOf v10).toNat)
    case atStart => exact ⟨hxc, 0, rfl, by omega, HB1, hid (by have := hB2.out; simpa [iV] using this), hid (by simp)⟩
    case round =>
      obtain ⟨hx, i, rfl, hi, hA, hF, hT⟩ := hrel
      have m0 := hx.cell k0
      have m3 := hx.cell k3
      have hbr : w.heap.size < wr.heap.size := World.block_lt_of_cell? _ _ m0
      by_cases hlt : i < own.length
      · obtain ⟨b', o', e', a0⟩ := (HO.out.ext (X.trans hx)).at i hlt
        injection e' with e'
        injection e' with e1 e2
        subst e1 e2
        simp only [Nat.mul_one] at a0
        have e3 : Hid ((decide (0 ≤ own[i]) && decide (own[i] < (c.doms.length : Int))) = false → own.all (fun x => decide (0 ≤ x) && decide (x < (c.doms.length : Int))) = false) := hid (fun h => by
          rw [← Bool.not_eq_true, List.all_eq_true]
          intro hh
          have := hh _ (List.getElem_mem hlt)
          rw [this] at h; cases h)
        have e4 : Hid ((own.take (i + 1)).all (fun x => decide (0 ≤ x) && decide (x < (c.doms.length : Int))) = (decide (0 ≤ own[i]) && decide (own[i] < (c.doms.length : Int)))) := hid (by
          rw [List.take_succ_eq_append_getElem hlt, List.all_append, hT.out]; simp)
        have n3 := more_cell m3
        have n4 := more_cell a0
        clear hT
        generalize own[i] = x at *
        have i1 : (i : Int) < own.length := by omega
        by_cases hx1 : x < 0
        · have HE : Hid (turnL c own lv = ([], [])) := hid (by unfold turnL; rw [hok.out _ (e3.out (by simp; omega))]; rfl)
          have hob := World.block_lt_of_cell? _ _ a0
          go_wp2
          ((first | refine wp_region_more (by kernel_rfl) (by kernel_rfl) ?_ | refine wp_region_ext (by kernel_rfl) (by kernel_rfl) ?_); (try dsimp only [append_cons', append_nil']); (repeat (go_big_quiet_step ((fail)))); refine wpQuiet_nil ?_; rintro _ ⟨pq, rfl⟩)
          go_wp2
          all_goals
            refine bodyPost_ret (v := .tuple #[.slice none 0 0, .slice none 0 0]) (by simp [results, Try.results10, go_sem]) rfl ⟨_, _, rfl, ext_by, by rw [HE.out]; exact nil_ints _, by rw [HE.out]; exact nil_ints _⟩
        have hd1 : decide (x < 0) = false := decide_eq_false hx1
        by_cases hx2 : (c.doms.length : Int) ≤ x
        · have HE : Hid (turnL c own lv = ([], [])) := hid (by unfold turnL; rw [hok.out _ (e3.out (by simp; omega))]; rfl)
          have hob := World.block_lt_of_cell? _ _ a0
          go_wp2
          ((first | refine wp_region_more (by kernel_rfl) (by kernel_rfl) ?_ | refine wp_region_ext (by kernel_rfl) (by kernel_rfl) ?_); (try dsimp only [append_cons', append_nil']); (repeat (go_big_quiet_step ((fail)))); refine wpQuiet_nil ?_; rintro _ ⟨pq, rfl⟩)
          go_wp2
          all_goals
            refine bodyPost_ret (v := .tuple #[.slice none 0 0, .slice none 0 0]) (by simp [results, Try.results10, go_sem]) rfl ⟨_, _, rfl, ext_by, by rw [HE.out]; exact nil_ints _, by rw [HE.out]; exact nil_ints _⟩
        have E4 : Hid ((own.take (i + 1)).all (fun x => decide (0 ≤ x) && decide (x < (c.doms.length : Int))) = true) := hid (by rw [e4.out]; simp; omega)
        have hob := World.block_lt_of_cell? _ _ a0
        clear e3 e4
        go_wp2
        ((first | refine wp_region_more (by kernel_rfl) (by kernel_rfl) ?_ | refine wp_region_ext (by kernel_rfl) (by kernel_rfl) ?_); (try dsimp only [append_cons', append_nil']); (repeat (go_big_quiet_step ((fail)))); refine wpQuiet_nil ?_; rintro _ ⟨pq, rfl⟩)
        have xq := ext_more wr pq
        have hF2 := hid (hF.out.ext xq)
        have hA2 := hid (hA.out.ext xq)
        have hx2' := hx.trans xq
        clear hF hA n3 n4 m0 m3 a0 hob hbr hx xq
        generalize more wr pq = w3 at *
        have hlen : i < ((List.replicate i (-1 : Int) ++ List.replicate (own.length - i) 0).map iV).length := by simp; omega
        obtain ⟨old, f0⟩ : ∃ old, w3.cell? ⟨g2, i, none⟩ = some old := ⟨_, hF2.out.cell hlen⟩
        have f1 := hF2.out.frozen i
        have f2 := hF2.out.lt
        have hst : Hid (((List.replicate i (-1 : Int) ++ List.replicate (own.length - i) 0).map iV).set i (.int .i64 (-1)) = (List.replicate (i + 1) (-1 : Int) ++ List.replicate (own.length - (i + 1)) 0).map iV) := hid (by
          obtain ⟨m, hm⟩ : ∃ m, own.length - i = m + 1 := ⟨own.length - i - 1, by omega⟩
          have e : (-1 : Int) :: List.replicate m 0 = [-1] ++ List.replicate m 0 := rfl
          rw [show (Value.int .i64 (-1)) = iV (-1) from rfl, ← List.map_set, List.set_append_right i _ (by simp), List.length_replicate, Nat.sub_self, hm, List.replicate_succ, List.set_cons_zero, show own.length - (i + 1) = m by omega, e, ← List.append_assoc, ← List.replicate_succ'])
        clear hlen
        go_wp2
        all_goals
          go_roundw
          case rel => exact ⟨ext_by, i + 1, by go_num, by omega, hid (hA2.out.other (fun e => hgg e.symm) _ _), hid (by rw [← hst.out]; exact hF2.out.set i _), E4⟩
          case measure => simp [intOf]; omega
      · obtain rfl : i = own.length := by omega
        have hall := hT.out
        rw [List.take_length] at hall
        have hE : Hid (turnL c own lv = (outL c own lv, freedL c own lv)) := hid (by unfold turnL; rw [hok.out _ hall]; rfl)
        have hown : ∀ x ∈ own, 0 ≤ x ∧ x < (c.doms.length : Int) := fun x hx => by have := List.all_eq_true.1 hall x hx; simpa using this
        have HOW := hid hown
        have s1 : stL own (outAt c own lv) (at0 own) 0 own.length = own := by
          rw [stL_start _ _ fun x hx => (hown x hx).1]
          apply List.ext_getElem
          · simp
          · intro i h1 h2
            simp only [List.getElem_map, List.getElem_range]
            rw [at0_get h2]
        have s2 : stL own (freedAt c own lv) (fun _ => -1) 0 own.length = List.replicate own.length (-1) ++ List.replicate (own.length - own.length) 0 := by
          rw [stL_start _ _ fun x hx => (hown x hx).1, Nat.sub_self, List.replicate_zero, List.append_nil]
          apply List.ext_getElem
          · simp
          · intro i h1 h2
            simp
        have hS1 : Hid (Rw1 W.heap.size 3 g1 c1 ((stL own (outAt c own lv) (at0 own) 0 own.length).map iV) wr) := hid (by rw [s1]; exact hA.out)
        have hS2 : Hid (Rw1 W.heap.size 3 g2 own.length ((stL own (freedAt c own lv) (fun _ => -1) 0 own.length).map iV) wr) := hid (by
          have := Rw1.of_blk (base := W.heap.size) hF.out hg2 (by simp; unfold maxLen; omega)
          rw [s2]
          simpa using this)
        clear hall hown s1 s2 hA hF hT hok hB2 HB1
        go_wp2
        go_loopw [11] (fun v11 wz => Ext W wz ∧ ∃ d : Nat, v11 = .int .i64 d ∧ d ≤ c.doms.length ∧ Hid (Rw1 W.heap.size 3 g1 c1 ((stL own (outAt c own lv) (at0 own) d own.length).map iV) wz) ∧ Hid (Rw1 W.heap.size 3 g2 own.length ((stL own (freedAt c own lv) (fun _ => -1) d own.length).map iV) wz)) (fun v11 _ => (c.doms.length - intOf v11).toNat)
        case atStart => exact ⟨hx, 0, rfl, by omega, hS1, hS2⟩
        case round =>
          obtain ⟨hy, d, rfl, hd, hA, hF⟩ := hrel
          have m0 := hy.cell k0
          have m1 := hy.cell k1
          have m2 := hy.cell k2
          have m3 := hy.cell k3
          have hbz : w.heap.size < wr.heap.size := World.block_lt_of_cell? _ _ m0
          by_cases hlt : d < c.doms.length
          · have i1 : (d : Int) < c.doms.length := by omega
            have hdl : d < lv.length := by have := H2.out; omega
            obtain ⟨b', o', e', a0⟩ := (HL.out.ext (X.trans hy)).at d hdl
            injection e' with e'
            injection e' with e1 e2
            subst e1 e2
            simp only [Nat.mul_one] at a0
            have hlv : Hid (at0 lv ((d : Nat) : Int).toNat = lv[d]) := hid (by rw [Int.toNat_natCast, at0_get hdl])
            have hob := World.block_lt_of_cell? _ _ a0
            have n0 := more_cell m0
            have n1 := more_cell m1
            have n2 := more_cell m2
            have n3 := more_cell m3
            have n4 := more_cell a0
            have VC := hid (HC.out.ext (X.trans hy))
            obtain ⟨lf, hlf⟩ : ∃ lf, amtN c d lv[d] = lf := ⟨_, rfl⟩
            have hlb := amtN_bounds c d lv[d]
            rw [hlf] at hlb
            obtain ⟨hl0', hl9⟩ := hlb
            have HLF : Hid (amtN c d (at0 lv ((d : Nat) : Int).toNat) = lf) := hid (by rw [hlv.out, hlf])
            have HAM : Hid (∀ u, Ext wr u → Calls Try.prog 12 #[confV c (.slice pp c.plans.length cp) (.slice pd c.doms.length cd), .int .i64 d, .int .i64 lv[d]] u (Yields u (.int .i64 lf))) := hid fun u hu => by
              have := ramount_any (VC.out.ext hu) HR.out d lv[d]
              rwa [hlf] at this
            clear hlf hlv
            generalize lv[d] = x at *
            go_wp2
            ((first | refine wp_region_more (by kernel_rfl) (by kernel_rfl) ?_ | refine wp_region_ext (by kernel_rfl) (by kernel_rfl) ?_); (try dsimp only [append_cons', append_nil']); (repeat (go_big_quiet_step ((go_at_call 12; with_reducible refine Calls.more_of (HAM.out _ (ext_more _ _)))))); refine wpQuiet_nil ?_; rintro _ ⟨pq, rfl⟩)
            have xq := ext_more wr pq
            have hA2 := hid (hA.out.ext xq)
            have hF2 := hid (hF.out.ext xq)
            have hy2 := hy.trans xq
            clear hA hF n0 n1 n2 n3 n4 m0 m1 m2 m3 a0 hob hbz hy xq VC HAM
            generalize more wr pq = w3 at *
            go_wp2
            go_loopw [12, 13] (fun v12 v13 wy => Ext W wy ∧ ∃ (m : Nat) (j left : Int), v12 = .int .i64 left ∧ v13 = .int .i64 j ∧ m ≤ own.length ∧ j ≤ (m : Int) - 1 ∧ (m : Int) - 1 ≤ j ∧ 0 ≤ left ∧ left ≤ 64 ∧ Hid (left = amtN c d (at0 lv ((d : Nat) : Int).toNat) - (cntTo own d own.length - cntTo own d m)) ∧ Hid (Rw1 W.heap.size 3 g1 c1 ((stL own (outAt c own lv) (at0 own) d m).map iV) wy) ∧ Hid (Rw1 W.heap.size 3 g2 own.length ((stL own (freedAt c own lv) (fun _ => -1) d m).map iV) wy)) (fun _ v13 _ => (intOf v13 + 1).toNat)
            case atStart => exact ⟨hy2, own.length, _, lf, rfl, rfl, Nat.le_refl _, by omega, by omega, hl0', hl9, hid (by rw [HLF.out]; omega), hA2, hF2⟩
            case round =>
              obtain ⟨hz, m, j, left, rfl, rfl, hm, hj1, hj2, hl1', hl2', hleft, hA, hF⟩ := hrel
              cases m with
              | zero =>
                obtain rfl : j = -1 := by omega
                have E1 : stL own (outAt c own lv) (at0 own) d 0 = stL own (outAt c own lv) (at0 own) ((d : Int) + 1) own.length := stL_next _ _ _
                have E2 : stL own (freedAt c own lv) (fun _ => -1) d 0 = stL own (freedAt c own lv) (fun _ => -1) ((d : Int) + 1) own.length := stL_next _ _ _
                have HE1 := hid E1
                have HE2 := hid E2
                clear E1 E2
                go_wp2
                all_goals
                  go_roundw
                  case rel => exact ⟨hz, d + 1, by go_num, by omega, hid (by rw [Int.natCast_add]; have := HE1.out; rw [Int.natCast_one, ← this]; exact hA.out), hid (by rw [Int.natCast_add]; have := HE2.out; rw [Int.natCast_one, ← this]; exact hF.out)⟩
                  case measure => simp [intOf]; omega
              | succ k =>
                obtain rfl : j = (k : Int) := by omega
                have hko : k < own.length := by omega
                by_cases hp : 0 < left
                · obtain ⟨b', o', e', a0⟩ := (HO.out.ext (X.trans hz)).at k hko
                  injection e' with e'
                  injection e' with e1 e2
                  subst e1 e2
                  simp only [Nat.mul_one] at a0
                  have hat : at0 own k = own[k] := at0_get hko
                  have hcs : cntTo own d (k + 1) = cntTo own d k + if at0 own k = (d : Int) then 1 else 0 := rfl
                  have i3 : (k : Int) < own.length := by omega
                  have i4 : (0 : Int) ≤ (k : Int) := by omega
                  by_cases hd1 : own[k] = (d : Int)
                  · have hgv := giv_yes (c := c) (lv := lv) (hat.trans hd1) hleft.out hp
                    have hfo : outAt c own lv k = c.doms[d].to := by unfold outAt; rw [if_pos hgv, hat, hd1, toOf_get hlt]
                    have hff : freedAt c own lv k = d := by unfold freedAt; rw [if_pos hgv, hat, hd1]
                    have hs1 := stL_set (outAt c own lv) (at0 own) (hat.trans hd1)
                    have hs2 := stL_set (freedAt c own lv) (fun _ => -1) (hat.trans hd1)
                    rw [hfo] at hs1
                    rw [hff] at hs2
                    have hln : Hid (left - 1 = amtN c d (at0 lv ((d : Nat) : Int).toNat) - (cntTo own d own.length - cntTo own d k)) := hid (by
                      rw [if_pos (hat.trans hd1)] at hcs
                      have := hleft.out
                      omega)
                    obtain ⟨db, doff, rfl, vr, ve, DC, -, -, -⟩ := (HC.out.ext (X.trans hz)).doms.at d hlt
                    have t4 := DC.to
                    have hA3 : Hid (∀ u, Rw1 W.heap.size 3 g1 c1 ((stL own (outAt c own lv) (at0 own) d (k + 1)).map iV) u → Rw1 W.heap.size 3 g1 c1 ((stL own (outAt c own lv) (at0 own) d k).map iV) (u.setCell ⟨g1, k, none⟩ (.int .i64 c.doms[d].to))) := hid fun u hu => by
                      rw [← hs1, List.map_set]
                      exact hu.set (by rw [List.length_map, stL_length]; exact hko) _
                    have hF3 : Hid (∀ u, Rw1 W.heap.size 3 g2 own.length ((stL own (freedAt c own lv) (fun _ => -1) d (k + 1)).map iV) u → Rw1 W.heap.size 3 g2 own.length ((stL own (freedAt c own lv) (fun _ => -1) d k).map iV) (u.setCell ⟨g2, k, none⟩ (.int .i64 d))) := hid fun u hu => by
                      rw [← hs2, List.map_set]
                      exact hu.set (by rw [List.length_map, stL_length]; exact hko) _
                    obtain ⟨-, q2, -, q4⟩ := hA.out.blk
                    obtain ⟨-, r2, -, r4⟩ := hF.out.blk
                    obtain ⟨y1, y2⟩ := q4 k (by rw [List.length_map, stL_length]; exact hko)
                    obtain ⟨z1, z2⟩ := r4 k (by rw [List.length_map, stL_length]; exact hko)
                    obtain ⟨old1, y1⟩ : ∃ old, wr.cell? ⟨g1, k, none⟩ = some old := ⟨_, y1⟩
                    obtain ⟨old2, z1⟩ : ∃ old, wr.cell? ⟨g2, k, none⟩ = some old := ⟨_, z1⟩
                    have m3 := hz.cell k3
                    have hdb := World.block_lt_of_cell? _ _ t4
                    have hbx := World.block_lt_of_cell? _ _ m3
                    clear hs1 hs2 hfo hff hgv hat hcs DC q4 r4
                    generalize c.doms[d].to = tz at *
                    rw [hd1] at a0
                    clear hd1
                    go_wp2
                    all_goals
                      go_roundw
                      case rel => exact ⟨ext_by, k, _, left - 1, rfl, rfl, by omega, by omega, by omega, by omega, by omega, hln, hid ((hA3.out _ hA.out).other (fun e => hgg e.symm) _ _), hid (hF3.out _ (hF.out.other hgg _ _))⟩
                      case measure => simp [intOf]
                  · have hb1 : (own[k] == (d : Int)) = false := by simpa using hd1
                    have hs1 : Hid (stL own (outAt c own lv) (at0 own) d (k + 1) = stL own (outAt c own lv) (at0 own) d k) := hid (stL_skip _ _ (by rw [hat]; exact hd1))
                    have hs2 : Hid (stL own (freedAt c own lv) (fun _ => -1) d (k + 1) = stL own (freedAt c own lv) (fun _ => -1) d k) := hid (stL_skip _ _ (by rw [hat]; exact hd1))
                    have hln : Hid (left = amtN c d (at0 lv ((d : Nat) : Int).toNat) - (cntTo own d own.length - cntTo own d k)) := hid (by
                      rw [if_neg (by rw [hat]; exact hd1)] at hcs
                      have := hleft.out
                      omega)
                    clear hat hcs hleft
                    generalize own[k] = x9 at *
                    go_wp2
                    all_goals
                      go_roundw
                      case rel => exact ⟨hz, k, _, left, rfl, rfl, by omega, by omega, by omega, by omega, by omega, hln, hid (by rw [← hs1.out]; exact hA.out), hid (by rw [← hs2.out]; exact hF.out)⟩
                      case measure => simp [intOf]
                · have hE1 : Hid (stL own (outAt c own lv) (at0 own) d (k + 1) = stL own (outAt c own lv) (at0 own) ((d : Int) + 1) own.length) := hid (by
                    rw [stL_none (m := k + 1), stL_next]
                    intro j hj h
                    have := giv_no (c := c) (lv := lv) h hj hleft.out (by omega)
                    unfold outAt; rw [this]; rfl)
                  have hE2 : Hid (stL own (freedAt c own lv) (fun _ => -1) d (k + 1) = stL own (freedAt c own lv) (fun _ => -1) ((d : Int) + 1) own.length) := hid (by
                    rw [stL_none (m := k + 1), stL_next]
                    intro j hj h
                    have := giv_no (c := c) (lv := lv) h hj hleft.out (by omega)
                    unfold freedAt; rw [this]; rfl)
                  have i4 : (0 : Int) ≤ (k : Int) := by omega
                  go_wp2
                  all_goals
                    go_roundw
                    case rel => exact ⟨hz, d + 1, by go_num, by omega, hid (by rw [Int.natCast_add]; have := hE1.out; rw [Int.natCast_one, ← this]; exact hA.out), hid (by rw [Int.natCast_add]; have := hE2.out; rw [Int.natCast_one, ← this]; exact hF.out)⟩
                    case measure => simp [intOf]; omega
          · obtain rfl : d = c.doms.length := by omega
            have hz1 : Hid (stL own (outAt c own lv) (at0 own) (c.doms.length : Nat) own.length = outL c own lv) := hid (stL_end _ _ fun x hx => (HOW.out x hx).2)
            have hz2 : Hid (stL own (freedAt c own lv) (fun _ => -1) (c.doms.length : Nat) own.length = freedL c own lv) := hid (stL_end _ _ fun x hx => (HOW.out x hx).2)
            have R1 : Hid (Ints wr (.slice (some ⟨g1, 0, none⟩) own.length c1) (outL c own lv)) := hid (by
              have := hA.out.ints
              rw [stL_length, hz1.out] at this; exact this)
            have R2 : Hid (Ints wr (.slice (some ⟨g2, 0, none⟩) own.length own.length) (freedL c own lv)) := hid (by
              have := hF.out.ints
              rw [stL_length, hz2.out] at this; exact this)
            have hxw := X.trans hy
            clear hA hF hz1 hz2 HOW
            go_wp2
            all_goals
              refine bodyPost_ret (v := .tuple #[.slice (some ⟨g1, 0, none⟩) own.length c1, .slice (some ⟨g2, 0, none⟩) own.length own.length]) (by simp [results, Try.results10, go_sem]) rfl ⟨_, _, rfl, hxw, by rw [hE.out]; exact R1.out, by rw [hE.out]; exact R2.out⟩
theorem rturn_any {c : Cnf} {pv dv vo vl : Value} {own lv : List Int} {w : World} (hc : ConfV w c pv dv) (hr : ∀ d ∈ c.doms, ∀ r ∈ d.routes, r.length ≤ 300) (hO : Ints w vo own) (hL : Ints w vl lv) :
    Calls Try.prog 10 #[confV c pv dv, vo, vl] w fun e w' => ∃ a b, e = .returned (.tuple #[a, b]) ∧ Ext w w' ∧ Ints w' a (turnL c own lv).1 ∧ Ints w' b (turnL c own lv).2 := by
  by_cases h : isConf c ≠ 0 ∨ (own.length : Int) ≠ c.frame ∨ lv.length ≠ c.doms.length
  · refine (rturn_none hc hr hO hL h).mono ?_
    rintro e w' ⟨rfl, hx⟩
    have he : turnL c own lv = ([], []) := by
      unfold turnL
      rw [if_neg]
      unfold okT
      rcases h with h | h | h
      · rw [decide_eq_false h]; simp
      · rw [decide_eq_false h]; simp
      · rw [decide_eq_false h]; simp
    rw [he]
    exact ⟨_, _, rfl, hx, nil_ints _, nil_ints _⟩
  · exact rturn_some hc hr hO hL (by omega) (by omega) (by omega)
end Go.Proofs.Ytfjhcmpcnnjodaa
