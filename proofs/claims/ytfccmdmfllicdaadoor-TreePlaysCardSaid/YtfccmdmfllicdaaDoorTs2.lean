/- All calls of a tree, whatever is asked: what they answer, and the nodes behind them. -/
import Derived.Test.YtfccmdmfllicdaaDoorPtK
namespace Go.Proofs.YtfccmdmfllicdaaDoor
open Go.RowKit
set_option linter.unusedSimpArgs false

/-- How deep a node is; 0 of none. -/
def dnU : Nat → List Nd → Int → Nat
  | 0, _, _ => 0
  | f + 1, l, id => match getU l id with
    | none => 0
    | some n => dnU f l n.par + 1
theorem dnU_of {l : List Nd} (hs : Ids l) : ∀ (f k : Nat) (id : Int), Up l k id → k < f → dnU f l id = k
  | 0, _, _, _, h => absurd h (Nat.not_lt_zero _)
  | f + 1, 0, id, hu, _ => by
    have : getU l id = none := hu
    simp only [dnU, this]
  | f + 1, k + 1, id, hu, h => by
    obtain ⟨n, hn, e, hu⟩ := hu
    have : getU l id = some n := by rw [← e]; exact getU_of hs hn
    simp only [dnU, this]
    rw [dnU_of hs f k n.par hu (by omega)]
theorem Wf.dn {l : List Nd} (h : Wf l) (id : Int) : Up l (dnU 6 l id) id ∧ dnU 6 l id ≤ 5 := by
  cases hg : getU l id with
  | none =>
    have : Up l 0 id := hg
    rw [dnU_of h.sk.ids 6 0 id this (by omega)]
    exact ⟨this, by omega⟩
  | some n =>
    obtain ⟨hn, rfl⟩ := getU_mem hg
    obtain ⟨k, h1, h2, -⟩ := h.sk.dep n hn
    rw [dnU_of h.sk.ids 6 k n.id h2 (by omega)]
    exact ⟨h2, h1⟩

def addK (l : List Nd) (parent id wt : Int) (thr : Bool) : Nat := addC l (dnU 6 l parent) parent id wt thr
def addL (l : List Nd) (parent id wt : Int) (thr : Bool) : List Nd := if addK l parent id wt thr = 0 then insT (newN l parent id wt thr) l else l
def remK (l : List Nd) (id : Int) : Nat := match getU l id with
  | none => 13
  | some n => if n.par < 0 then 13 else if (kidsU l id).isEmpty = true then 0 else 10
def remL (l : List Nd) (id : Int) : List Nd := if remK l id = 0 then delU (restU 5 l id) id else l
def rdyK (l : List Nd) (id : Int) : Nat := match getU l id with
  | none => 13
  | some n => if n.thr = true then 0 else 13
def rdyL (l : List Nd) (id : Int) (r : Bool) : List Nd := if rdyK l id = 0 then rdyU r l id else l
def wtK (l : List Nd) (id wt : Int) : Nat := if isW wt = false then 10 else match getU l id with
  | none => 13
  | some n => if n.par < 0 then 13 else 0
def parU (l : List Nd) (id : Int) : Int := match getU l id with
  | none => -1
  | some n => n.par
def wtA (l : List Nd) (id wt : Int) : List Nd := if wtK l id wt = 0 then upd id (wtF (nowU l (parU l id)) wt) l else l
def runK (l : List Nd) : Int × Bool := match runU 6 l 0 with
  | none => (0, false)
  | some R => (R.1, true)
def runL (l : List Nd) : List Nd := match runU 6 l 0 with
  | none => l
  | some R => upR 6 R.2 R.1

section
variable {w0 w : World} {x : Nat} {l : List Nd} {fr : List (Nat × Obj)}
theorem errV_zero : errV 0 = .nilIface := rfl
theorem ts_addX (h : TSt w0 x l fr w) (hw : Wf l) (parent id wt : Int) (thr : Bool) :
    Calls Tryd.prog 8 #[.pointer (some ⟨x, 0, none⟩), .int .i64 parent, .int .i64 id, .int .i64 wt, .bool thr] w fun e w' => e = .returned (errV (addK l parent id wt thr)) ∧ TSt w0 x (addL l parent id wt thr) fr w' := by
  obtain ⟨hu, hd⟩ := hw.dn parent
  by_cases hk : addK l parent id wt thr = 0
  · rw [hk, errV_zero, addL, if_pos hk]
    exact ts_add h hw _ parent id wt thr (by omega) hu hk
  · rw [addL, if_neg hk]
    exact ts_adde h hw _ parent id wt thr (by omega) hu rfl hk
theorem Wf.addL (hw : Wf l) (parent id wt : Int) (thr : Bool) : Wf (addL l parent id wt thr) := by
  unfold Go.Proofs.YtfccmdmfllicdaaDoor.addL
  split
  · exact hw.add ‹_› (hw.dn parent).1
  · exact hw
theorem ts_rdyX (h : TSt w0 x l fr w) (hw : Wf l) (id : Int) (r : Bool) :
    Calls Tryd.prog 12 #[.pointer (some ⟨x, 0, none⟩), .int .i64 id, .bool r] w fun e w' => e = .returned (errV (rdyK l id)) ∧ TSt w0 x (rdyL l id r) fr w' := by
  cases hg : getU l id with
  | none =>
    have hk : rdyK l id = 13 := by simp [rdyK, hg]
    rw [rdyL, hk, if_neg (by decide)]
    exact ts_readye h hw id r fun n hn => by rw [hg] at hn; cases hn
  | some n =>
    obtain ⟨hn, hi⟩ := getU_mem hg
    cases ht : n.thr with
    | false =>
      have hk : rdyK l id = 13 := by simp [rdyK, hg, ht]
      rw [rdyL, hk, if_neg (by decide)]
      exact ts_readye h hw id r fun m hm => by rw [hg] at hm; obtain rfl := Option.some.inj hm; exact ht
    | true =>
      have hk : rdyK l id = 0 := by simp [rdyK, hg, ht]
      rw [rdyL, hk, if_pos rfl, errV_zero]
      exact ts_readyI h hw hn ht r hi
theorem Wf.rdyL (hw : Wf l) (id : Int) (r : Bool) : Wf (rdyL l id r) := by
  unfold Go.Proofs.YtfccmdmfllicdaaDoor.rdyL
  split
  · rename_i hk
    unfold rdyK at hk
    split at hk
    · cases hk
    · rename_i n hg
      obtain ⟨hn, rfl⟩ := getU_mem hg
      split at hk
      · exact hw.rdyU hn ‹_› r
      · cases hk
  · exact hw
theorem ts_wtX (h : TSt w0 x l fr w) (hw : Wf l) (id wt : Int) :
    Calls Tryd.prog 14 #[.pointer (some ⟨x, 0, none⟩), .int .i64 id, .int .i64 wt] w fun e w' => e = .returned (errV (wtK l id wt)) ∧ TSt w0 x (wtA l id wt) fr w' := by
  cases hi : isW wt with
  | false =>
    have hk : wtK l id wt = 10 := by simp [wtK, hi]
    rw [wtA, hk, if_neg (by decide)]
    exact ts_weight10 h hw id wt hi
  | true =>
    cases hg : getU l id with
    | none =>
      have hk : wtK l id wt = 13 := by simp [wtK, hi, hg]
      rw [wtA, hk, if_neg (by decide)]
      exact ts_weight13 h hw id wt hi fun n hn => by rw [hg] at hn; cases hn
    | some n =>
      by_cases h0 : n.par < 0
      · have hk : wtK l id wt = 13 := by simp [wtK, hi, hg, h0]
        rw [wtA, hk, if_neg (by decide)]
        exact ts_weight13 h hw id wt hi fun m hm => by rw [hg] at hm; obtain rfl := Option.some.inj hm; exact h0
      · have hk : wtK l id wt = 0 := by simp [wtK, hi, hg, h0]
        obtain ⟨hn, hid⟩ := getU_mem hg
        obtain ⟨p, hp, he, -⟩ := (hw.sk.clo n hn).2.2 (by omega)
        have hpn : nowU l (parU l id) = p.now := by
          have : parU l id = n.par := by simp [parU, hg]
          rw [this, ← he]; exact nowU_of hw.sk.ids hp
        rw [wtA, hk, if_pos rfl, errV_zero, hpn]
        exact ts_weightI h hw wt hi hn (by omega) hp he hid
theorem Wf.wtA (hw : Wf l) (id wt : Int) : Wf (wtA l id wt) := by
  unfold Go.Proofs.YtfccmdmfllicdaaDoor.wtA
  split
  · rename_i hk
    unfold wtK at hk
    split at hk
    · cases hk
    · rename_i hi
      split at hk
      · cases hk
      · rename_i n hg
        obtain ⟨hn, hid⟩ := getU_mem hg
        split at hk
        · cases hk
        · obtain ⟨p, hp, he, -⟩ := (hw.sk.clo n hn).2.2 (by omega)
          have hpn : nowU l (parU l id) = p.now := by
            have : parU l id = n.par := by simp [parU, hg]
            rw [this, ← he]; exact nowU_of hw.sk.ids hp
          rw [hpn, ← hid]
          exact hw.weight hn (by omega) hp he (by simpa using hi)
  · exact hw
theorem Wf.run_none (hw : Wf l) {r : Nd} (hr : r ∈ l) (hr0 : r.id = 0) (hrd : r.rdy = false) : runU 6 l 0 = none := by
  have hrt : r.thr = false := by
    obtain ⟨q, hq, e1, -, e3⟩ := hw.root
    rw [uniqU hw.sk.ids hr hq (hr0.trans e1.symm)]; exact e3
  have hb : bestU l r.id = none := by rw [bestU_none, ← hw.rd r hr hrt]; exact hrd
  rw [← hr0]
  exact runU_none hw.sk.ids hr hrt hb
theorem ts_runX (h : TSt w0 x l fr w) (hw : Wf l) :
    Calls Tryd.prog 16 #[.pointer (some ⟨x, 0, none⟩)] w fun e w' => e = .returned (.tuple #[.int .i64 (runK l).1, .bool (runK l).2]) ∧ TSt w0 x (runL l) fr w' := by
  obtain ⟨r, hr, hr0, -, -⟩ := hw.root
  cases hrd : r.rdy with
  | false =>
    have hn := hw.run_none hr hr0 hrd
    have h1 : runK l = (0, false) := by simp [runK, hn]
    have h2 : runL l = l := by simp [runL, hn]
    rw [h1, h2]
    exact ts_idle h hw hr hr0 hrd
  | true =>
    obtain ⟨R, hR, -, -⟩ := hw.run hr hr0 hrd
    have h1 : runK l = (R.1, true) := by simp [runK, hR]
    have h2 : runL l = upR 6 R.2 R.1 := by simp [runL, hR]
    rw [h1, h2]
    exact ts_run h hw hr hr0 hrd hR
theorem Wf.runL (hw : Wf l) : Wf (runL l) := by
  obtain ⟨r, hr, hr0, -, -⟩ := hw.root
  cases hrd : r.rdy with
  | false =>
    have hn := hw.run_none hr hr0 hrd
    have h2 : Go.Proofs.YtfccmdmfllicdaaDoor.runL l = l := by simp [Go.Proofs.YtfccmdmfllicdaaDoor.runL, hn]
    rw [h2]; exact hw
  | true =>
    obtain ⟨R, hR, h3, -⟩ := hw.run hr hr0 hrd
    have h2 : Go.Proofs.YtfccmdmfllicdaaDoor.runL l = upR 6 R.2 R.1 := by simp [Go.Proofs.YtfccmdmfllicdaaDoor.runL, hR]
    rw [h2]; exact h3
/-- A node made not ready, whether a thread or a group that has nothing in it. -/
theorem Wf.rested (hw : Wf l) {n : Nd} (hn : n ∈ l) (h0 : 0 ≤ n.par) (hk : ∀ m ∈ l, m.par ≠ n.id) : Wf (restU 5 l n.id) ∧ (∃ n1 ∈ restU 5 l n.id, n1.id = n.id ∧ n1.par = n.par ∧ n1.rdy = false) ∧ ∀ m ∈ restU 5 l n.id, m.par ≠ n.id := by
  have hsim := rest_sim 5 l n.id
  have hkids : ∀ m ∈ restU 5 l n.id, m.par ≠ n.id := fun m hm => by
    obtain ⟨m0, hm0, ek⟩ := hsim.back hm
    obtain ⟨-, k2, -⟩ := keyS_eq ek
    rw [← k2]; exact hk m0 hm0
  cases ht : n.thr with
  | true => exact ⟨hw.rest hn ht, ⟨offF n, rest_self (f := 4) hw.sk.ids hw.sk.clo hn ht h0, rfl, rfl, rfl⟩, hkids⟩
  | false =>
    have hr : n.rdy = false := by
      rw [hw.rd n hn ht, someT_not]
      exact fun m hm hp => absurd hp (hk m hm)
    rw [restU_no hw.sk.ids hn hr] at hkids ⊢
    exact ⟨hw, ⟨n, hn, rfl, rfl, hr⟩, hkids⟩
theorem Wf.remL (hw : Wf l) (id : Int) : Wf (remL l id) := by
  unfold Go.Proofs.YtfccmdmfllicdaaDoor.remL
  split
  · rename_i hk
    unfold remK at hk
    split at hk
    · cases hk
    · rename_i n hg
      obtain ⟨hn, rfl⟩ := getU_mem hg
      split at hk
      · cases hk
      · split at hk
        · rename_i h0 he
          have hkn := kids_nil.1 (List.isEmpty_iff.1 he)
          obtain ⟨h1, ⟨n1, hn1, e1, e2, e3⟩, h3⟩ := hw.rested hn (by omega) hkn
          have := h1.remove hn1 (by omega) e3 (by rw [e1]; exact h3)
          rwa [e1] at this
        · cases hk
  · exact hw
theorem ts_remX (h : TSt w0 x l fr w) (hw : Wf l) (id : Int) :
    Calls Tryd.prog 10 #[.pointer (some ⟨x, 0, none⟩), .int .i64 id] w fun e w' => e = .returned (errV (remK l id)) ∧ TSt w0 x (remL l id) fr w' := by
  cases hg : getU l id with
  | none =>
    have hk : remK l id = 13 := by simp [remK, hg]
    rw [remL, hk, if_neg (by decide)]
    exact ts_remove13 h hw id fun n hn => by rw [hg] at hn; cases hn
  | some n =>
    by_cases h0 : n.par < 0
    · have hk : remK l id = 13 := by simp [remK, hg, h0]
      rw [remL, hk, if_neg (by decide)]
      exact ts_remove13 h hw id fun m hm => by rw [hg] at hm; obtain rfl := Option.some.inj hm; exact h0
    · obtain ⟨hn, rfl⟩ := getU_mem hg
      by_cases he : (kidsU l n.id).isEmpty = true
      · have hk : remK l n.id = 0 := by simp only [remK, hg]; rw [if_neg h0, if_pos he]
        have hnil := List.isEmpty_iff.1 he
        have hkn := kids_nil.1 hnil
        obtain ⟨h1, ⟨n1, hn1, e1, e2, e3⟩, h3⟩ := hw.rested hn (by omega) hkn
        rw [remL, hk, if_pos rfl, errV_zero]
        obtain ⟨W, k1, k2, k3, k4⟩ := h
        exact (removeP_ok (hw.tok k1 k2) hn (by omega) hnil 5 (hw.sk.chain hn) h1.sk.ids ⟨n1, hn1, e1, e3⟩ (rest_sim 5 l n.id).len h1.sk.len).mono fun _ _ ⟨a, W', b, c, d⟩ => ⟨a, TSt.go k1 k3 k4 b c d⟩
      · have hk : remK l n.id = 10 := by simp only [remK, hg]; rw [if_neg h0, if_neg he]
        rw [remL, hk, if_neg (by decide)]
        have hs := h
        obtain ⟨W, k1, k2, k3, k4⟩ := h
        exact (removeP_10 (hw.tok k1 k2) hn (by omega) fun e => he (by rw [e]; rfl)).mono fun _ _ ⟨a, b⟩ => ⟨a, hs.ext b⟩
theorem ts_deepX (h : TSt w0 x l fr w) (hw : Wf l) (id : Int) :
    Calls Tryd.prog 21 #[.pointer (some ⟨x, 0, none⟩), .int .i64 id] w fun e w' => e = .returned (.int .i64 (dnU 6 l id)) ∧ TSt w0 x l fr w' :=
  ts_deep h hw id _ (by have := (hw.dn id).2; omega) (hw.dn id).1
end

/-! ### Steps as they come in -/
structure Ste where
  what : Int
  id : Int
  a : Int
  b : Int
  thr : Bool
def stepL (l : List Nd) (s : Ste) : List Nd := if s.what ≤ 1 then addL l s.a s.id s.b s.thr else if s.what = 2 then remL l s.id else if s.what ≤ 4 then rdyL l s.id s.thr else if s.what = 5 then wtA l s.id s.b else runL l
theorem Wf.stepL {l : List Nd} (hw : Wf l) (s : Ste) : Wf (stepL l s) := by
  unfold Go.Proofs.YtfccmdmfllicdaaDoor.stepL
  split
  · exact hw.addL _ _ _ _
  · split
    · exact hw.remL _
    · split
      · exact hw.rdyL _ _
      · split
        · exact hw.wtA _ _
        · exact hw.runL
theorem Wf.ne {l : List Nd} (hw : Wf l) : l ≠ [] := fun e => by
  obtain ⟨r, hr, -⟩ := hw.root
  rw [e] at hr; cases hr
end Go.Proofs.YtfccmdmfllicdaaDoor
