/- What the statements of package tree count: threads beside the one that is called for stay; who is in the root goes on by his stride, and all in it are counted anew alike. -/
import Derived.Test.YtfccmdmfllicdaaDoorTs
namespace Go.Proofs.YtfccmdmfllicdaaDoor
open Go.RowKit

theorem addC_zero {l : List Nd} {dn : Nat} {parent id wt : Int} {thr : Bool} (hw : isW wt = true) (hi : 0 < id) (hs : Ids l) {p : Nd} (hp : p ∈ l) (hpe : p.id = parent) (hpt : p.thr = false) (hn : getU l id = none) (hd : thr = false → dn < 4) (hl : l.length < 60) : addC l dn parent id wt thr = 0 := by
  have hg : grpU l parent = true := by rw [← hpe]; simp [grpU, getU_of hs hp, hpt]
  unfold addC
  rw [if_neg (by rw [hw]; simp; omega), if_neg (by rw [hg]; simp), if_neg (by simp [hasU, hn]), if_neg (fun h => by have := hd h.1; omega), if_neg (by omega)]
theorem addC_full {l : List Nd} {dn : Nat} {parent id wt : Int} {thr : Bool} (hw : isW wt = true) (hi : 0 < id) (hs : Ids l) {p : Nd} (hp : p ∈ l) (hpe : p.id = parent) (hpt : p.thr = false) (hn : getU l id = none) (hd : thr = false → dn < 4) (hl : 60 ≤ l.length) : addC l dn parent id wt thr = 14 := by
  have hg : grpU l parent = true := by rw [← hpe]; simp [grpU, getU_of hs hp, hpt]
  unfold addC
  rw [if_neg (by rw [hw]; simp; omega), if_neg (by rw [hg]; simp), if_neg (by simp [hasU, hn]), if_neg (fun h => by have := hd h.1; omega), if_pos hl]
theorem addC_large {l : List Nd} {dn : Nat} {parent id wt : Int} (hw : isW wt = true) (hi : 0 < id) (hs : Ids l) {p : Nd} (hp : p ∈ l) (hpe : p.id = parent) (hpt : p.thr = false) (hn : getU l id = none) (hd : 4 ≤ dn) : addC l dn parent id wt false = 12 := by
  have hg : grpU l parent = true := by rw [← hpe]; simp [grpU, getU_of hs hp, hpt]
  unfold addC
  rw [if_neg (by rw [hw]; simp; omega), if_neg (by rw [hg]; simp), if_neg (by simp [hasU, hn]), if_pos ⟨rfl, hd⟩]
theorem addC_nobody {l : List Nd} {dn : Nat} {parent id wt : Int} {thr : Bool} (hw : isW wt = true) (hi : 0 < id) (hn : getU l parent = none) : addC l dn parent id wt thr = 13 := by
  unfold addC
  rw [if_neg (by rw [hw]; simp; omega), if_pos (by simp [grpU, hn])]
theorem Wf.root {l : List Nd} (h : Wf l) : ∃ r ∈ l, r.id = 0 ∧ r.par = -1 ∧ r.thr = false := by
  obtain ⟨r, hr, e1, e2⟩ := h.sk.root
  exact ⟨r, hr, e1, e2, (h.sk.clo r hr).2.1 (by omega)⟩
theorem Wf.up0 {l : List Nd} (h : Wf l) : Up l 1 0 := by
  obtain ⟨r, hr, e1, e2, -⟩ := h.root
  refine ⟨r, hr, e1, ?_⟩
  show getU l r.par = none
  rw [e2, getU_none]
  intro n hn e
  have := (h.sk.clo n hn).1
  omega
/-- A thread that is ready makes all above it so. -/
theorem Wf.rootRdy {l : List Nd} (h : Wf l) : ∀ (k : Nat) {t : Nd}, t ∈ l → t.rdy = true → Chain l k t.id → ∃ r ∈ l, r.id = 0 ∧ r.rdy = true
  | 0, _, _, _, hc => hc.elim
  | k + 1, t, ht, hr, hc => by
    by_cases h0 : t.par < 0
    · exact ⟨t, ht, (h.sk.only t ht h0).1, hr⟩
    · obtain ⟨p, hp, he, hpt⟩ := (h.sk.clo t ht).2.2 (by omega)
      have hpr : p.rdy = true := by
        rw [h.rd p hp hpt, someT_iff]; exact ⟨t, ht, he.symm, hr⟩
      have hcp : Chain l k p.id := by
        obtain ⟨m, hm, e, hc⟩ := hc
        rw [uniqU h.sk.ids hm ht e] at hc
        rw [he]; exact hc.resolve_left h0
      exact Wf.rootRdy h k hp hpr hcp
theorem Wf.ready {l : List Nd} (h : Wf l) {t : Nd} (ht : t ∈ l) (hr : t.rdy = true) : ∃ r ∈ l, r.id = 0 ∧ r.rdy = true := h.rootRdy 5 ht hr (h.sk.chain ht)

/-! ### Waking and resting: other threads stay, all times stay -/
theorem wake_keep : ∀ (f : Nat) {l : List Nd} {id : Int} {m : Nd}, Ids l → Clo l → m ∈ l → m.thr = true → m.id ≠ id → m ∈ wakeU f l id
  | 0, _, _, _, _, _, h, _, _ => h
  | f + 1, l, id, m, hs, hc, hm, ht, hne => by
    cases hg : getU l id with
    | none => simp only [wakeU, hg]; exact hm
    | some n =>
      obtain ⟨hn, rfl⟩ := getU_mem hg
      by_cases hr : n.rdy = true
      · rw [wakeU_rdy hs hn hr]; exact hm
      · by_cases h0 : n.par < 0
        · rw [wakeU_top hs hn h0]; exact mem_upd_same hm hne
        · obtain ⟨p, hp, he, hpt⟩ := (hc n hn).2.2 (by omega)
          rw [wakeU_on hs hn (by simpa using hr) (by omega) hp he]
          refine wake_keep f (ids_upd (fun _ => rfl) hs) (hc.upd (rdyF_same _)) (mem_upd_same hm hne) ht fun e => ?_
          rw [uniqU hs hm hp e, hpt] at ht; cases ht
theorem rest_keep : ∀ (f : Nat) {l : List Nd} {id : Int} {m : Nd}, Ids l → Clo l → m ∈ l → m.thr = true → m.id ≠ id → m ∈ restU f l id
  | 0, _, _, _, _, _, h, _, _ => h
  | f + 1, l, id, m, hs, hc, hm, ht, hne => by
    cases hg : getU l id with
    | none => simp only [restU, hg]; exact hm
    | some n =>
      obtain ⟨hn, rfl⟩ := getU_mem hg
      by_cases hr : n.rdy = true
      · by_cases h0 : n.par < 0
        · rw [restU_top hs hn h0]; exact mem_upd_same hm hne
        · cases hst : someT (upd n.id offF l) n.par with
          | true => rw [restU_stop hs hn hr hst]; exact mem_upd_same hm hne
          | false =>
            rw [restU_on hs hn hr (by omega) hst]
            obtain ⟨p, hp, he, hpt⟩ := (hc n hn).2.2 (by omega)
            refine rest_keep f (ids_upd (fun _ => rfl) hs) (hc.upd offF_same) (mem_upd_same hm hne) ht fun e => ?_
            rw [uniqU hs hm hp (e.trans he.symm), hpt] at ht; cases ht
      · rw [restU_no hs hn (by simpa using hr)]; exact hm
/-- All that is there behind it was there before: ids, groups, weights; times are as they were. -/
def Like (l l' : List Nd) : Prop := ∀ m' ∈ l', ∃ m ∈ l, m'.id = m.id ∧ m'.par = m.par ∧ m'.thr = m.thr ∧ m'.wt = m.wt
theorem Like.refl (l : List Nd) : Like l l := fun m hm => ⟨m, hm, rfl, rfl, rfl, rfl⟩
theorem Like.trans {a b c : List Nd} (h : Like a b) (k : Like b c) : Like a c := fun m hm => by
  obtain ⟨n, hn, e1, e2, e3, e4⟩ := k m hm
  obtain ⟨q, hq, f1, f2, f3, f4⟩ := h n hn
  exact ⟨q, hq, e1.trans f1, e2.trans f2, e3.trans f3, e4.trans f4⟩
theorem Like.map (l : List Nd) {f : Nd → Nd} (hf : ∀ m, (f m).id = m.id ∧ (f m).par = m.par ∧ (f m).thr = m.thr ∧ (f m).wt = m.wt) : Like l (l.map f) := fun m' hm' => by
  obtain ⟨m, hm, rfl⟩ := List.mem_map.1 hm'
  exact ⟨m, hm, hf m⟩
theorem Like.upd (l : List Nd) (id : Int) {f : Nd → Nd} (hf : ∀ m, (f m).id = m.id ∧ (f m).par = m.par ∧ (f m).thr = m.thr ∧ (f m).wt = m.wt) : Like l (upd id f l) := Like.map l fun m => by
  split
  · exact hf m
  · exact ⟨rfl, rfl, rfl, rfl⟩
theorem wake_like : ∀ (f : Nat) (l : List Nd) (id : Int), Like l (wakeU f l id)
  | 0, l, _ => Like.refl l
  | f + 1, l, id => by
    simp only [wakeU]
    split
    · exact Like.refl l
    · split
      · exact Like.refl l
      · split
        · exact Like.upd l _ fun _ => ⟨rfl, rfl, rfl, rfl⟩
        · exact (Like.upd l _ (f := rdyF _) fun _ => ⟨rfl, rfl, rfl, rfl⟩).trans (wake_like f _ _)
theorem rest_like : ∀ (f : Nat) (l : List Nd) (id : Int), Like l (restU f l id)
  | 0, l, _ => Like.refl l
  | f + 1, l, id => by
    simp only [restU]
    split
    · exact Like.refl l
    · split
      · exact Like.refl l
      · split
        · exact Like.upd l _ fun _ => ⟨rfl, rfl, rfl, rfl⟩
        · exact (Like.upd l _ (f := offF) fun _ => ⟨rfl, rfl, rfl, rfl⟩).trans (rest_like f _ _)
theorem rdyU_like (r : Bool) (l : List Nd) (id : Int) : Like l (rdyU r l id) := by
  unfold rdyU; split
  · exact wake_like _ _ _
  · exact rest_like _ _ _
theorem run_like : ∀ (f : Nat) {l : List Nd} {id : Int} {R : Int × List Nd}, runU f l id = some R → Like l R.2
  | 0, _, _, _, h => by cases h
  | f + 1, l, id, R, h => by
    simp only [runU] at h
    split at h
    · cases h
    · split at h
      · obtain rfl := Option.some.inj h; exact Like.refl l
      · split at h
        · cases h
        · exact ((Like.upd l _ (f := nowF _) fun _ => ⟨rfl, rfl, rfl, rfl⟩).trans (Like.upd _ _ (f := goF) fun _ => ⟨rfl, rfl, rfl, rfl⟩)).trans (run_like f h)
theorem up_like : ∀ (f : Nat) (l : List Nd) (id : Int), Like l (upR f l id)
  | 0, l, _ => Like.refl l
  | f + 1, l, id => by
    simp only [upR]
    split
    · exact Like.refl l
    · split
      · exact Like.refl l
      · split
        · refine Like.trans ?_ (up_like f _ _)
          unfold rebU
          exact (Like.map l fun m => by split <;> exact ⟨rfl, rfl, rfl, rfl⟩).trans (Like.upd _ _ fun _ => ⟨rfl, rfl, rfl, rfl⟩)
        · exact up_like f _ _
/-- The thread itself. -/
theorem wake_self {f : Nat} {l : List Nd} {n p : Nd} (hs : Ids l) (hc : Clo l) (hn : n ∈ l) (ht : n.thr = true) (h0 : 0 ≤ n.par) (hp : p ∈ l) (he : p.id = n.par) (hpt : p.thr = false) (hr : n.rdy = false) : rdyF p.now n ∈ wakeU (f + 1) l n.id := by
  rw [wakeU_on hs hn hr h0 hp he]
  refine wake_keep f (ids_upd (fun _ => rfl) hs) (hc.upd (rdyF_same _)) (mem_upd.2 ⟨n, hn, by rw [if_pos rfl]⟩) ht fun e => ?_
  have e : n.id = p.id := e
  rw [uniqU hs hn hp e, hpt] at ht; cases ht
theorem rest_self {f : Nat} {l : List Nd} {n : Nd} (hs : Ids l) (hc : Clo l) (hn : n ∈ l) (ht : n.thr = true) (h0 : 0 ≤ n.par) : offF n ∈ restU (f + 1) l n.id := by
  obtain ⟨p, hp, he, hpt⟩ := (hc n hn).2.2 h0
  by_cases hr : n.rdy = true
  · cases hst : someT (upd n.id offF l) n.par with
    | true => rw [restU_stop hs hn hr hst]; exact mem_upd.2 ⟨n, hn, by rw [if_pos rfl]⟩
    | false =>
      rw [restU_on hs hn hr h0 hst]
      refine rest_keep f (ids_upd (fun _ => rfl) hs) (hc.upd offF_same) (mem_upd.2 ⟨n, hn, by rw [if_pos rfl]⟩) ht fun e => ?_
      have e : n.id = n.par := e
      rw [uniqU hs hn hp (e.trans he.symm), hpt] at ht; cases ht
  · rw [restU_no hs hn (by simpa using hr)]
    have : offF n = n := by
      have hr : n.rdy = false := by simpa using hr
      cases n
      simp only at hr
      subst hr
      rfl
    rw [this]; exact hn

/-! ### What stays as it is, both ways -/
def keyS (n : Nd) : Int × Int × Bool × Int := (n.id, n.par, n.thr, n.wt)
def keyR (n : Nd) : (Int × Int × Bool × Int) × Bool := (keyS n, n.rdy)
def SimS (l l' : List Nd) : Prop := l'.map keyS = l.map keyS
def SimR (l l' : List Nd) : Prop := l'.map keyR = l.map keyR
theorem SimS.refl (l : List Nd) : SimS l l := rfl
theorem SimR.refl (l : List Nd) : SimR l l := rfl
theorem SimS.trans {a b c : List Nd} (h : SimS a b) (k : SimS b c) : SimS a c := Eq.trans k h
theorem SimR.trans {a b c : List Nd} (h : SimR a b) (k : SimR b c) : SimR a c := Eq.trans k h
theorem SimR.s {a b : List Nd} (h : SimR a b) : SimS a b := by
  have := congrArg (List.map Prod.fst) h
  rw [List.map_map, List.map_map] at this
  exact this
theorem SimS.map (l : List Nd) {f : Nd → Nd} (hf : ∀ m, keyS (f m) = keyS m) : SimS l (l.map f) := by
  unfold SimS
  rw [List.map_map]
  exact List.map_congr_left fun m _ => hf m
theorem SimR.map (l : List Nd) {f : Nd → Nd} (hf : ∀ m, keyR (f m) = keyR m) : SimR l (l.map f) := by
  unfold SimR
  rw [List.map_map]
  exact List.map_congr_left fun m _ => hf m
theorem SimS.upd (l : List Nd) (id : Int) {f : Nd → Nd} (hf : ∀ m, keyS (f m) = keyS m) : SimS l (upd id f l) := SimS.map l fun m => by
  split
  · exact hf m
  · rfl
theorem SimR.upd (l : List Nd) (id : Int) {f : Nd → Nd} (hf : ∀ m, keyR (f m) = keyR m) : SimR l (upd id f l) := SimR.map l fun m => by
  split
  · exact hf m
  · rfl
theorem SimS.back {l l' : List Nd} (h : SimS l l') {m' : Nd} (hm : m' ∈ l') : ∃ m ∈ l, keyS m = keyS m' := by
  have : keyS m' ∈ l.map keyS := by rw [← h]; exact List.mem_map.2 ⟨m', hm, rfl⟩
  exact List.mem_map.1 this
theorem SimS.fwd {l l' : List Nd} (h : SimS l l') {m : Nd} (hm : m ∈ l) : ∃ m' ∈ l', keyS m' = keyS m := by
  have : keyS m ∈ l'.map keyS := by rw [h]; exact List.mem_map.2 ⟨m, hm, rfl⟩
  exact List.mem_map.1 this
theorem SimR.back {l l' : List Nd} (h : SimR l l') {m' : Nd} (hm : m' ∈ l') : ∃ m ∈ l, keyR m = keyR m' := by
  have : keyR m' ∈ l.map keyR := by rw [← h]; exact List.mem_map.2 ⟨m', hm, rfl⟩
  exact List.mem_map.1 this
theorem SimR.fwd {l l' : List Nd} (h : SimR l l') {m : Nd} (hm : m ∈ l) : ∃ m' ∈ l', keyR m' = keyR m := by
  have : keyR m ∈ l'.map keyR := by rw [h]; exact List.mem_map.2 ⟨m, hm, rfl⟩
  exact List.mem_map.1 this
theorem SimS.len {l l' : List Nd} (h : SimS l l') : l'.length = l.length := by
  have := congrArg List.length h
  simpa using this
theorem keyS_eq {a b : Nd} (h : keyS a = keyS b) : a.id = b.id ∧ a.par = b.par ∧ a.thr = b.thr ∧ a.wt = b.wt := by
  simp only [keyS, Prod.mk.injEq] at h
  exact h
theorem keyR_eq {a b : Nd} (h : keyR a = keyR b) : a.id = b.id ∧ a.par = b.par ∧ a.thr = b.thr ∧ a.wt = b.wt ∧ a.rdy = b.rdy := by
  simp only [keyR, Prod.mk.injEq] at h
  obtain ⟨h1, h2, h3, h4⟩ := keyS_eq h.1
  exact ⟨h1, h2, h3, h4, h.2⟩
theorem wake_sim : ∀ (f : Nat) (l : List Nd) (id : Int), SimS l (wakeU f l id)
  | 0, l, _ => SimS.refl l
  | f + 1, l, id => by
    simp only [wakeU]
    split
    · exact SimS.refl l
    · split
      · exact SimS.refl l
      · split
        · exact SimS.upd l _ fun _ => rfl
        · exact (SimS.upd l _ (f := rdyF _) fun _ => rfl).trans (wake_sim f _ _)
theorem rest_sim : ∀ (f : Nat) (l : List Nd) (id : Int), SimS l (restU f l id)
  | 0, l, _ => SimS.refl l
  | f + 1, l, id => by
    simp only [restU]
    split
    · exact SimS.refl l
    · split
      · exact SimS.refl l
      · split
        · exact SimS.upd l _ fun _ => rfl
        · exact (SimS.upd l _ (f := offF) fun _ => rfl).trans (rest_sim f _ _)
theorem rdyU_sim (r : Bool) (l : List Nd) (id : Int) : SimS l (rdyU r l id) := by
  unfold rdyU; split
  · exact wake_sim _ _ _
  · exact rest_sim _ _ _
theorem run_sim : ∀ (f : Nat) {l : List Nd} {id : Int} {R : Int × List Nd}, runU f l id = some R → SimR l R.2
  | 0, _, _, _, h => by cases h
  | f + 1, l, id, R, h => by
    simp only [runU] at h
    split at h
    · cases h
    · split at h
      · obtain rfl := Option.some.inj h; exact SimR.refl l
      · split at h
        · cases h
        · exact ((SimR.upd l _ (f := nowF _) fun _ => rfl).trans (SimR.upd _ _ (f := goF) fun _ => rfl)).trans (run_sim f h)
theorem reb_sim (l : List Nd) (g : Int) : SimR l (rebU l g) := by
  unfold rebU
  exact (SimR.map l fun m => by split <;> rfl).trans (SimR.upd _ _ (f := nowF 0) fun _ => rfl)
theorem up_sim : ∀ (f : Nat) (l : List Nd) (id : Int), SimR l (upR f l id)
  | 0, l, _ => SimR.refl l
  | f + 1, l, id => by
    simp only [upR]
    split
    · exact SimR.refl l
    · split
      · exact SimR.refl l
      · split
        · exact (reb_sim l _).trans (up_sim f _ _)
        · exact up_sim f _ _
/-- What a quantum comes to. -/
theorem Wf.quantum {l : List Nd} (h : Wf l) {t : Nd} (ht : t ∈ l) (hr : t.rdy = true) : ∃ r R, r ∈ l ∧ r.id = 0 ∧ r.rdy = true ∧ runU 6 l 0 = some R ∧ Wf (upR 6 R.2 R.1) ∧ SimR l (upR 6 R.2 R.1) ∧ ∃ m ∈ l, m.id = R.1 ∧ m.thr = true ∧ m.rdy = true := by
  obtain ⟨r, hr1, hr2, hr3⟩ := h.ready ht hr
  obtain ⟨R, h1, h2, m, hm, e1, e2, e3⟩ := h.run hr1 hr2 hr3
  have hs := run_sim 6 h1
  obtain ⟨m0, hm0, ek⟩ := hs.back hm
  obtain ⟨k1, k2, k3, k4, k5⟩ := keyR_eq ek
  exact ⟨r, R, hr1, hr2, hr3, h1, h2, hs.trans (up_sim 6 R.2 R.1), m0, hm0, k1.trans e1, k3.trans e2, k5.trans e3⟩
/-- None ready, the root isn't. -/
theorem Wf.quiet {l : List Nd} (h : Wf l) (hn : ∀ m ∈ l, m.thr = true → m.rdy = false) : ∃ r ∈ l, r.id = 0 ∧ r.rdy = false := by
  obtain ⟨r, hr, e, -, -⟩ := h.root
  cases hrd : r.rdy with
  | false => exact ⟨r, hr, e, hrd⟩
  | true =>
    obtain ⟨_, _, _, _, _, _, _, _, m, hm, -, ht, hr'⟩ := h.quantum hr hrd
    rw [hn m hm ht] at hr'; cases hr'
end Go.Proofs.YtfccmdmfllicdaaDoor
