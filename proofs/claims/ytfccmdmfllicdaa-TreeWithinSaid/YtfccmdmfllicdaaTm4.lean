/- What a quantum does to those in the root: the one with the least pass goes on by his stride, and all of them are counted anew alike; and what fairness comes to. -/
import Derived.Test.YtfccmdmfllicdaaTm3
namespace Go.Proofs.Ytfccmdmfllicdaa
open Go.RowKit

/-- Nodes turned one by one: who they are stays; those in the root keep their passes, the root its time. -/
def Kept (l l' : List Nd) : Prop := ∃ g : Nd → Nd, l' = l.map g ∧ ∀ m ∈ l, keyR (g m) = keyR m ∧ (m.par = 0 → (g m).pass = m.pass) ∧ (m.id = 0 → (g m).now = m.now)
theorem Kept.refl (l : List Nd) : Kept l l := ⟨fun m => m, by simp, fun m _ => ⟨rfl, fun _ => rfl, fun _ => rfl⟩⟩
theorem Kept.trans {a b c : List Nd} (h : Kept a b) (k : Kept b c) : Kept a c := by
  obtain ⟨g, rfl, hg⟩ := h
  obtain ⟨f, rfl, hf⟩ := k
  refine ⟨fun m => f (g m), by rw [List.map_map]; rfl, fun m hm => ?_⟩
  obtain ⟨g1, g2, g3⟩ := hg m hm
  obtain ⟨f1, f2, f3⟩ := hf (g m) (List.mem_map.2 ⟨m, hm, rfl⟩)
  obtain ⟨k1, k2, -⟩ := keyR_eq g1
  exact ⟨f1.trans g1, fun h => (f2 (k2.trans h)).trans (g2 h), fun h => (f3 (k1.trans h)).trans (g3 h)⟩
theorem Kept.upd {l : List Nd} {id : Int} {f : Nd → Nd} (h : ∀ m ∈ l, m.id = id → keyR (f m) = keyR m ∧ (m.par = 0 → (f m).pass = m.pass) ∧ (m.id = 0 → (f m).now = m.now)) : Kept l (upd id f l) := by
  refine ⟨fun m => if m.id = id then f m else m, rfl, fun m hm => ?_⟩
  simp only
  split
  · exact h m hm ‹_›
  · exact ⟨rfl, fun _ => rfl, fun _ => rfl⟩
theorem Kept.sim {l l' : List Nd} (h : Kept l l') : SimR l l' := by
  obtain ⟨g, rfl, hg⟩ := h
  show (l.map g).map keyR = l.map keyR
  rw [List.map_map]
  exact List.map_congr_left fun m hm => (hg m hm).1
theorem SimR.ids {l l' : List Nd} (h : SimR l l') (hs : Ids l) : Ids l' := by
  have e : l'.map Nd.id = l.map Nd.id := by
    have := congrArg (List.map fun k : (Int × Int × Bool × Int) × Bool => k.1.1) h
    simpa [List.map_map, keyR, keyS, Function.comp_def] using this
  have h1 : (l.map Nd.id).Pairwise (· < ·) := List.pairwise_map.2 hs
  rw [← e] at h1
  exact List.pairwise_map.1 h1
theorem Kept.fwd {l l' : List Nd} (h : Kept l l') {m : Nd} (hm : m ∈ l) : ∃ m' ∈ l', keyR m' = keyR m ∧ (m.par = 0 → m'.pass = m.pass) ∧ (m.id = 0 → m'.now = m.now) := by
  obtain ⟨g, rfl, hg⟩ := h
  exact ⟨g m, List.mem_map.2 ⟨m, hm, rfl⟩, hg m hm⟩
/-- The root's id is its own, and it is in none. -/
def Rz (l : List Nd) : Prop := ∀ m ∈ l, 0 ≤ m.id ∧ (m.id = 0 → m.par = -1)
theorem SimR.rz {l l' : List Nd} (h : SimR l l') (hr : Rz l) : Rz l' := fun m' hm' => by
  obtain ⟨m, hm, ek⟩ := h.back hm'
  obtain ⟨k1, k2, -⟩ := keyR_eq ek
  rw [← k1, ← k2]; exact hr m hm
theorem Wf.rz {l : List Nd} (h : Wf l) : Rz l := fun m hm => ⟨(h.sk.clo m hm).1, fun h0 => by
  obtain ⟨r, hr, e1, e2⟩ := h.sk.root
  rw [uniqU h.sk.ids hm hr (h0.trans e1.symm)]; exact e2⟩

/-- Below the root, on the way down. -/
theorem run_kept : ∀ (f : Nat) {l : List Nd} {id : Int} {R : Int × List Nd}, Ids l → Rz l → 0 < id → runU f l id = some R → Kept l R.2
  | 0, _, _, _, _, _, _, h => by cases h
  | f + 1, l, id, R, hs, hz, h0, h => by
    simp only [runU] at h
    split at h
    · cases h
    · rename_i n hg
      split at h
      · obtain rfl := Option.some.inj h; exact Kept.refl l
      · split at h
        · cases h
        · rename_i b hb
          obtain ⟨b1, b2, b3, b4⟩ := bestU_spec hs hb
          have hz1 := hz b b1
          have hbz : b.id ≠ 0 := fun e => by have := hz1.2 e; omega
          have k1 : Kept l (upd id (nowF b.pass) l) := Kept.upd fun m _ e => ⟨rfl, fun _ => rfl, fun e0 => by omega⟩
          have k2 : Kept (upd id (nowF b.pass) l) (upd b.id goF (upd id (nowF b.pass) l)) := Kept.upd fun m hm e => ⟨rfl, fun hp => by
            obtain ⟨m0, hm0, rfl⟩ := mem_upd.1 hm
            rw [(ite_same (nowF_same b.pass) m0).1] at e
            rw [(ite_same (nowF_same b.pass) m0).2.1, uniqU hs hm0 b1 e] at hp
            omega, fun _ => rfl⟩
          have k := k1.trans k2
          exact k.trans (run_kept f (k.sim.ids hs) (k.sim.rz hz) (by omega) h)
/-- Who runs is the one called, or is in him. -/
theorem Abv.back {l : List Nd} {f : Nd → Nd} (hf : ∀ m ∈ l, (f m).id = m.id ∧ (f m).par = m.par) {i j : Int} (h : Abv (l.map f) i j) : Abv l i j := by
  induction h with
  | @one n hn =>
    obtain ⟨m, hm, rfl⟩ := List.mem_map.1 hn
    rw [(hf m hm).1, (hf m hm).2]; exact .one hm
  | @more n j hn _ ih =>
    obtain ⟨m, hm, rfl⟩ := List.mem_map.1 hn
    rw [(hf m hm).1]
    rw [(hf m hm).2] at ih
    exact .more hm ih
theorem Abv.trans {l : List Nd} {i j k : Int} (h : Abv l i j) (h2 : Abv l j k) : Abv l i k := by
  induction h with
  | @one n hn => exact .more hn h2
  | @more n j hn _ ih => exact .more hn (ih h2)
theorem Kept.abv {l l' : List Nd} (h : Kept l l') {i j : Int} (ha : Abv l' i j) : Abv l i j := by
  obtain ⟨g, rfl, hg⟩ := h
  exact ha.back fun m hm => by
    obtain ⟨k1, k2, -⟩ := keyR_eq (hg m hm).1
    exact ⟨k1, k2⟩
theorem run_abv : ∀ (f : Nat) {l : List Nd} {id : Int} {R : Int × List Nd}, Ids l → Rz l → 0 < id → runU f l id = some R → R.1 = id ∨ Abv l R.1 id
  | 0, _, _, _, _, _, _, h => by cases h
  | f + 1, l, id, R, hs, hz, h0, h => by
    simp only [runU] at h
    split at h
    · cases h
    · rename_i n hg
      split at h
      · obtain rfl := Option.some.inj h; exact .inl rfl
      · split at h
        · cases h
        · rename_i b hb
          obtain ⟨b1, b2, b3, b4⟩ := bestU_spec hs hb
          have hz1 := hz b b1
          have hbz : b.id ≠ 0 := fun e => by have := hz1.2 e; omega
          have k1 : Kept l (upd id (nowF b.pass) l) := Kept.upd fun m _ e => ⟨rfl, fun _ => rfl, fun e0 => by omega⟩
          have k2 : Kept (upd id (nowF b.pass) l) (upd b.id goF (upd id (nowF b.pass) l)) := Kept.upd fun m hm e => ⟨rfl, fun hp => by
            obtain ⟨m0, hm0, rfl⟩ := mem_upd.1 hm
            rw [(ite_same (nowF_same b.pass) m0).1] at e
            rw [(ite_same (nowF_same b.pass) m0).2.1, uniqU hs hm0 b1 e] at hp
            omega, fun _ => rfl⟩
          have k := k1.trans k2
          have hb0 : Abv l b.id id := by rw [← b2]; exact .one b1
          rcases run_abv f (k.sim.ids hs) (k.sim.rz hz) (by omega) h with e | e
          · rw [e]; exact .inr hb0
          · exact .inr ((k.abv e).trans hb0)

/-- Those in the root less s. -/
def Less (s : Int) (l l' : List Nd) : Prop := ∃ g : Nd → Nd, l' = l.map g ∧ ∀ m ∈ l, keyR (g m) = keyR m ∧ (m.par = 0 → 0 ≤ m.pass → (g m).pass = max 0 (m.pass - s))
theorem Kept.less {l l' l'' : List Nd} {s : Int} (h : Kept l l') (k : Less s l' l'') : Less s l l'' := by
  obtain ⟨g, rfl, hg⟩ := h
  obtain ⟨f, rfl, hf⟩ := k
  refine ⟨fun m => f (g m), by rw [List.map_map]; rfl, fun m hm => ?_⟩
  obtain ⟨g1, g2, g3⟩ := hg m hm
  obtain ⟨f1, f2⟩ := hf (g m) (List.mem_map.2 ⟨m, hm, rfl⟩)
  obtain ⟨k1, k2, -⟩ := keyR_eq g1
  exact ⟨f1.trans g1, fun h h0 => by rw [f2 (k2.trans h) (by rw [g2 h]; exact h0), g2 h]⟩
theorem Kept.less0 {l l' : List Nd} (h : Kept l l') : Less 0 l l' := by
  obtain ⟨g, rfl, hg⟩ := h
  exact ⟨g, rfl, fun m hm => ⟨(hg m hm).1, fun hp h0 => by rw [(hg m hm).2.1 hp]; omega⟩⟩
theorem Kept.nowU {l l' : List Nd} (h : Kept l l') (hs : Ids l) : nowU l' 0 = nowU l 0 := by
  cases hg : getU l 0 with
  | none =>
    have hg' : getU l' 0 = none := by
      rw [getU_none]
      intro m' hm' e
      obtain ⟨m, hm, ek⟩ := h.sim.back hm'
      exact getU_none.1 hg m hm ((keyR_eq ek).1.trans e)
    simp [Go.Proofs.Ytfccmdmfllicdaa.nowU, hg, hg']
  | some r =>
    obtain ⟨hr, hr0⟩ := getU_mem hg
    obtain ⟨r', hr', ek, -, e3⟩ := h.fwd hr
    have k1 := (keyR_eq ek).1
    have := nowU_of (h.sim.ids hs) hr'
    rw [k1, hr0] at this
    have h2 := nowU_of hs hr
    rw [hr0] at h2
    rw [this, h2]; exact e3 hr0
theorem reb_kept {l : List Nd} (hs : Ids l) {g : Int} (h0 : g ≠ 0) : Kept l (rebU l g) := by
  rw [reb_map hs]
  refine ⟨_, rfl, fun m _ => ⟨?_, fun hp => ?_, fun hp => ?_⟩⟩
  · obtain ⟨k1, k2, k3, k4, k5⟩ := rebN_same g (nowU l g) m
    simp only [keyR, keyS, k1, k2, k3, k4, k5]
  · rw [rebN_pass, if_neg (by omega)]
  · rw [rebN_now, if_neg (by omega)]
theorem reb_less {l : List Nd} (hs : Ids l) : Less (nowU l 0) l (rebU l 0) := by
  rw [reb_map hs]
  refine ⟨_, rfl, fun m _ => ⟨?_, fun hp h0 => ?_⟩⟩
  · obtain ⟨k1, k2, k3, k4, k5⟩ := rebN_same 0 (nowU l 0) m
    simp only [keyR, keyS, k1, k2, k3, k4, k5]
  · rw [rebN_pass, if_pos hp]
theorem Less.ids {s : Int} {l l' : List Nd} (h : Less s l l') (hs : Ids l) : Ids l' := by
  obtain ⟨g, rfl, hg⟩ := h
  refine SimR.ids ?_ hs
  show (l.map g).map keyR = l.map keyR
  rw [List.map_map]
  exact List.map_congr_left fun m hm => (hg m hm).1
theorem Less.rz {s : Int} {l l' : List Nd} (h : Less s l l') (hs : Rz l) : Rz l' := by
  obtain ⟨g, rfl, hg⟩ := h
  refine SimR.rz ?_ hs
  show (l.map g).map keyR = l.map keyR
  rw [List.map_map]
  exact List.map_congr_left fun m hm => (hg m hm).1
/-- On the way up those in the root are counted anew at most once, by its time. -/
theorem up_less : ∀ (f : Nat) {l : List Nd} (id : Int), Ids l → Rz l → ∃ s, (s = 0 ∨ s = nowU l 0) ∧ Less s l (upR f l id)
  | 0, l, _, _, _ => ⟨0, .inl rfl, (Kept.refl l).less0⟩
  | f + 1, l, id, hs, hz => by
    simp only [upR]
    split
    · exact ⟨0, .inl rfl, (Kept.refl l).less0⟩
    · rename_i n hg
      split
      · exact ⟨0, .inl rfl, (Kept.refl l).less0⟩
      · rename_i hp
        split
        · by_cases h0 : n.par = 0
          · rw [h0]
            have hL := reb_less hs
            have e : upR f (rebU l 0) 0 = rebU l 0 := by
              cases hg0 : getU (rebU l 0) 0 with
              | none => cases f with
                | zero => rfl
                | succ f => simp only [upR, hg0]
              | some r =>
                obtain ⟨hr, hr0⟩ := getU_mem hg0
                have := upR_top (f := f) (hL.ids hs) hr (by have := (hL.rz hz r hr).2 hr0; omega)
                rwa [hr0] at this
            rw [e]
            exact ⟨_, .inr rfl, hL⟩
          · have hk := reb_kept (l := l) hs h0
            obtain ⟨s, h1, h2⟩ := up_less f n.par (hk.sim.ids hs) (hk.sim.rz hz)
            rw [hk.nowU hs] at h1
            exact ⟨s, h1, hk.less h2⟩
        · exact up_less f n.par hs hz

/-- A quantum of the root's. -/
theorem Wf.root_quantum {l : List Nd} (h : Wf l) {r : Nd} (hr : r ∈ l) (hr0 : r.id = 0) (hrd : r.rdy = true) :
    ∃ R b s, runU 6 l 0 = some R ∧ Wf (upR 6 R.2 R.1) ∧ SimR l (upR 6 R.2 R.1) ∧ b ∈ l ∧ b.par = 0 ∧ b.rdy = true ∧ (∀ m ∈ l, m.par = 0 → m.rdy = true → b.pass ≤ m.pass) ∧ 0 ≤ s ∧
      (∀ m ∈ l, m.par = 0 → m.rdy = true → ∃ m' ∈ upR 6 R.2 R.1, keyR m' = keyR m ∧ m'.pass = (if m.id = b.id then m.pass + ofW m.wt else m.pass) - s) ∧ (R.1 = b.id ∨ Abv l R.1 b.id) ∧ (b.thr = true → R.1 = b.id) ∧ ∃ m ∈ l, m.id = R.1 ∧ m.thr = true ∧ m.rdy = true := by
  obtain ⟨R, h1, h2, m, hm, e1, e2, e3⟩ := h.run hr hr0 hrd
  have hsim := (run_sim 6 h1).trans (up_sim 6 R.2 R.1)
  have hrt : r.thr = false := (h.sk.clo r hr).2.1 (by have := (h.rz r hr).2 hr0; omega)
  obtain ⟨m0, hm0, ek⟩ := (run_sim 6 h1).back hm
  obtain ⟨k1, k2, k3, k4, k5⟩ := keyR_eq ek
  have hrun := h1
  simp only [runU] at h1
  split at h1
  · cases h1
  · rename_i n hg
    obtain ⟨hn, hn0⟩ := getU_mem hg
    have hnr : n = r := uniqU h.sk.ids hn hr (hn0.trans hr0.symm)
    rw [hnr] at h1
    rw [if_neg (by rw [hrt]; simp)] at h1
    split at h1
    · cases h1
    · rename_i b hb
      obtain ⟨b1, b2, b3, b4⟩ := bestU_spec h.sk.ids hb
      have hz1 := h.rz b b1
      have hbz : b.id ≠ 0 := fun e => by have := hz1.2 e; omega
      have hlag := h.num.lag b b1 r hr (hr0.trans b2.symm)
      have hnow := h.num.now r hr
      have hleast : ∀ m ∈ l, m.par = 0 → m.rdy = true → b.pass ≤ m.pass := fun m hm hp hrm => by
        rcases b4 m hm hp hrm with rfl | h5
        · exact Int.le_refl _
        · rw [lessB_iff] at h5; simp only at h5; omega
      -- the first step
      have hsR : SimR l (upd b.id goF (upd 0 (nowF b.pass) l)) := (SimR.upd l _ (f := nowF _) fun _ => rfl).trans (SimR.upd _ _ (f := goF) fun _ => rfl)
      have hs1 := hsR.ids h.sk.ids
      have hz2 := hsR.rz h.rz
      have hk := run_kept 5 hs1 hz2 (by omega) h1
      obtain ⟨s, hs, g, hge, hgm⟩ := up_less 6 R.1 (hk.sim.ids hs1) (hk.sim.rz hz2)
      have hn1 : nowU (upd b.id goF (upd 0 (nowF b.pass) l)) 0 = b.pass := by
        have hr1 : nowF b.pass r ∈ upd b.id goF (upd 0 (nowF b.pass) l) := mem_upd.2 ⟨nowF b.pass r, mem_upd.2 ⟨r, hr, by rw [if_pos hr0]⟩, by rw [if_neg (by show r.id ≠ b.id; omega)]⟩
        have := nowU_of hs1 hr1
        rwa [show (nowF b.pass r).id = 0 from hr0] at this
      rw [hk.nowU hs1, hn1] at hs
      refine ⟨R, b, s, hrun, h2, hsim, b1, b2, b3, hleast, by omega, fun m hm hp hrm => ?_, ?_, fun ht => ?_, m0, hm0, k1.trans e1, k3.trans e2, k5.trans e3⟩
      · have hmz : m.id ≠ 0 := fun e => by have := (h.rz m hm).2 e; omega
        have hm1 : (if m.id = b.id then goF m else m) ∈ upd b.id goF (upd 0 (nowF b.pass) l) := mem_upd.2 ⟨m, mem_upd_same hm hmz, rfl⟩
        obtain ⟨m2, hm2, ek2, ep2, -⟩ := hk.fwd hm1
        have hkm : keyR (if m.id = b.id then goF m else m) = keyR m := by split <;> rfl
        have hpm : (if m.id = b.id then goF m else m).pass = if m.id = b.id then m.pass + ofW m.wt else m.pass := by split <;> rfl
        have hp2 : m2.par = 0 := by rw [(keyR_eq (ek2.trans hkm)).2.1]; exact hp
        have hpp : m2.pass = if m.id = b.id then m.pass + ofW m.wt else m.pass := by rw [ep2 ((keyR_eq hkm).2.1.trans hp), hpm]
        have hle := hleast m hm hp hrm
        have how := ofW_bounds m.wt
        have hge0 : b.pass ≤ m2.pass := by rw [hpp]; split <;> omega
        obtain ⟨g1, g2⟩ := hgm m2 hm2
        refine ⟨g m2, by rw [hge]; exact List.mem_map.2 ⟨m2, hm2, rfl⟩, g1.trans (ek2.trans hkm), ?_⟩
        rw [g2 hp2 (by omega), ← hpp]
        omega
      · have ha := run_abv 5 hs1 hz2 (by omega) h1
        refine ha.imp id fun ha => ?_
        have ha1 : Abv (upd 0 (nowF b.pass) l) R.1 b.id := Abv.back (f := fun m => if m.id = b.id then goF m else m) (fun m _ => ⟨(ite_same goF_same m).1, (ite_same goF_same m).2.1⟩) ha
        exact Abv.back (f := fun m => if m.id = 0 then nowF b.pass m else m) (fun m _ => ⟨(ite_same (nowF_same _) m).1, (ite_same (nowF_same _) m).2.1⟩) ha1
      · have hb1 : goF b ∈ upd b.id goF (upd 0 (nowF b.pass) l) := mem_upd.2 ⟨b, mem_upd_same b1 hbz, by rw [if_pos rfl]⟩
        have := runU_thr (f := 4) hs1 hb1 (show (goF b).thr = true from ht)
        have h1' : runU 5 (upd b.id goF (upd 0 (nowF b.pass) l)) b.id = some R := h1
        rw [show (goF b).id = b.id from rfl] at this
        rw [this] at h1'
        obtain rfl := Option.some.inj h1'
        rfl

/-! ### Counting -/
/-- In the root, ready, of this weight; his pass tells how often he had it. -/
def Cnt (l : List Nd) (i wt P h B : Int) : Prop := ∃ m ∈ l, m.id = i ∧ m.par = 0 ∧ m.rdy = true ∧ m.wt = wt ∧ m.pass = P + h * ofW wt - B
theorem Cnt.step {l l' : List Nd} {b : Nd} {s : Int} (hq : ∀ m ∈ l, m.par = 0 → m.rdy = true → ∃ m' ∈ l', keyR m' = keyR m ∧ m'.pass = (if m.id = b.id then m.pass + ofW m.wt else m.pass) - s) {i wt P h B : Int} (hc : Cnt l i wt P h B) : Cnt l' i wt P (if i = b.id then h + 1 else h) (B + s) := by
  obtain ⟨m, hm, e1, e2, e3, e4, e5⟩ := hc
  obtain ⟨m', hm', ek, ep⟩ := hq m hm e2 e3
  obtain ⟨k1, k2, k3, k4, k5⟩ := keyR_eq ek
  refine ⟨m', hm', k1.trans e1, k2.trans e2, k5.trans e3, k4.trans e4, ?_⟩
  rw [ep, e1, e4, e5]
  split
  · rw [Int.add_mul]; omega
  · omega
/-- Two that are ready in one group. -/
theorem Wf.near {l : List Nd} (h : Wf l) {m n : Nd} (hm : m ∈ l) (hn : n ∈ l) (hp : m.par = n.par) (h0 : 0 ≤ m.par) (rm : m.rdy = true) (rn : n.rdy = true) : m.pass - n.pass ≤ ofW m.wt ∧ n.pass - m.pass ≤ ofW n.wt := by
  obtain ⟨p, hpl, he, -⟩ := (h.sk.clo m hm).2.2 h0
  have h1 := h.num.lag m hm p hpl he
  have h2 := h.num.lag n hn p hpl (he.trans hp)
  have h3 := h1.2.2 rm
  have h4 := h2.2.2 rn
  omega
theorem Cnt.fair {l : List Nd} (hw : Wf l) {i j a b P Q h k B : Int} (h1 : Cnt l i a P h B) (h2 : Cnt l j b Q k B) (hPQ : -(ofW b) ≤ P - Q ∧ P - Q ≤ ofW a) (hh : 0 ≤ h ∧ h ≤ 1048576) (hk : 0 ≤ k ∧ k ≤ 1048576) : fairW h a k b = true := by
  obtain ⟨m, hm, e1, e2, e3, e4, e5⟩ := h1
  obtain ⟨n, hn, f1, f2, f3, f4, f5⟩ := h2
  have hd := hw.near hm hn (e2.trans f2.symm) (by omega) e3 f3
  rw [e4, f4] at hd
  unfold fairW
  have hh' : heldW h 1048576 = h := by unfold heldW; omega
  have hk' : heldW k 1048576 = k := by unfold heldW; omega
  rw [hh', hk', decide_eq_true_iff]
  omega
theorem Cnt.rdy {l : List Nd} (hw : Wf l) {i a P h B : Int} (h1 : Cnt l i a P h B) : ∃ r ∈ l, r.id = 0 ∧ r.rdy = true := by
  obtain ⟨m, hm, e1, e2, e3, e4, e5⟩ := h1
  exact hw.ready hm e3

theorem Abv.low {l : List Nd} (hw : Wf l) {m : Nd} (hm : m ∈ l) (hp : m.par = 0) {j : Int} (h : Abv l m.id j) : j ≤ 0 := by
  have hneg : ∀ {i j : Int}, Abv l i j → i < 0 → False := fun h => by
    intro hi
    cases h with
    | @one n hn => have := (hw.sk.clo n hn).1; omega
    | @more n j hn _ => have := (hw.sk.clo n hn).1; omega
  have h0 : ∀ {i j : Int}, Abv l i j → i = 0 → j ≤ 0 := fun h => by
    intro hi
    cases h with
    | @one n hn => have := (hw.rz n hn).2 hi; omega
    | @more n j hn h2 => exact absurd ((hw.rz n hn).2 hi) fun e => hneg h2 (by omega)
  generalize hi : m.id = i at h
  cases h with
  | @one n hn => obtain rfl := uniqU hw.sk.ids hm hn hi; omega
  | @more n j hn h2 =>
    obtain rfl := uniqU hw.sk.ids hm hn hi
    exact h0 h2 hp
/-- A thread that is counted. -/
def CntT (l : List Nd) (i wt P h B : Int) : Prop := ∃ m ∈ l, m.id = i ∧ m.par = 0 ∧ m.rdy = true ∧ m.wt = wt ∧ m.pass = P + h * ofW wt - B ∧ m.thr = true
theorem CntT.cnt {l : List Nd} {i wt P h B : Int} (c : CntT l i wt P h B) : Cnt l i wt P h B := by
  obtain ⟨m, hm, e1, e2, e3, e4, e5, -⟩ := c
  exact ⟨m, hm, e1, e2, e3, e4, e5⟩
/-- A quantum, as those count it that are threads in the root. -/
theorem Wf.thr_quantum {l : List Nd} (h : Wf l) {t : Nd} (ht : t ∈ l) (hr : t.rdy = true) :
    ∃ r R s, r ∈ l ∧ r.id = 0 ∧ r.rdy = true ∧ runU 6 l 0 = some R ∧ Wf (upR 6 R.2 R.1) ∧ SimR l (upR 6 R.2 R.1) ∧ (∃ m ∈ l, m.id = R.1 ∧ m.thr = true ∧ m.rdy = true) ∧
      (∀ i wt P h B, CntT l i wt P h B → CntT (upR 6 R.2 R.1) i wt P (if i = R.1 then h + 1 else h) (B + s)) ∧
      (∀ i wt P h B i' wt' P' h' B', CntT l i wt P h B → i = R.1 → CntT l i' wt' P' h' B' → P + h * ofW wt - B ≤ P' + h' * ofW wt' - B') := by
  obtain ⟨r, hr1, hr2, hr3⟩ := h.ready ht hr
  obtain ⟨R, b, s, q1, q2, q3, q4, q5, q6, q7, q8, q9, q10, q11, q12⟩ := h.root_quantum hr1 hr2 hr3
  have key : ∀ {i wt P h' B : Int}, CntT l i wt P h' B → (i = b.id ↔ i = R.1) := fun {i wt P h' B} hc => by
    obtain ⟨m, hm, e1, e2, e3, e4, e5, e6⟩ := hc
    constructor
    · intro e
      have : m = b := uniqU h.sk.ids hm q4 (e1.trans e)
      rw [e, q11 (by rw [← this]; exact e6)]
    · intro e
      rcases q10 with h1 | h1
      · rw [e, h1]
      · rw [← e, ← e1] at h1
        have h2 := h1.low h hm e2
        have h3 := (h.rz b q4).1
        have h4 : b.id = 0 := by omega
        have := (h.rz b q4).2 h4
        omega
  refine ⟨r, R, s, hr1, hr2, hr3, q1, q2, q3, q12, fun i wt P h' B hc => ?_, fun i wt P h' B i' wt' P' h'' B' hc hi hc' => ?_⟩
  · have hk := key hc
    obtain ⟨m, hm, e1, e2, e3, e4, e5, e6⟩ := hc
    obtain ⟨m', hm', ek, ep⟩ := q9 m hm e2 e3
    obtain ⟨k1, k2, k3, k4, k5⟩ := keyR_eq ek
    refine ⟨m', hm', k1.trans e1, k2.trans e2, k5.trans e3, k4.trans e4, ?_, k3.trans e6⟩
    rw [ep, e1, e4, e5]
    by_cases e : i = R.1
    · rw [if_pos (hk.2 e), if_pos e, Int.add_mul]; omega
    · rw [if_neg fun h => e (hk.1 h), if_neg e]; omega
  · have hb := (key hc).2 hi
    obtain ⟨m, hm, e1, e2, e3, e4, e5, e6⟩ := hc
    obtain ⟨m', hm', e1', e2', e3', e4', e5', e6'⟩ := hc'
    have hmb : m = b := uniqU h.sk.ids hm q4 (e1.trans hb)
    have := q7 m' hm' e2' e3'
    rw [e5', ← hmb, e5] at this
    exact this
/-- Whoever else wakes, rests or weighs otherwise. -/
theorem CntT.rdyU {l : List Nd} (hw : Wf l) {i wt P h B id : Int} (hne : i ≠ id) (r : Bool) (c : CntT l i wt P h B) : CntT (rdyU r l id) i wt P h B := by
  obtain ⟨m, hm, e1, e2, e3, e4, e5, e6⟩ := c
  refine ⟨m, ?_, e1, e2, e3, e4, e5, e6⟩
  unfold Go.Proofs.Ytfccmdmfllicdaa.rdyU
  split
  · exact wake_keep 5 hw.sk.ids hw.sk.clo hm e6 (by omega)
  · exact rest_keep 5 hw.sk.ids hw.sk.clo hm e6 (by omega)
theorem CntT.upd {l : List Nd} {i wt P h B id : Int} {f : Nd → Nd} (hne : i ≠ id) (c : CntT l i wt P h B) : CntT (upd id f l) i wt P h B := by
  obtain ⟨m, hm, e1, e2, e3, e4, e5, e6⟩ := c
  exact ⟨m, mem_upd_same hm (by omega), e1, e2, e3, e4, e5, e6⟩
end Go.Proofs.Ytfccmdmfllicdaa
