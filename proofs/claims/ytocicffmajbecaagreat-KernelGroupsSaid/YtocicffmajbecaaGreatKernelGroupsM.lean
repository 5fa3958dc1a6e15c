/- KernelGroups: groups within groups, as deep as may be; what is in a group runs by the group's weight: the law answers true. No conditions. -/
import Derived.Test.YtocicffmajbecaaGreatTmM
import Derived.Test.YtocicffmajbecaaGreatPkAll
import Derived.WalkKit
import Derived.WalkSpells
import Derived.WalkLawsBesides
import Derived.Handy
import Derived.Test.YtocicffmajbecaaGreatErr
import Derived.Test.YtocicffmajbecaaGreatOwn2
import Derived.Deep.LoopGhost
import Derived.IntWalk
namespace Go.Proofs.YtocicffmajbecaaGreat
open Go.RowKit

/-- Nodes turned one by one: who they are stays; those in the root keep their passes, the root its time. -/
def Kept (l l' : List Nd) : Prop := ∃ g : Nd → Nd, l' = l.map g ∧ ∀ m ∈ l, keyR (g m) = keyR m ∧ (m.par = 0 → (g m).pass = m.pass) ∧ (m.id = 0 → (g m).now = m.now)
theorem Kept.refl (l : List Nd) : Kept l l := ⟨fun m => m, by simp, fun m _ => ⟨rfl, fun _ => rfl, fun _ => rfl⟩⟩
theorem Kept.trans {a b c : List Nd} (h : Kept a b) (k : Kept b c) : Kept a c := by
  obtain ⟨g, rfl, hg⟩ := h
  obtain ⟨f, rfl, hf⟩ := k
  refine ⟨fun m => f (g m), by rw [List.map_map]; rfl, fun m hm => ?_⟩
  obtain ⟨g1, g2, g3⟩ := hg m hm
  obtain ⟨f1, f2, f3⟩ := hf (g m) (List.mem_map.2 ⟨m, hm, rfl⟩)
  obtain ⟨k1, k2, -⟩ := keyR_eq g1
  exact ⟨f1.trans g1, fun h => (f2 (k2.trans h)).trans (g2 h), fun h => (f3 (k1.trans h)).trans (g3 h)⟩
theorem Kept.upd {l : List Nd} {id : Int} {f : Nd → Nd} (h : ∀ m ∈ l, m.id = id → keyR (f m) = keyR m ∧ (m.par = 0 → (f m).pass = m.pass) ∧ (m.id = 0 → (f m).now = m.now)) : Kept l (upd id f l) := by
  refine ⟨fun m => if m.id = id then f m else m, rfl, fun m hm => ?_⟩
  simp only
  split
  · exact h m hm ‹_›
  · exact ⟨rfl, fun _ => rfl, fun _ => rfl⟩
theorem Kept.sim {l l' : List Nd} (h : Kept l l') : SimR l l' := by
  obtain ⟨g, rfl, hg⟩ := h
  show (l.map g).map keyR = l.map keyR
  rw [List.map_map]
  exact List.map_congr_left fun m hm => (hg m hm).1
theorem SimR.ids {l l' : List Nd} (h : SimR l l') (hs : Ids l) : Ids l' := by
  have e : l'.map Nd.id = l.map Nd.id := by
    have := congrArg (List.map fun k : (Int × Int × Bool × Int) × Bool => k.1.1) h
    simpa [List.map_map, keyR, keyS, Function.comp_def] using this
  have h1 : (l.map Nd.id).Pairwise (· < ·) := List.pairwise_map.2 hs
  rw [← e] at h1
  exact List.pairwise_map.1 h1
theorem Kept.fwd {l l' : List Nd} (h : Kept l l') {m : Nd} (hm : m ∈ l) : ∃ m' ∈ l', keyR m' = keyR m ∧ (m.par = 0 → m'.pass = m.pass) ∧ (m.id = 0 → m'.now = m.now) := by
  obtain ⟨g, rfl, hg⟩ := h
  exact ⟨g m, List.mem_map.2 ⟨m, hm, rfl⟩, hg m hm⟩
/-- The root's id is its own, and it is in none. -/
def Rz (l : List Nd) : Prop := ∀ m ∈ l, 0 ≤ m.id ∧ (m.id = 0 → m.par = -1)
theorem SimR.rz {l l' : List Nd} (h : SimR l l') (hr : Rz l) : Rz l' := fun m' hm' => by
  obtain ⟨m, hm, ek⟩ := h.back hm'
  obtain ⟨k1, k2, -⟩ := keyR_eq ek
  rw [← k1, ← k2]; exact hr m hm
theorem Wf.rz {l : List Nd} (h : Wf l) : Rz l := fun m hm => ⟨(h.sk.clo m hm).1, fun h0 => by
  obtain ⟨r, hr, e1, e2⟩ := h.sk.root
  rw [uniqU h.sk.ids hm hr (h0.trans e1.symm)]; exact e2⟩

/-- Below the root, on the way down. -/
theorem run_kept : ∀ (f : Nat) {l : List Nd} {id : Int} {R : Int × List Nd}, Ids l → Rz l → 0 < id → runU f l id = some R → Kept l R.2
  | 0, _, _, _, _, _, _, h => by cases h
  | f + 1, l, id, R, hs, hz, h0, h => by
    simp only [runU] at h
    split at h
    · cases h
    · rename_i n hg
      split at h
      · obtain rfl := Option.some.inj h; exact Kept.refl l
      · split at h
        · cases h
        · rename_i b hb
          obtain ⟨b1, b2, b3, b4⟩ := bestU_spec hs hb
          have hz1 := hz b b1
          have hbz : b.id ≠ 0 := fun e => by have := hz1.2 e; omega
          have k1 : Kept l (upd id (nowF b.pass) l) := Kept.upd fun m _ e => ⟨rfl, fun _ => rfl, fun e0 => by omega⟩
          have k2 : Kept (upd id (nowF b.pass) l) (upd b.id goF (upd id (nowF b.pass) l)) := Kept.upd fun m hm e => ⟨rfl, fun hp => by
            obtain ⟨m0, hm0, rfl⟩ := mem_upd.1 hm
            rw [(ite_same (nowF_same b.pass) m0).1] at e
            rw [(ite_same (nowF_same b.pass) m0).2.1, uniqU hs hm0 b1 e] at hp
            omega, fun _ => rfl⟩
          have k := k1.trans k2
          exact k.trans (run_kept f (k.sim.ids hs) (k.sim.rz hz) (by omega) h)
/-- Who runs is the one called, or is in him. -/
theorem Abv.back {l : List Nd} {f : Nd → Nd} (hf : ∀ m ∈ l, (f m).id = m.id ∧ (f m).par = m.par) {i j : Int} (h : Abv (l.map f) i j) : Abv l i j := by
  induction h with
  | @one n hn =>
    obtain ⟨m, hm, rfl⟩ := List.mem_map.1 hn
    rw [(hf m hm).1, (hf m hm).2]; exact .one hm
  | @more n j hn _ ih =>
    obtain ⟨m, hm, rfl⟩ := List.mem_map.1 hn
    rw [(hf m hm).1]
    rw [(hf m hm).2] at ih
    exact .more hm ih
theorem Abv.trans {l : List Nd} {i j k : Int} (h : Abv l i j) (h2 : Abv l j k) : Abv l i k := by
  induction h with
  | @one n hn => exact .more hn h2
  | @more n j hn _ ih => exact .more hn (ih h2)
theorem Kept.abv {l l' : List Nd} (h : Kept l l') {i j : Int} (ha : Abv l' i j) : Abv l i j := by
  obtain ⟨g, rfl, hg⟩ := h
  exact ha.back fun m hm => by
    obtain ⟨k1, k2, -⟩ := keyR_eq (hg m hm).1
    exact ⟨k1, k2⟩
theorem run_abv : ∀ (f : Nat) {l : List Nd} {id : Int} {R : Int × List Nd}, Ids l → Rz l → 0 < id → runU f l id = some R → R.1 = id ∨ Abv l R.1 id
  | 0, _, _, _, _, _, _, h => by cases h
  | f + 1, l, id, R, hs, hz, h0, h => by
    simp only [runU] at h
    split at h
    · cases h
    · rename_i n hg
      split at h
      · obtain rfl := Option.some.inj h; exact .inl rfl
      · split at h
        · cases h
        · rename_i b hb
          obtain ⟨b1, b2, b3, b4⟩ := bestU_spec hs hb
          have hz1 := hz b b1
          have hbz : b.id ≠ 0 := fun e => by have := hz1.2 e; omega
          have k1 : Kept l (upd id (nowF b.pass) l) := Kept.upd fun m _ e => ⟨rfl, fun _ => rfl, fun e0 => by omega⟩
          have k2 : Kept (upd id (nowF b.pass) l) (upd b.id goF (upd id (nowF b.pass) l)) := Kept.upd fun m hm e => ⟨rfl, fun hp => by
            obtain ⟨m0, hm0, rfl⟩ := mem_upd.1 hm
            rw [(ite_same (nowF_same b.pass) m0).1] at e
            rw [(ite_same (nowF_same b.pass) m0).2.1, uniqU hs hm0 b1 e] at hp
            omega, fun _ => rfl⟩
          have k := k1.trans k2
          have hb0 : Abv l b.id id := by rw [← b2]; exact .one b1
          rcases run_abv f (k.sim.ids hs) (k.sim.rz hz) (by omega) h with e | e
          · rw [e]; exact .inr hb0
          · exact .inr ((k.abv e).trans hb0)

/-- Those in the root less s. -/
def Less (s : Int) (l l' : List Nd) : Prop := ∃ g : Nd → Nd, l' = l.map g ∧ ∀ m ∈ l, keyR (g m) = keyR m ∧ (m.par = 0 → 0 ≤ m.pass → (g m).pass = max 0 (m.pass - s))
theorem Kept.less {l l' l'' : List Nd} {s : Int} (h : Kept l l') (k : Less s l' l'') : Less s l l'' := by
  obtain ⟨g, rfl, hg⟩ := h
  obtain ⟨f, rfl, hf⟩ := k
  refine ⟨fun m => f (g m), by rw [List.map_map]; rfl, fun m hm => ?_⟩
  obtain ⟨g1, g2, g3⟩ := hg m hm
  obtain ⟨f1, f2⟩ := hf (g m) (List.mem_map.2 ⟨m, hm, rfl⟩)
  obtain ⟨k1, k2, -⟩ := keyR_eq g1
  exact ⟨f1.trans g1, fun h h0 => by rw [f2 (k2.trans h) (by rw [g2 h]; exact h0), g2 h]⟩
theorem Kept.less0 {l l' : List Nd} (h : Kept l l') : Less 0 l l' := by
  obtain ⟨g, rfl, hg⟩ := h
  exact ⟨g, rfl, fun m hm => ⟨(hg m hm).1, fun hp h0 => by rw [(hg m hm).2.1 hp]; omega⟩⟩
theorem Kept.nowU {l l' : List Nd} (h : Kept l l') (hs : Ids l) : nowU l' 0 = nowU l 0 := by
  cases hg : getU l 0 with
  | none =>
    have hg' : getU l' 0 = none := by
      rw [getU_none]
      intro m' hm' e
      obtain ⟨m, hm, ek⟩ := h.sim.back hm'
      exact getU_none.1 hg m hm ((keyR_eq ek).1.trans e)
    simp [Go.Proofs.YtocicffmajbecaaGreat.nowU, hg, hg']
  | some r =>
    obtain ⟨hr, hr0⟩ := getU_mem hg
    obtain ⟨r', hr', ek, -, e3⟩ := h.fwd hr
    have k1 := (keyR_eq ek).1
    have := nowU_of (h.sim.ids hs) hr'
    rw [k1, hr0] at this
    have h2 := nowU_of hs hr
    rw [hr0] at h2
    rw [this, h2]; exact e3 hr0
theorem reb_kept {l : List Nd} (hs : Ids l) {g : Int} (h0 : g ≠ 0) : Kept l (rebU l g) := by
  rw [reb_map hs]
  refine ⟨_, rfl, fun m _ => ⟨?_, fun hp => ?_, fun hp => ?_⟩⟩
  · obtain ⟨k1, k2, k3, k4, k5⟩ := rebN_same g (nowU l g) m
    simp only [keyR, keyS, k1, k2, k3, k4, k5]
  · rw [rebN_pass, if_neg (by omega)]
  · rw [rebN_now, if_neg (by omega)]
theorem reb_less {l : List Nd} (hs : Ids l) : Less (nowU l 0) l (rebU l 0) := by
  rw [reb_map hs]
  refine ⟨_, rfl, fun m _ => ⟨?_, fun hp h0 => ?_⟩⟩
  · obtain ⟨k1, k2, k3, k4, k5⟩ := rebN_same 0 (nowU l 0) m
    simp only [keyR, keyS, k1, k2, k3, k4, k5]
  · rw [rebN_pass, if_pos hp]
theorem Less.ids {s : Int} {l l' : List Nd} (h : Less s l l') (hs : Ids l) : Ids l' := by
  obtain ⟨g, rfl, hg⟩ := h
  refine SimR.ids ?_ hs
  show (l.map g).map keyR = l.map keyR
  rw [List.map_map]
  exact List.map_congr_left fun m hm => (hg m hm).1
theorem Less.rz {s : Int} {l l' : List Nd} (h : Less s l l') (hs : Rz l) : Rz l' := by
  obtain ⟨g, rfl, hg⟩ := h
  refine SimR.rz ?_ hs
  show (l.map g).map keyR = l.map keyR
  rw [List.map_map]
  exact List.map_congr_left fun m hm => (hg m hm).1
/-- On the way up those in the root are counted anew at most once, by its time. -/
theorem up_less : ∀ (f : Nat) {l : List Nd} (id : Int), Ids l → Rz l → ∃ s, (s = 0 ∨ s = nowU l 0) ∧ Less s l (upR f l id)
  | 0, l, _, _, _ => ⟨0, .inl rfl, (Kept.refl l).less0⟩
  | f + 1, l, id, hs, hz => by
    simp only [upR]
    split
    · exact ⟨0, .inl rfl, (Kept.refl l).less0⟩
    · rename_i n hg
      split
      · exact ⟨0, .inl rfl, (Kept.refl l).less0⟩
      · rename_i hp
        split
        · by_cases h0 : n.par = 0
          · rw [h0]
            have hL := reb_less hs
            have e : upR f (rebU l 0) 0 = rebU l 0 := by
              cases hg0 : getU (rebU l 0) 0 with
              | none => cases f with
                | zero => rfl
                | succ f => simp only [upR, hg0]
              | some r =>
                obtain ⟨hr, hr0⟩ := getU_mem hg0
                have := upR_top (f := f) (hL.ids hs) hr (by have := (hL.rz hz r hr).2 hr0; omega)
                rwa [hr0] at this
            rw [e]
            exact ⟨_, .inr rfl, hL⟩
          · have hk := reb_kept (l := l) hs h0
            obtain ⟨s, h1, h2⟩ := up_less f n.par (hk.sim.ids hs) (hk.sim.rz hz)
            rw [hk.nowU hs] at h1
            exact ⟨s, h1, hk.less h2⟩
        · exact up_less f n.par hs hz

/-- A quantum of the root's. -/
theorem Wf.root_quantum {l : List Nd} (h : Wf l) {r : Nd} (hr : r ∈ l) (hr0 : r.id = 0) (hrd : r.rdy = true) :
    ∃ R b s, runU 6 l 0 = some R ∧ Wf (upR 6 R.2 R.1) ∧ SimR l (upR 6 R.2 R.1) ∧ b ∈ l ∧ b.par = 0 ∧ b.rdy = true ∧ (∀ m ∈ l, m.par = 0 → m.rdy = true → b.pass ≤ m.pass) ∧ 0 ≤ s ∧
      (∀ m ∈ l, m.par = 0 → m.rdy = true → ∃ m' ∈ upR 6 R.2 R.1, keyR m' = keyR m ∧ m'.pass = (if m.id = b.id then m.pass + ofW m.wt else m.pass) - s) ∧ (R.1 = b.id ∨ Abv l R.1 b.id) ∧ (b.thr = true → R.1 = b.id) ∧ ∃ m ∈ l, m.id = R.1 ∧ m.thr = true ∧ m.rdy = true := by
  obtain ⟨R, h1, h2, m, hm, e1, e2, e3⟩ := h.run hr hr0 hrd
  have hsim := (run_sim 6 h1).trans (up_sim 6 R.2 R.1)
  have hrt : r.thr = false := (h.sk.clo r hr).2.1 (by have := (h.rz r hr).2 hr0; omega)
  obtain ⟨m0, hm0, ek⟩ := (run_sim 6 h1).back hm
  obtain ⟨k1, k2, k3, k4, k5⟩ := keyR_eq ek
  have hrun := h1
  simp only [runU] at h1
  split at h1
  · cases h1
  · rename_i n hg
    obtain ⟨hn, hn0⟩ := getU_mem hg
    have hnr : n = r := uniqU h.sk.ids hn hr (hn0.trans hr0.symm)
    rw [hnr] at h1
    rw [if_neg (by rw [hrt]; simp)] at h1
    split at h1
    · cases h1
    · rename_i b hb
      obtain ⟨b1, b2, b3, b4⟩ := bestU_spec h.sk.ids hb
      have hz1 := h.rz b b1
      have hbz : b.id ≠ 0 := fun e => by have := hz1.2 e; omega
      have hlag := h.num.lag b b1 r hr (hr0.trans b2.symm)
      have hnow := h.num.now r hr
      have hleast : ∀ m ∈ l, m.par = 0 → m.rdy = true → b.pass ≤ m.pass := fun m hm hp hrm => by
        rcases b4 m hm hp hrm with rfl | h5
        · exact Int.le_refl _
        · rw [lessB_iff] at h5; simp only at h5; omega
      -- the first step
      have hsR : SimR l (upd b.id goF (upd 0 (nowF b.pass) l)) := (SimR.upd l _ (f := nowF _) fun _ => rfl).trans (SimR.upd _ _ (f := goF) fun _ => rfl)
      have hs1 := hsR.ids h.sk.ids
      have hz2 := hsR.rz h.rz
      have hk := run_kept 5 hs1 hz2 (by omega) h1
      obtain ⟨s, hs, g, hge, hgm⟩ := up_less 6 R.1 (hk.sim.ids hs1) (hk.sim.rz hz2)
      have hn1 : nowU (upd b.id goF (upd 0 (nowF b.pass) l)) 0 = b.pass := by
        have hr1 : nowF b.pass r ∈ upd b.id goF (upd 0 (nowF b.pass) l) := mem_upd.2 ⟨nowF b.pass r, mem_upd.2 ⟨r, hr, by rw [if_pos hr0]⟩, by rw [if_neg (by show r.id ≠ b.id; omega)]⟩
        have := nowU_of hs1 hr1
        rwa [show (nowF b.pass r).id = 0 from hr0] at this
      rw [hk.nowU hs1, hn1] at hs
      refine ⟨R, b, s, hrun, h2, hsim, b1, b2, b3, hleast, by omega, fun m hm hp hrm => ?_, ?_, fun ht => ?_, m0, hm0, k1.trans e1, k3.trans e2, k5.trans e3⟩
      · have hmz : m.id ≠ 0 := fun e => by have := (h.rz m hm).2 e; omega
        have hm1 : (if m.id = b.id then goF m else m) ∈ upd b.id goF (upd 0 (nowF b.pass) l) := mem_upd.2 ⟨m, mem_upd_same hm hmz, rfl⟩
        obtain ⟨m2, hm2, ek2, ep2, -⟩ := hk.fwd hm1
        have hkm : keyR (if m.id = b.id then goF m else m) = keyR m := by split <;> rfl
        have hpm : (if m.id = b.id then goF m else m).pass = if m.id = b.id then m.pass + ofW m.wt else m.pass := by split <;> rfl
        have hp2 : m2.par = 0 := by rw [(keyR_eq (ek2.trans hkm)).2.1]; exact hp
        have hpp : m2.pass = if m.id = b.id then m.pass + ofW m.wt else m.pass := by rw [ep2 ((keyR_eq hkm).2.1.trans hp), hpm]
        have hle := hleast m hm hp hrm
        have how := ofW_bounds m.wt
        have hge0 : b.pass ≤ m2.pass := by rw [hpp]; split <;> omega
        obtain ⟨g1, g2⟩ := hgm m2 hm2
        refine ⟨g m2, by rw [hge]; exact List.mem_map.2 ⟨m2, hm2, rfl⟩, g1.trans (ek2.trans hkm), ?_⟩
        rw [g2 hp2 (by omega), ← hpp]
        omega
      · have ha := run_abv 5 hs1 hz2 (by omega) h1
        refine ha.imp id fun ha => ?_
        have ha1 : Abv (upd 0 (nowF b.pass) l) R.1 b.id := Abv.back (f := fun m => if m.id = b.id then goF m else m) (fun m _ => ⟨(ite_same goF_same m).1, (ite_same goF_same m).2.1⟩) ha
        exact Abv.back (f := fun m => if m.id = 0 then nowF b.pass m else m) (fun m _ => ⟨(ite_same (nowF_same _) m).1, (ite_same (nowF_same _) m).2.1⟩) ha1
      · have hb1 : goF b ∈ upd b.id goF (upd 0 (nowF b.pass) l) := mem_upd.2 ⟨b, mem_upd_same b1 hbz, by rw [if_pos rfl]⟩
        have := runU_thr (f := 4) hs1 hb1 (show (goF b).thr = true from ht)
        have h1' : runU 5 (upd b.id goF (upd 0 (nowF b.pass) l)) b.id = some R := h1
        rw [show (goF b).id = b.id from rfl] at this
        rw [this] at h1'
        obtain rfl := Option.some.inj h1'
        rfl

/-! ### Counting -/
/-- In the root, ready, of this weight; his pass tells how often he had it. -/
def Cnt (l : List Nd) (i wt P h B : Int) : Prop := ∃ m ∈ l, m.id = i ∧ m.par = 0 ∧ m.rdy = true ∧ m.wt = wt ∧ m.pass = P + h * ofW wt - B
theorem Cnt.step {l l' : List Nd} {b : Nd} {s : Int} (hq : ∀ m ∈ l, m.par = 0 → m.rdy = true → ∃ m' ∈ l', keyR m' = keyR m ∧ m'.pass = (if m.id = b.id then m.pass + ofW m.wt else m.pass) - s) {i wt P h B : Int} (hc : Cnt l i wt P h B) : Cnt l' i wt P (if i = b.id then h + 1 else h) (B + s) := by
  obtain ⟨m, hm, e1, e2, e3, e4, e5⟩ := hc
  obtain ⟨m', hm', ek, ep⟩ := hq m hm e2 e3
  obtain ⟨k1, k2, k3, k4, k5⟩ := keyR_eq ek
  refine ⟨m', hm', k1.trans e1, k2.trans e2, k5.trans e3, k4.trans e4, ?_⟩
  rw [ep, e1, e4, e5]
  split
  · rw [Int.add_mul]; omega
  · omega
/-- Two that are ready in one group. -/
theorem Wf.near {l : List Nd} (h : Wf l) {m n : Nd} (hm : m ∈ l) (hn : n ∈ l) (hp : m.par = n.par) (h0 : 0 ≤ m.par) (rm : m.rdy = true) (rn : n.rdy = true) : m.pass - n.pass ≤ ofW m.wt ∧ n.pass - m.pass ≤ ofW n.wt := by
  obtain ⟨p, hpl, he, -⟩ := (h.sk.clo m hm).2.2 h0
  have h1 := h.num.lag m hm p hpl he
  have h2 := h.num.lag n hn p hpl (he.trans hp)
  have h3 := h1.2.2 rm
  have h4 := h2.2.2 rn
  omega
theorem Cnt.fair {l : List Nd} (hw : Wf l) {i j a b P Q h k B : Int} (h1 : Cnt l i a P h B) (h2 : Cnt l j b Q k B) (hPQ : -(ofW b) ≤ P - Q ∧ P - Q ≤ ofW a) (hh : 0 ≤ h ∧ h ≤ 1048576) (hk : 0 ≤ k ∧ k ≤ 1048576) : fairW h a k b = true := by
  obtain ⟨m, hm, e1, e2, e3, e4, e5⟩ := h1
  obtain ⟨n, hn, f1, f2, f3, f4, f5⟩ := h2
  have hd := hw.near hm hn (e2.trans f2.symm) (by omega) e3 f3
  rw [e4, f4] at hd
  unfold fairW
  have hh' : heldW h 1048576 = h := by unfold heldW; omega
  have hk' : heldW k 1048576 = k := by unfold heldW; omega
  rw [hh', hk', decide_eq_true_iff]
  omega
theorem Cnt.rdy {l : List Nd} (hw : Wf l) {i a P h B : Int} (h1 : Cnt l i a P h B) : ∃ r ∈ l, r.id = 0 ∧ r.rdy = true := by
  obtain ⟨m, hm, e1, e2, e3, e4, e5⟩ := h1
  exact hw.ready hm e3

theorem Abv.low {l : List Nd} (hw : Wf l) {m : Nd} (hm : m ∈ l) (hp : m.par = 0) {j : Int} (h : Abv l m.id j) : j ≤ 0 := by
  have hneg : ∀ {i j : Int}, Abv l i j → i < 0 → False := fun h => by
    intro hi
    cases h with
    | @one n hn => have := (hw.sk.clo n hn).1; omega
    | @more n j hn _ => have := (hw.sk.clo n hn).1; omega
  have h0 : ∀ {i j : Int}, Abv l i j → i = 0 → j ≤ 0 := fun h => by
    intro hi
    cases h with
    | @one n hn => have := (hw.rz n hn).2 hi; omega
    | @more n j hn h2 => exact absurd ((hw.rz n hn).2 hi) fun e => hneg h2 (by omega)
  generalize hi : m.id = i at h
  cases h with
  | @one n hn => obtain rfl := uniqU hw.sk.ids hm hn hi; omega
  | @more n j hn h2 =>
    obtain rfl := uniqU hw.sk.ids hm hn hi
    exact h0 h2 hp
/-- A thread that is counted. -/
def CntT (l : List Nd) (i wt P h B : Int) : Prop := ∃ m ∈ l, m.id = i ∧ m.par = 0 ∧ m.rdy = true ∧ m.wt = wt ∧ m.pass = P + h * ofW wt - B ∧ m.thr = true
theorem CntT.cnt {l : List Nd} {i wt P h B : Int} (c : CntT l i wt P h B) : Cnt l i wt P h B := by
  obtain ⟨m, hm, e1, e2, e3, e4, e5, -⟩ := c
  exact ⟨m, hm, e1, e2, e3, e4, e5⟩
/-- A quantum, as those count it that are threads in the root. -/
theorem Wf.thr_quantum {l : List Nd} (h : Wf l) {t : Nd} (ht : t ∈ l) (hr : t.rdy = true) :
    ∃ r R s, r ∈ l ∧ r.id = 0 ∧ r.rdy = true ∧ runU 6 l 0 = some R ∧ Wf (upR 6 R.2 R.1) ∧ SimR l (upR 6 R.2 R.1) ∧ (∃ m ∈ l, m.id = R.1 ∧ m.thr = true ∧ m.rdy = true) ∧
      (∀ i wt P h B, CntT l i wt P h B → CntT (upR 6 R.2 R.1) i wt P (if i = R.1 then h + 1 else h) (B + s)) ∧
      (∀ i wt P h B i' wt' P' h' B', CntT l i wt P h B → i = R.1 → CntT l i' wt' P' h' B' → P + h * ofW wt - B ≤ P' + h' * ofW wt' - B') := by
  obtain ⟨r, hr1, hr2, hr3⟩ := h.ready ht hr
  obtain ⟨R, b, s, q1, q2, q3, q4, q5, q6, q7, q8, q9, q10, q11, q12⟩ := h.root_quantum hr1 hr2 hr3
  have key : ∀ {i wt P h' B : Int}, CntT l i wt P h' B → (i = b.id ↔ i = R.1) := fun {i wt P h' B} hc => by
    obtain ⟨m, hm, e1, e2, e3, e4, e5, e6⟩ := hc
    constructor
    · intro e
      have : m = b := uniqU h.sk.ids hm q4 (e1.trans e)
      rw [e, q11 (by rw [← this]; exact e6)]
    · intro e
      rcases q10 with h1 | h1
      · rw [e, h1]
      · rw [← e, ← e1] at h1
        have h2 := h1.low h hm e2
        have h3 := (h.rz b q4).1
        have h4 : b.id = 0 := by omega
        have := (h.rz b q4).2 h4
        omega
  refine ⟨r, R, s, hr1, hr2, hr3, q1, q2, q3, q12, fun i wt P h' B hc => ?_, fun i wt P h' B i' wt' P' h'' B' hc hi hc' => ?_⟩
  · have hk := key hc
    obtain ⟨m, hm, e1, e2, e3, e4, e5, e6⟩ := hc
    obtain ⟨m', hm', ek, ep⟩ := q9 m hm e2 e3
    obtain ⟨k1, k2, k3, k4, k5⟩ := keyR_eq ek
    refine ⟨m', hm', k1.trans e1, k2.trans e2, k5.trans e3, k4.trans e4, ?_, k3.trans e6⟩
    rw [ep, e1, e4, e5]
    by_cases e : i = R.1
    · rw [if_pos (hk.2 e), if_pos e, Int.add_mul]; omega
    · rw [if_neg fun h => e (hk.1 h), if_neg e]; omega
  · have hb := (key hc).2 hi
    obtain ⟨m, hm, e1, e2, e3, e4, e5, e6⟩ := hc
    obtain ⟨m', hm', e1', e2', e3', e4', e5', e6'⟩ := hc'
    have hmb : m = b := uniqU h.sk.ids hm q4 (e1.trans hb)
    have := q7 m' hm' e2' e3'
    rw [e5', ← hmb, e5] at this
    exact this
/-- Whoever else wakes, rests or weighs otherwise. -/
theorem CntT.rdyU {l : List Nd} (hw : Wf l) {i wt P h B id : Int} (hne : i ≠ id) (r : Bool) (c : CntT l i wt P h B) : CntT (rdyU r l id) i wt P h B := by
  obtain ⟨m, hm, e1, e2, e3, e4, e5, e6⟩ := c
  refine ⟨m, ?_, e1, e2, e3, e4, e5, e6⟩
  unfold Go.Proofs.YtocicffmajbecaaGreat.rdyU
  split
  · exact wake_keep 5 hw.sk.ids hw.sk.clo hm e6 (by omega)
  · exact rest_keep 5 hw.sk.ids hw.sk.clo hm e6 (by omega)
theorem CntT.upd {l : List Nd} {i wt P h B id : Int} {f : Nd → Nd} (hne : i ≠ id) (c : CntT l i wt P h B) : CntT (upd id f l) i wt P h B := by
  obtain ⟨m, hm, e1, e2, e3, e4, e5, e6⟩ := c
  exact ⟨m, mem_upd_same hm (by omega), e1, e2, e3, e4, e5, e6⟩
end Go.Proofs.YtocicffmajbecaaGreat

namespace Go.Proofs.YtocicffmajbecaaGreat
open Go.RowKit
set_option linter.unusedSimpArgs false
namespace Pk
open Kn
theorem thrPos {l : List Nd} (hw : Wf l) {n : Nd} (hn : n ∈ l) (ht : n.thr = true) : 0 < n.id := by
  have h0 := (hw.sk.clo n hn).1
  rcases Int.lt_or_eq_of_le h0 with h | h
  · exact h
  · obtain ⟨r, hr, hr0, hrp, -⟩ := hw.root
    have := par_thr hw hn ht
    rw [uniqU hw.sk.ids hn hr (by omega)] at this
    omega
theorem run_st {th gr : Int} {k : Kd} (hk : KOk th gr k) {n : Int} (h : runK k.l = (n, true)) : 1 ≤ n ∧ n ≤ k.last ∧ stU k.l n = some true := by
  obtain ⟨r, hr, hr0, -, -⟩ := hk.wf.root
  cases hrd : r.rdy with
  | false =>
    have := hk.wf.run_none hr hr0 hrd
    simp [runK, this] at h
  | true =>
    obtain ⟨R, hR, -, t, ht, e1, e2, e3⟩ := hk.wf.run hr hr0 hrd
    have hn : R.1 = n := by
      simp only [runK, hR] at h
      exact congrArg Prod.fst h
    obtain ⟨m, hm, ek⟩ := (run_sim 6 hR).back ht
    obtain ⟨k1, k2, k3, k4, k5⟩ := keyR_eq ek
    have hid : m.id = n := by rw [k1, e1, hn]
    have hp := thrPos hk.wf hm (k3.trans e2)
    have hl := hk.low m hm
    exact ⟨by omega, by omega, (stU_some hk.wf.sk.ids).2 ⟨m, hm, hid, k3.trans e2, k5.trans e3⟩⟩
theorem run_no {l : List Nd} {n : Int} (h : runK l = (n, false)) : n = 0 := by
  unfold runK at h
  cases hR : runU 6 l 0 with
  | none => rw [hR] at h; exact (congrArg Prod.fst h).symm
  | some R => rw [hR] at h; cases h
end Pk
end Go.Proofs.YtocicffmajbecaaGreat

namespace Go.Proofs.YtocicffmajbecaaGreat
open Go.RowKit
set_option maxRecDepth 100000
set_option linter.unusedSimpArgs false
namespace Pk
open Rw (En)
open Kn

def rdN (l : List Nd) (id : Int) : Bool := match getU l id with
  | none => false
  | some n => n.rdy
theorem rdN_of {l : List Nd} {id : Int} {r : Bool} (h : stU l id = some r) : rdN l id = r := by
  unfold stU at h
  unfold rdN
  cases hg : getU l id with
  | none => rw [hg] at h; cases h
  | some n =>
    rw [hg] at h
    cases ht : n.thr <;> simp [ht] at h
    exact h
section
variable {w0 w w' : World} {b : Nat} {th gr : Int} {k : Kd}
set_option maxHeartbeats 4000000 in
theorem readyL_any (h : S w0 b th gr k w) (id : Int) : Calls Tryz.prog 19 #[.pointer (some ⟨b, 0, none⟩), .int .i64 id] w (Yields w (.bool (rdN k.l id))) := by
  have CN := hid (fun w' (e : Ext w w') => k_nodes (h.ext e))
  have hb := h.lt
  have hlen := h.ok.wf.sk.len
  have HI := hid h.ok.wf.sk.ids
  clear h
  generalize k.l = l at *
  go_enter Tryz.func19, Tryz.ntmps19
  go_wp2_with fail
  (with_reducible refine (CN.out _ (by repeat (first | exact Ext.refl _ | assumption | refine Ext.more ?_ _ | refine Ext.drew ?_ | refine Ext.drewN ?_ _ | refine Ext.alloc ?_ _ | refine Ext.setCell ?_ (by simp; try omega) _ | refine Ext.trans ?_ (by assumption)))).mono ?_)
  rintro e w1 ⟨vn, rfl, hx1, hn⟩
  obtain ⟨p, cap, rfl, hc1, hc2⟩ := hn.shape
  have HN := hid hn
  have HX1 := hid hx1
  rw [List.length_map] at hc1
  unfold maxLen at hc2
  clear hn hx1
  rw [List.length_map]
  go_wp2_with fail
  go_loopw [6] (fun s wr => ∃ i : Nat, s = .int .i64 i ∧ i ≤ l.length ∧ Ext w1 wr ∧ Hid (∀ n ∈ l.take i, n.id ≠ id)) (fun s _ => (l.length - (intOf s).toNat))
  case atStart => exact ⟨0, rfl, Nat.zero_le _, Ext.refl _, fun n hn => by simp at hn⟩
  case round =>
    obtain ⟨i, rfl, hi, X, hno⟩ := hrel
    by_cases hlt : i < l.length
    · obtain ⟨g, off, rfl, e0, -, -, -, -, e5⟩ := HN.out.at i (by simpa using hlt)
      rw [List.getElem_map] at e0 e5
      simp only [Nd.nn] at e0 e5
      have f0 := X.cell e0
      have f5 := X.cell e5
      clear e0 e5
      have i1 : (i : Int) < l.length := by omega
      have HM : Hid (l[i] ∈ l) := List.getElem_mem hlt
      have HT : Hid (l.take (i + 1) = l.take i ++ [l[i]]) := List.take_succ_eq_append_getElem hlt
      generalize l[i] = n at *
      by_cases he : n.id = id
      · have j1 : (n.id == id) = true := by simpa using he
        have HR : Hid (rdN l id = n.rdy) := by
          unfold rdN Hid
          rw [← he, getU_of HI.out HM.out]
        clear he
        go_wp2
        go_returns
        exact ⟨by rw [HR.out]; rfl, (HX1.out.trans X).trans (by repeat (first | exact Ext.refl _ | assumption | refine Ext.more ?_ _ | refine Ext.drew ?_ | refine Ext.drewN ?_ _ | refine Ext.alloc ?_ _ | refine Ext.setCell ?_ (by simp; try omega) _ | refine Ext.trans ?_ (by assumption)))⟩
      · have j1 : (n.id == id) = false := by simpa using he
        have HS : Hid (∀ m ∈ l.take (i + 1), m.id ≠ id) := fun m hm => by
          rw [HT.out] at hm
          rcases List.mem_append.1 hm with hm | hm
          · exact hno.out m hm
          · rw [List.mem_singleton.1 hm]; exact he
        clear he
        go_wp2
        go_roundw
        case rel => exact ⟨i + 1, by go_num, by omega, X, HS.out⟩
        case measure => simp [intOf]; omega
    · have HR : Hid (rdN l id = false) := by
        have hn := hno.out
        rw [List.take_of_length_le (by omega)] at hn
        unfold rdN Hid
        rw [getU_none.2 hn]
      go_wp2
      go_returns
      exact ⟨by rw [HR.out]; rfl, HX1.out.trans X⟩
theorem readyL_to (h : S w0 b th gr k w) {id : Int} {r : Bool} (e : rdN k.l id = r) : Calls Tryz.prog 19 #[.pointer (some ⟨b, 0, none⟩), .int .i64 id] w (Yields w (.bool r)) := e ▸ readyL_any h id
end
end Pk
end Go.Proofs.YtocicffmajbecaaGreat

namespace Go.Proofs.YtocicffmajbecaaGreat
open Go.RowKit
set_option maxRecDepth 100000
set_option linter.unusedSimpArgs false
namespace Pk
open Rw (En)
open Kn

def q1 : Kd := runK' k0
def q2 : Kd := spawnK 2 q1 0 2
def q3 : Kd := groupK 1 q2 0 1
def q4 : Kd := sleepK q3 1 9
def q5 : Kd := waitK q4 2 0
def q6 : Kd := signalK q5 0
def q7 : Kd := runK' q6
def q8 : Kd := { q7 with l := wakes q7.l [1], M := Ti.sleepOn 9 q7.M }
theorem shapeOf {w : World} {base T n m : Nat} {v : Value} {xs : List Value} (h : w.ownsRow base T n v m xs) : ∃ p c, v = .slice p m c := by
  rcases h.2 with ⟨rfl, rfl⟩ | ⟨g, cap, cur, rfl, _⟩
  · exact ⟨none, 0, rfl⟩
  · exact ⟨_, cap, rfl⟩
theorem due_one {k : Kd} {tick id u : Int} (h : k.M = [(id, u)]) (hu : u ≤ tick) : Ti.dueIds tick k.M = [id] := by
  unfold Ti.dueIds
  refine Ti.sortI_of ?_ (List.pairwise_singleton _ _)
  unfold Ti.isDue
  rw [h]
  simp [hu]
structure QF : Prop where
  r0 : runK k0.l = (1, true)
  s1 : spawnE 2 q1 0 2 = 0
  l1 : q1.last = 1
  s2 : spawnE 2 q2 0 2 = 14
  l2 : q2.last = 2
  g2 : groupE 1 q2 0 1 = 0
  l3 : q3.last = 3
  y3 : rdyE q3 1 = 0
  l4 : q4.last = 3
  w4 : (waitA q4 2 0).on = false ∧ (waitA q4 2 0).err = 0
  r5 : rootR q5.l = false
  i5 : (Ob.sigR 0 q5.c q5.W).err = 0
  r6 : runK q6.l = (2, true)
  m7 : q7.M = [(1, 9)]
  u8 : stU q8.l 7 = none
  t8 : (tids q8.l).length = 2
  n8 : q8.l.length = 4
theorem qf : QF := by
  constructor
  all_goals first | kernel_rfl | (constructor <;> kernel_rfl) | decide
set_option maxHeartbeats 8000000 in
theorem known_any (w : World) : Calls Tryz.prog 10 #[] w (Yields w (.bool true)) := by
  have F := hid qf
  have hqn := fun w => run_eql_nil_nil' (P := Tryz.prog) w Tryz.underlying29
  have hnn := fun w => run_neq_nil_nil' (P := Tryz.prog) w Tryz.underlying29
  go_enter Tryz.func10, Tryz.ntmps10
  go_wp2_with fail
  (with_reducible refine (k_new w w (Ext.refl w) 2 1).mono ?_)
  rintro e v1 ⟨b, rfl, s1, -⟩
  rw [show max (1 : Int) (min 2 8) = 2 by decide, show max (0 : Int) (min 1 4) = 1 by decide] at s1
  go_wp2_with fail
  (with_reducible refine (k_run (k' := q1) s1 F.out.r0 rfl).mono ?_)
  rintro e v2 ⟨rfl, s2⟩
  clear s1
  go_wp2_with fail
  (with_reducible refine (spawn_ok (p := 0) (wt := 2) (k' := q2) s2 (by rw [F.out.l1]; decide) F.out.s1 (n := 2) (by rw [F.out.l1]; decide) rfl).mono ?_)
  rintro e v3 ⟨rfl, s3⟩
  clear s2
  go_wp2_with fail
  (with_reducible refine (spawn_er (p := 0) (wt := 2) s3 (by rw [F.out.l2]; decide) F.out.s2 (by decide)).mono ?_)
  rintro e v4 ⟨rfl, s4⟩
  clear s3
  go_wp2_with fail
  (with_reducible refine (group_ok (p := 0) (wt := 1) (k' := q3) s4 (by rw [F.out.l2]; decide) F.out.g2 (n := 3) (by rw [F.out.l2]; decide) rfl).mono ?_)
  rintro e v5 ⟨rfl, s5⟩
  clear s4
  go_wp2_with fail
  (with_reducible refine (sleep_ok (id := 1) (u := 9) (k' := q4) s5 (by rw [F.out.l3]; decide) F.out.y3 rfl).mono ?_)
  rintro e v6 ⟨rfl, s6⟩
  clear s5
  go_wp2_with fail
  (with_reducible refine (wait_ok (id := 2) (o := 0) (k' := q5) s6 (by rw [F.out.l4]; decide) F.out.w4.1 F.out.w4.2 rfl).mono ?_)
  rintro e v7 ⟨rfl, s7⟩
  clear s6
  go_wp2_with fail
  (with_reducible refine (k_runnable s7 F.out.r5).mono ?_)
  rintro e v8 ⟨rfl, x8⟩
  have s8 := s7.ext x8
  clear s7 x8
  go_wp2_with fail
  (with_reducible refine (signal_ok (o := 0) (k' := q6) s8 F.out.i5 rfl).mono ?_)
  rintro e v9 ⟨rfl, s9⟩
  clear s8
  go_wp2_with fail
  (with_reducible refine (k_run (k' := q7) s9 F.out.r6 rfl).mono ?_)
  rintro e v10 ⟨rfl, s10⟩
  clear s9
  have hd : Ti.dueIds 9 q7.M = [1] := due_one F.out.m7 (by decide)
  have h8 : wakeK q7 9 = q8 := by
    unfold wakeK
    rw [hd]
    rfl
  go_wp2_with fail
  (with_reducible refine (k_wake (k' := q8) s10 hd h8).mono ?_)
  rintro e v11 ⟨vd, rfl, s11, o11⟩
  clear s10 hd h8
  go_wp2_with fail
  (with_reducible refine (exit_er (id := 7) s11 F.out.u8).mono ?_)
  rintro e v12 ⟨rfl, x12⟩
  have s12 := s11.ext x12
  have o12 := owns_ext o11 x12
  clear s11 o11
  rcases o12.2 with ⟨e, e0⟩ | ⟨g', cap', cur, rfl, e2, e3, e4, e5, e6, e7⟩
  · cases e0
  have c0 : v12.cell? ⟨g', 0, none⟩ = some (.int .i64 1) := by
    have : ([Value.int .i64 1])[0]? = some (.int .i64 1) := rfl
    have e7 : cur.toList.take 1 = [Value.int .i64 1] := e7
    rw [← e7, List.getElem?_take, if_pos (by decide)] at this
    simp only [World.cell?, e3]
    simpa using this
  have hg := (World.ownsRow.lt o12 g' rfl).2
  clear o12 e2 e3 e4 e5 e6 e7
  go_wp2_with (first
    | (go_at_call 18; (with_reducible refine (is_errno_to (r := true) rfl _).yields ?_); intro p1))
  (with_reducible refine (k_threads (s12.ext (by repeat (first | exact Ext.refl _ | assumption | refine Ext.more ?_ _ | refine Ext.drew ?_ | refine Ext.drewN ?_ _ | refine Ext.alloc ?_ _ | refine Ext.setCell ?_ (by simp; try omega) _ | refine Ext.trans ?_ (by assumption))))).mono ?_)
  rintro e v13 ⟨vt, rfl, x13, o13⟩
  obtain ⟨p3, c3, rfl⟩ : ∃ p c, vt = .slice p 2 c := by
    have := shapeOf o13
    rwa [F.out.t8] at this
  have X13 := hid x13
  clear o13 x13
  go_wp2_with fail
  (with_reducible refine (k_nodes ((s12.ext (by repeat (first | exact Ext.refl _ | assumption | refine Ext.more ?_ _ | refine Ext.drew ?_ | refine Ext.drewN ?_ _ | refine Ext.alloc ?_ _ | refine Ext.setCell ?_ (by simp; try omega) _ | refine Ext.trans ?_ (by assumption)))).ext X13.out)).mono ?_)
  rintro e v14 ⟨vn, rfl, x14, o14⟩
  obtain ⟨p4, c4, rfl⟩ : ∃ p c, vn = .slice p 4 c := by
    obtain ⟨p, c, e, -, -⟩ := o14.shape
    rw [List.length_map, F.out.n8] at e
    exact ⟨p, c, e⟩
  have S14 := hid (((s12.ext (by repeat (first | exact Ext.refl _ | assumption | refine Ext.more ?_ _ | refine Ext.drew ?_ | refine Ext.drewN ?_ _ | refine Ext.alloc ?_ _ | refine Ext.setCell ?_ (by simp; try omega) _ | refine Ext.trans ?_ (by assumption)))).ext X13.out).ext x14)
  clear s12 o14 x14 X13
  go_wp2
  go_returns
  exact ⟨rfl, S14.out.xt.trans (by repeat (first | exact Ext.refl _ | assumption | refine Ext.more ?_ _ | refine Ext.drew ?_ | refine Ext.drewN ?_ _ | refine Ext.alloc ?_ _ | refine Ext.setCell ?_ (by simp; try omega) _ | refine Ext.trans ?_ (by assumption)))⟩
end Pk
end Go.Proofs.YtocicffmajbecaaGreat

namespace Go.Proofs.YtocicffmajbecaaGreat
open Go.RowKit
set_option linter.unusedSimpArgs false
namespace Pk
open Rw (En)
open Kn
theorem due_none {M : List En} {tick : Int} (h : ∀ e ∈ M, tick < e.2) : Ti.dueIds tick M = [] := by
  unfold Ti.dueIds
  refine Ti.sortI_of ?_ List.Pairwise.nil
  unfold Ti.isDue
  have : (M.filter fun e => decide (e.2 ≤ tick)) = [] := List.filter_eq_nil_iff.2 fun e he => by
    have := h e he
    simp; omega
  rw [this]
  simp
theorem sig_none {k : Kd} {x : Nat} (hx : x < 4) (hW : k.W x = []) : (Ob.sigR x k.c k.W).err = 0 ∧ signalK k x = { k with c := Ob.upd k.c x (min (k.c x + 1) 255) } := by
  rcases signal_cases k x with ⟨h, -⟩ | ⟨i, hi, e, h1, h2, h3⟩ | ⟨i, id, rest, hi, e, h1, -⟩
  · omega
  · obtain rfl : x = i := by omega
    exact ⟨by rw [h2], h3⟩
  · obtain rfl : x = i := by omega
    rw [hW] at h1; cases h1
theorem sig_one {k : Kd} {x : Nat} {id : Int} {rest : List Int} (hx : x < 4) (hW : k.W x = id :: rest) : (Ob.sigR x k.c k.W).err = 0 ∧ signalK k x = { k with l := rdyL k.l id true, W := Ob.upd k.W x rest } := by
  rcases signal_cases k x with ⟨h, -⟩ | ⟨i, hi, e, h1, h2, h3⟩ | ⟨i, id', rest', hi, e, h1, h2, h3⟩
  · omega
  · obtain rfl : x = i := by omega
    rw [hW] at h1; cases h1
  · obtain rfl : x = i := by omega
    rw [hW] at h1
    injection h1 with e1 e2
    subst e1 e2
    exact ⟨by rw [h2], h3⟩
/-- One who is ready begins to wait. -/
theorem wait_new {th gr : Int} {k : Kd} (hk : KOk th gr k) {id : Int} {x : Nat} (hx : x < 4) (hs : stU k.l id = some true) (hc : k.c x = 0) : (waitA k id x).on = false ∧ (waitA k id x).err = 0 ∧ waitK k id x = { k with l := rdyL k.l id false, W := Ob.upd k.W x (k.W x ++ [id]) } := by
  rcases wait_cases hk id x with ⟨e, h0, h1, h2, h3, -⟩ | ⟨i, hi, e, -, h1, -⟩ | ⟨i, hi, e, -, h1, h2, h3⟩
  · exfalso
    have h10 : e = 10 := h1.resolve_left fun e13 => (h2.1 e13) hs
    subst h10
    unfold waitA at h3
    rw [if_pos (rdyE_zero.2 hs)] at h3
    unfold Ob.waitR at h3
    rw [if_neg (by omega)] at h3
    split at h3
    · cases h3
    · split at h3 <;> cases h3
  · obtain rfl : x = i := by omega
    omega
  · obtain rfl : x = i := by omega
    exact ⟨by rw [h2], by rw [h2], h3⟩
/-- One who is ready goes on. -/
theorem wait_go {th gr : Int} {k : Kd} (hk : KOk th gr k) {id : Int} {x : Nat} (hx : x < 4) (hs : stU k.l id = some true) (hc : 0 < k.c x) : (waitA k id x).on = true ∧ (waitA k id x).err = 0 ∧ waitK k id x = { k with c := Ob.upd k.c x (k.c x - 1) } := by
  rcases wait_cases hk id x with ⟨e, h0, h1, h2, h3, -⟩ | ⟨i, hi, e, -, h1, h2, h3⟩ | ⟨i, hi, e, -, h1, -⟩
  · exfalso
    have h10 : e = 10 := h1.resolve_left fun e13 => (h2.1 e13) hs
    subst h10
    unfold waitA at h3
    rw [if_pos (rdyE_zero.2 hs)] at h3
    unfold Ob.waitR at h3
    rw [if_neg (by omega)] at h3
    split at h3
    · cases h3
    · split at h3 <;> cases h3
  · obtain rfl : x = i := by omega
    exact ⟨by rw [h2], by rw [h2], h3⟩
  · obtain rfl : x = i := by omega
    omega
theorem rdyE_13 {k : Kd} {id : Int} (h : stU k.l id ≠ some true) : rdyE k id = 13 := by
  unfold rdyE
  rw [if_neg h]
theorem exit_zero {k : Kd} {id : Int} {r : Bool} (h : stU k.l id = some r) : exitE k id = 0 ∧ exitK k id = { k with l := remL k.l id, M := Ti.others id k.M, W := Ob.others id k.W } := by
  have e1 : exitE k id = 0 := by unfold exitE; rw [if_neg (by rw [h]; simp)]
  exact ⟨e1, by unfold exitK; rw [if_pos e1]⟩
end Pk
end Go.Proofs.YtocicffmajbecaaGreat

namespace Go.Proofs.YtocicffmajbecaaGreat
open Go.RowKit
set_option linter.unusedSimpArgs false
set_option maxRecDepth 100000
namespace Pk
open Rw (En)
open Kn

structure V where
  r : Int → Option Bool
  last : Int
  c : Nat → Int
  W : Nat → List Int
  M : List En
  n : Int
/-- One told ready or not. -/
def V.turn (v : V) (id : Int) (q : Option Bool) : V := { v with r := fun j => if j = id then q else v.r j }
def KV (w0 : World) (b : Nat) (v : V) (w : World) : Prop :=
  ∃ k, S w0 b 8 0 k w ∧ k.last = v.last ∧ (∀ j, stU k.l j = v.r j) ∧ (∀ x, x < 4 → k.c x = v.c x) ∧ (∀ x, x < 4 → k.W x = v.W x) ∧ k.M = v.M ∧ (cntT k.l : Int) = v.n
def v0 : V := ⟨fun j => if j = 1 then some true else none, 1, fun _ => 0, fun _ => [], [], 1⟩
theorem stU_k0 (j : Int) : stU k0.l j = if j = 1 then some true else none := by
  have e : k0.l = [⟨0, -1, 1, 0, false, true, 0⟩, ⟨1, 0, 1, 0, true, true, 0⟩] := by kernel_rfl
  rw [e]
  unfold stU getU
  by_cases h0 : j = 0
  · subst h0; rfl
  · by_cases h1 : j = 1
    · subst h1; rfl
    · have a0 : ((0 : Int) == j) = false := by simpa using fun e : (0 : Int) = j => h0 e.symm
      have a1 : ((1 : Int) == j) = false := by simpa using fun e : (1 : Int) = j => h1 e.symm
      simp [List.find?, a0, a1, h1]
section
variable {w0 w w' : World} {b x : Nat} {v : V} {id : Int}
theorem KV.ext (h : KV w0 b v w) (e : Ext w w') : KV w0 b v w' := by
  obtain ⟨k, h1, h2⟩ := h
  exact ⟨k, h1.ext e, h2⟩
theorem KV.lt (h : KV w0 b v w) : b < w.heap.size := by
  obtain ⟨k, h1, -⟩ := h
  exact h1.lt
theorem KV.xt (h : KV w0 b v w) : Ext w0 w := by
  obtain ⟨k, h1, -⟩ := h
  exact h1.xt
/-- Told alike. -/
theorem KV.told {u : V} (h : KV w0 b v w) (hl : v.last = u.last) (hr : ∀ j, v.r j = u.r j) (hc : ∀ x, x < 4 → v.c x = u.c x) (hW : ∀ x, x < 4 → v.W x = u.W x) (hM : v.M = u.M) (hn : v.n = u.n) : KV w0 b u w := by
  obtain ⟨k, h1, h2, h3, h4, h5, h6, h7⟩ := h
  exact ⟨k, h1, h2.trans hl, fun j => (h3 j).trans (hr j), fun x hx => (h4 x hx).trans (hc x hx), fun x hx => (h5 x hx).trans (hW x hx), h6.trans hM, h7.trans hn⟩
theorem kv_new (w0 w : World) (hx : Ext w0 w) :
    Calls Tryz.prog 11 #[.int .i64 8, .int .i64 0] w fun e w' => ∃ b, e = .returned (.pointer (some ⟨b, 0, none⟩)) ∧ KV w0 b v0 w' ∧ Ext w w' :=
  (k_new w0 w hx 8 0).mono fun _ _ ⟨b, q, h, x⟩ => ⟨b, q, ⟨k0, h, rfl, stU_k0, fun _ _ => rfl, fun _ _ => rfl, rfl, by decide⟩, x⟩
theorem stU_spawn {th gr : Int} {k : Kd} (hk : KOk th gr k) {p wt : Int} (h : spawnE th k p wt = 0) (j : Int) : stU (spawnK th k p wt).l j = if j = k.last + 1 then some true else stU k.l j := by
  have hl1 := hk.l1
  have hz := addK_zero (k := k) (q := th - cntT k.l) (p := p) (wt := wt) (t := true) (by rw [addE_spawn hk]; exact h)
  have hs := fun j => stU_add hk.wf hz j
  unfold spawnK
  rw [if_pos h]
  show stU (rdyL (addL k.l p (k.last + 1) wt true) (k.last + 1) true) j = _
  rw [stU_rdy (b := false) (hk.wf.addL _ _ _ _) (by rw [hs, if_pos rfl]; rfl) true j, hs]
  by_cases e : j = k.last + 1
  · rw [if_pos e, if_pos e]
  · rw [if_neg e, if_neg e, if_neg e]
theorem spawn_cntT {th gr : Int} {k : Kd} (hk : KOk th gr k) {p wt : Int} (h : spawnE th k p wt = 0) : cntT (spawnK th k p wt).l = cntT k.l + 1 := by
  have hl1 := hk.l1
  have hz := addK_zero (k := k) (q := th - cntT k.l) (p := p) (wt := wt) (t := true) (by rw [addE_spawn hk]; exact h)
  obtain ⟨q1, q2, -⟩ := cnt_add (l := k.l) (by omega) hz
  unfold spawnK
  rw [if_pos h]
  show cntT (rdyL (addL k.l p (k.last + 1) wt true) (k.last + 1) true) = _
  rw [(cnt_same (kd_rdy _ _ _)).1, q1]; rfl
theorem root_grp {l : List Nd} (hw : Wf l) : grpU l 0 = true := by
  obtain ⟨r, hr, h0, -, ht⟩ := hw.root
  unfold grpU
  rw [← h0, getU_of hw.sk.ids hr]
  simp [ht]
theorem kv_spawn (h : KV w0 b v w) (hn : v.n < 8) (hl : v.last ≤ 1000) :
    Calls Tryz.prog 12 #[.pointer (some ⟨b, 0, none⟩), .int .i64 0, .int .i64 1] w fun e w' => e = .returned (.tuple #[.int .i64 (v.last + 1), .nilIface]) ∧
      KV w0 b { v with r := fun j => if j = v.last + 1 then some true else v.r j, last := v.last + 1, n := v.n + 1 } w' := by
  obtain ⟨k, h1, h2, h3, h4, h5, h6, h7⟩ := h
  have he : spawnE 8 k 0 1 = 0 := by
    unfold spawnE
    rw [if_neg (by decide), if_neg (by rw [root_grp h1.ok.wf]; decide), if_neg (by omega)]
  have hk : spawnK 8 k 0 1 = { k with l := (spawnK 8 k 0 1).l, last := k.last + 1 } := by unfold spawnK; rw [if_pos he]
  refine (spawn_ok h1 (by omega) he (by rw [h2]) rfl).mono fun e w' ⟨q, s⟩ => ⟨q, _, s, ?_, fun j => ?_, ?_, ?_, ?_, ?_⟩
  · rw [hk]; show k.last + 1 = v.last + 1; rw [h2]
  · rw [stU_spawn h1.ok he, h2, h3]
  · rw [hk]; exact h4
  · rw [hk]; exact h5
  · rw [hk]; exact h6
  · rw [spawn_cntT h1.ok he]
    show ((cntT k.l + 1 : Nat) : Int) = v.n + 1
    omega
theorem cntT_rdy (l : List Nd) (id : Int) (r : Bool) : cntT (rdyL l id r) = cntT l := (cnt_same (kd_rdy l id r)).1
theorem kv_wait (h : KV w0 b v w) (hl : v.last ≤ 1000) (hr : v.r id = some true) (hx : x < 4) (hc : v.c x = 0) :
    Calls Tryz.prog 17 #[.pointer (some ⟨b, 0, none⟩), .int .i64 id, .int .i64 x] w fun e w' => e = .returned (.tuple #[.bool false, .nilIface]) ∧ KV w0 b { v.turn id (some false) with W := Ob.upd v.W x (v.W x ++ [id]) } w' := by
  obtain ⟨k, h1, h2, h3, h4, h5, h6, h7⟩ := h
  have hs : stU k.l id = some true := (h3 id).trans hr
  obtain ⟨a1, a2, a3⟩ := wait_new h1.ok hx hs (by rw [h4 x hx, hc])
  refine (wait_ok h1 (by omega) a1 a2 a3).mono fun e w' ⟨q, s⟩ => ⟨q, _, s, h2, fun j => ?_, h4, fun y hy => ?_, h6, ?_⟩
  · show stU (rdyL k.l id false) j = if j = id then some false else v.r j
    rw [stU_rdy h1.ok.wf hs, h3]
  · show Ob.upd k.W x (k.W x ++ [id]) y = Ob.upd v.W x (v.W x ++ [id]) y
    unfold Ob.upd
    rw [h5 x hx, h5 y hy]
  · show ((cntT (rdyL k.l id false) : Nat) : Int) = v.n
    rw [cntT_rdy]; exact h7
theorem kv_go (h : KV w0 b v w) (hl : v.last ≤ 1000) (hr : v.r id = some true) (hx : x < 4) (hc : 0 < v.c x) :
    Calls Tryz.prog 17 #[.pointer (some ⟨b, 0, none⟩), .int .i64 id, .int .i64 x] w fun e w' => e = .returned (.tuple #[.bool true, .nilIface]) ∧ KV w0 b { v with c := Ob.upd v.c x (v.c x - 1) } w' := by
  obtain ⟨k, h1, h2, h3, h4, h5, h6, h7⟩ := h
  obtain ⟨a1, a2, a3⟩ := wait_go h1.ok hx ((h3 id).trans hr) (by rw [h4 x hx]; exact hc)
  refine (wait_ok h1 (by omega) a1 a2 a3).mono fun e w' ⟨q, s⟩ => ⟨q, _, s, h2, h3, fun y hy => ?_, h5, h6, h7⟩
  show Ob.upd k.c x (k.c x - 1) y = Ob.upd v.c x (v.c x - 1) y
  unfold Ob.upd
  rw [h4 x hx, h4 y hy]
theorem kv_sig1 {rest : List Int} (h : KV w0 b v w) (hx : x < 4) (hW : v.W x = id :: rest) :
    Calls Tryz.prog 21 #[.pointer (some ⟨b, 0, none⟩), .int .i64 x] w fun e w' => e = .returned .nilIface ∧ KV w0 b { v.turn id (some true) with W := Ob.upd v.W x rest } w' := by
  obtain ⟨k, h1, h2, h3, h4, h5, h6, h7⟩ := h
  have hkW : k.W x = id :: rest := (h5 x hx).trans hW
  obtain ⟨a1, a2⟩ := sig_one hx hkW
  have hs : stU k.l id = some false := (h1.ok.head hx hkW).1
  refine (signal_ok h1 a1 a2).mono fun e w' ⟨q, s⟩ => ⟨q, _, s, h2, fun j => ?_, h4, fun y hy => ?_, h6, ?_⟩
  · show stU (rdyL k.l id true) j = if j = id then some true else v.r j
    rw [stU_rdy h1.ok.wf hs, h3]
  · show Ob.upd k.W x rest y = Ob.upd v.W x rest y
    unfold Ob.upd
    rw [h5 y hy]
  · show ((cntT (rdyL k.l id true) : Nat) : Int) = v.n
    rw [cntT_rdy]; exact h7
theorem kv_sig0 (h : KV w0 b v w) (hx : x < 4) (hW : v.W x = []) :
    Calls Tryz.prog 21 #[.pointer (some ⟨b, 0, none⟩), .int .i64 x] w fun e w' => e = .returned .nilIface ∧ KV w0 b { v with c := Ob.upd v.c x (min (v.c x + 1) 255) } w' := by
  obtain ⟨k, h1, h2, h3, h4, h5, h6, h7⟩ := h
  obtain ⟨a1, a2⟩ := sig_none hx ((h5 x hx).trans hW)
  refine (signal_ok h1 a1 a2).mono fun e w' ⟨q, s⟩ => ⟨q, _, s, h2, h3, fun y hy => ?_, h5, h6, h7⟩
  show Ob.upd k.c x (min (k.c x + 1) 255) y = Ob.upd v.c x (min (v.c x + 1) 255) y
  unfold Ob.upd
  rw [h4 x hx, h4 y hy]
theorem kv_sleep (h : KV w0 b v w) (hl : v.last ≤ 1000) (hr : v.r id = some true) (u : Int) :
    Calls Tryz.prog 16 #[.pointer (some ⟨b, 0, none⟩), .int .i64 id, .int .i64 u] w fun e w' => e = .returned .nilIface ∧ KV w0 b { v.turn id (some false) with M := Ti.put id u v.M } w' := by
  obtain ⟨k, h1, h2, h3, h4, h5, h6, h7⟩ := h
  have hs : stU k.l id = some true := (h3 id).trans hr
  have he := rdyE_zero.2 hs
  refine (sleep_ok h1 (by omega) he (u := u) (k' := { k with l := rdyL k.l id false, M := Ti.put id u k.M }) (by unfold sleepK; rw [if_pos he])).mono fun e w' ⟨q, s⟩ => ⟨q, _, s, h2, fun j => ?_, h4, h5, ?_, ?_⟩
  · show stU (rdyL k.l id false) j = if j = id then some false else v.r j
    rw [stU_rdy h1.ok.wf hs, h3]
  · show Ti.put id u k.M = Ti.put id u v.M
    rw [h6]
  · show ((cntT (rdyL k.l id false) : Nat) : Int) = v.n
    rw [cntT_rdy]; exact h7
theorem kv_exit {q : Bool} (h : KV w0 b v w) (hl : v.last ≤ 1000) (hr : v.r id = some q) :
    Calls Tryz.prog 14 #[.pointer (some ⟨b, 0, none⟩), .int .i64 id] w fun e w' => e = .returned .nilIface ∧ KV w0 b { v.turn id none with M := Ti.others id v.M, W := Ob.others id v.W, n := v.n - 1 } w' := by
  obtain ⟨k, h1, h2, h3, h4, h5, h6, h7⟩ := h
  have hs : stU k.l id = some q := (h3 id).trans hr
  obtain ⟨a1, a2⟩ := exit_zero hs
  obtain ⟨c1, -⟩ := cnt_rem h1.ok.wf hs
  refine (exit_ok h1 (by omega) a1 a2).mono fun e w' ⟨q, s⟩ => ⟨q, _, s, h2, fun j => ?_, h4, fun y hy => ?_, ?_, ?_⟩
  · show stU (remL k.l id) j = if j = id then none else v.r j
    rw [stU_rem h1.ok.wf hs, h3]
  · show Ob.others id k.W y = Ob.others id v.W y
    exact Ob.others_same (h5 y hy)
  · show Ti.others id k.M = Ti.others id v.M
    rw [h6]
  · show ((cntT (remL k.l id) : Nat) : Int) = v.n - 1
    omega
theorem kv_wake (h : KV w0 b v w) (tick : Int) {ds : List Int} (hd : Ti.dueIds tick v.M = ds) :
    Calls Tryz.prog 20 #[.pointer (some ⟨b, 0, none⟩), .int .i64 tick] w fun e w' => ∃ vd, e = .returned vd ∧ KV w0 b { v with r := fun j => if j ∈ ds then some true else v.r j, M := Ti.sleepOn tick v.M } w' ∧
      w'.ownsRow w.heap.size 3 1 vd ds.length (ds.map fun i => .int .i64 i) := by
  obtain ⟨k, h1, h2, h3, h4, h5, h6, h7⟩ := h
  subst hd
  refine (k_wake h1 (by rw [h6]) rfl).mono fun e w' ⟨vd, q, s, o⟩ => ⟨vd, q, ⟨_, s, h2, fun j => ?_, h4, h5, ?_, ?_⟩, o⟩
  · rw [(h1.ok.wake tick).2 j, h6, h3]
  · show Ti.sleepOn tick k.M = Ti.sleepOn tick v.M
    rw [h6]
  · show ((cntT (wakes k.l (Ti.dueIds tick k.M)) : Nat) : Int) = v.n
    rw [(cnt_same (kd_wakes _ _)).1]; exact h7
theorem rdy_mem {k : Kd} {th gr : Int} (hk : KOk th gr k) (hs : stU k.l id = some true) : ∃ n ∈ k.l, n.id = id ∧ n.rdy = true := by
  obtain ⟨n, hn, e1, -, e3⟩ := (stU_some hk.wf.sk.ids).1 hs
  exact ⟨n, hn, e1, e3⟩
theorem kv_run (h : KV w0 b v w) (hr : v.r id = some true) (ho : ∀ j, v.r j = some true → j = id) :
    Calls Tryz.prog 15 #[.pointer (some ⟨b, 0, none⟩)] w fun e w' => e = .returned (.tuple #[.int .i64 id, .bool true]) ∧ KV w0 b v w' := by
  obtain ⟨k, h1, h2, h3, h4, h5, h6, h7⟩ := h
  obtain ⟨n, hn, e1, e3⟩ := rdy_mem h1.ok ((h3 id).trans hr)
  obtain ⟨r, R, -, -, -, hR, -⟩ := h1.ok.wf.quantum hn e3
  have hk : runK k.l = (R.1, true) := by simp [runK, hR]
  obtain ⟨-, -, hst⟩ := run_st h1.ok hk
  have hid : R.1 = id := ho _ ((h3 _).symm.trans hst)
  rw [hid] at hk
  refine (k_run h1 hk rfl).mono fun e w' ⟨q, s⟩ => ⟨q, _, s, h2, fun j => ?_, h4, h5, h6, ?_⟩
  · show stU (runL k.l) j = v.r j
    rw [stU_run h1.ok.wf]; exact h3 j
  · show ((cntT (runL k.l) : Nat) : Int) = v.n
    rw [(cnt_same (kd_sim (runL_sim k.l).s)).1]; exact h7
theorem kv_quiet (h : KV w0 b v w) (ho : ∀ j, v.r j ≠ some true) : Calls Tryz.prog 23 #[.pointer (some ⟨b, 0, none⟩)] w (Yields w (.bool false)) := by
  obtain ⟨k, h1, h2, h3, h4, h5, h6, h7⟩ := h
  refine k_runnable h1 ?_
  obtain ⟨r, hr, h0, hq⟩ := h1.ok.wf.quiet fun m hm ht => by
    cases hrd : m.rdy with
    | false => rfl
    | true => exact absurd ((h3 m.id).symm.trans ((stU_some h1.ok.wf.sk.ids).2 ⟨m, hm, rfl, ht, hrd⟩)) (ho m.id)
  unfold rootR
  rw [← h0, getU_of h1.ok.wf.sk.ids hr]
  exact hq
theorem kv_ready {q : Bool} (h : KV w0 b v w) (hr : v.r id = some q) : Calls Tryz.prog 19 #[.pointer (some ⟨b, 0, none⟩), .int .i64 id] w (Yields w (.bool q)) := by
  obtain ⟨k, h1, h2, h3, -⟩ := h
  exact readyL_to h1 (rdN_of ((h3 id).trans hr))
end
end Pk
end Go.Proofs.YtocicffmajbecaaGreat

namespace Go.Proofs.YtocicffmajbecaaGreat
open Go.ChangeShapes Go.WideShapes Go.ChangeAt Go.RowKit Go.Joins Go.Deep
set_option linter.unusedSimpArgs false
set_option maxRecDepth 100000

namespace kernelGroups
open Pk Kn
/-- The group that the i-th is laid in; the kernel with i groups in one another; a thread of weight 2 within. -/
def pp (i : Nat) : Int := if i = 0 then 0 else (i : Int) + 1
def G (x : Int) : Nat → Kd
  | 0 => k0
  | i + 1 => groupK 4 (G x i) (pp i) x
def F (x : Int) (d : Nat) : Kd := spawnK 8 (G x d) (pp d) 2
def wX (x : Int) (d : Nat) : Int := if d = 0 then 2 else x
theorem G_facts : ∀ x : Fin 16, ∀ i : Fin 4, (G ((x.val : Int) + 1) i.val).last = (i.val : Int) + 1 ∧ groupE 4 (G ((x.val : Int) + 1) i.val) (pp i.val) ((x.val : Int) + 1) = (if i.val < 3 then 0 else 12) ∧ spawnE 8 (G ((x.val : Int) + 1) i.val) (pp i.val) 2 = 0 := by decide +kernel
def chk (x : Int) (d : Nat) : Bool :=
  ((F x d).l.any fun m => m.id == 1 && m.par == 0 && m.rdy && m.wt == 1) && ((F x d).l.any fun m => m.id == 2 && m.par == 0 && m.rdy && m.wt == wX x d) &&
    ((F x d).l.all fun m => (!m.thr || m.id == 1 || m.id == (d : Int) + 2) && (m.par != 0 || m.id == 1 || m.id == 2) && (m.id != 1 || m.thr))
theorem chk_facts : ∀ x : Fin 16, ∀ i : Fin 4, chk ((x.val : Int) + 1) i.val = true := by decide +kernel
theorem of_is : ∀ x : Fin 16, ((x.val : Int) + 1) * ofW ((x.val : Int) + 1) = 720720 := by decide
/-- Two in the root, both ready: thread 1, and who holds thread t. -/
structure Duo (l : List Nd) (X t P Q h k : Int) : Prop where
  wf : Wf l
  thr : ∀ n ∈ l, n.thr = true → n.id = 1 ∨ n.id = t
  kid : ∀ n ∈ l, n.par = 0 → n.id = 1 ∨ n.id = 2
  one : ∀ n ∈ l, n.id = 1 → n.thr = true
  cnt : ∃ B, Cnt l 1 1 P k B ∧ Cnt l 2 X Q h B
  near : -(ofW X) ≤ P - Q ∧ P - Q ≤ ofW 1
theorem Duo.start {l : List Nd} {X t : Int} (hw : Wf l) (h1 : ∀ n ∈ l, n.thr = true → n.id = 1 ∨ n.id = t) (h2 : ∀ n ∈ l, n.par = 0 → n.id = 1 ∨ n.id = 2) (h3 : ∀ n ∈ l, n.id = 1 → n.thr = true)
    {m n : Nd} (hm : m ∈ l) (hn : n ∈ l) (m1 : m.id = 1 ∧ m.par = 0 ∧ m.rdy = true ∧ m.wt = 1) (n1 : n.id = 2 ∧ n.par = 0 ∧ n.rdy = true ∧ n.wt = X) : ∃ P Q, Duo l X t P Q 0 0 := by
  have hd := hw.near hm hn (m1.2.1.trans n1.2.1.symm) (by omega) m1.2.2.1 n1.2.2.1
  rw [m1.2.2.2, n1.2.2.2] at hd
  exact ⟨m.pass, n.pass, hw, h1, h2, h3, ⟨0, ⟨m, hm, m1.1, m1.2.1, m1.2.2.1, m1.2.2.2, by omega⟩, ⟨n, hn, n1.1, n1.2.1, n1.2.2.1, n1.2.2.2, by omega⟩⟩, by omega, hd.1⟩
theorem Duo.run {l : List Nd} {X t P Q h k : Int} (d : Duo l X t P Q h k) : ∃ n, runK l = (n, true) ∧ (n = 1 ∧ Duo (runL l) X t P Q h (k + 1) ∨ n = t ∧ Duo (runL l) X t P Q (h + 1) k) := by
  obtain ⟨hw, h1, h2, h3, ⟨B, c1, c2⟩, hn⟩ := d
  obtain ⟨r, hr, r0, rr⟩ := c1.rdy hw
  obtain ⟨R, b, s, q1, q2, q3, q4, q5, q6, q7, q8, q9, q10, q11, m', hm', e1, e2, e3⟩ := hw.root_quantum hr r0 rr
  have hk : runK l = (R.1, true) := by simp [runK, q1]
  have hl : runL l = upR 6 R.2 R.1 := by simp [runL, q1]
  have d1 := Cnt.step q9 c1
  have d2 := Cnt.step q9 c2
  have g1 : ∀ n ∈ upR 6 R.2 R.1, n.thr = true → n.id = 1 ∨ n.id = t := fun n hn ht => by
    obtain ⟨n0, hn0, ek⟩ := q3.back hn
    obtain ⟨k1, k2, k3, -⟩ := keyR_eq ek
    rw [← k1]; exact h1 n0 hn0 (k3.trans ht)
  have g2 : ∀ n ∈ upR 6 R.2 R.1, n.par = 0 → n.id = 1 ∨ n.id = 2 := fun n hn ht => by
    obtain ⟨n0, hn0, ek⟩ := q3.back hn
    obtain ⟨k1, k2, k3, -⟩ := keyR_eq ek
    rw [← k1]; exact h2 n0 hn0 (k2.trans ht)
  have g3 : ∀ n ∈ upR 6 R.2 R.1, n.id = 1 → n.thr = true := fun n hn ht => by
    obtain ⟨n0, hn0, ek⟩ := q3.back hn
    obtain ⟨k1, k2, k3, -⟩ := keyR_eq ek
    rw [← k3]; exact h3 n0 hn0 (k1.trans ht)
  refine ⟨R.1, hk, ?_⟩
  rw [hl]
  rcases h2 b q4 q5 with e | e
  · have hR := q11 (h3 b q4 e)
    rw [if_pos e.symm] at d1
    rw [if_neg (by omega)] at d2
    exact .inl ⟨hR.trans e, q2, g1, g2, g3, ⟨_, d1, d2⟩, hn⟩
  · rw [if_neg (by omega)] at d1
    rw [if_pos e.symm] at d2
    refine .inr ⟨?_, q2, g1, g2, g3, ⟨_, d1, d2⟩, hn⟩
    rcases h1 m' hm' e2 with e4 | e4
    · exfalso
      rcases q10 with a | a
      · omega
      · obtain ⟨m, hm, f1, f2, -⟩ := c1
        rw [← e1, e4, ← f1] at a
        have := a.low hw hm f2
        omega
    · omega
theorem Duo.fair {l : List Nd} {X t P Q : Int} {h k : Nat} (d : Duo l X t P Q h k) (hk : h + k = 34) (hX : 1 ≤ X ∧ X ≤ 16) : 34 * X - 2 * (X + 1) ≤ h * (X + 1) ∧ h * (X + 1) ≤ 34 * X + 2 * (X + 1) := by
  obtain ⟨hw, h1, h2, h3, ⟨B, c1, c2⟩, hn⟩ := d
  have hf := c1.fair hw c2 hn (by omega) (by omega)
  unfold fairW at hf
  have hh' : heldW (h : Int) 1048576 = h := by unfold heldW; omega
  have hk' : heldW (k : Int) 1048576 = k := by unfold heldW; omega
  rw [hh', hk', decide_eq_true_iff] at hf
  obtain ⟨y, rfl⟩ : ∃ y : Fin 16, X = (y.val : Int) + 1 := ⟨⟨(X - 1).toNat, by omega⟩, by show X = ((X - 1).toNat : Int) + 1; omega⟩
  have ho := of_is y
  have o1 : ofW 1 = 720720 := by decide
  rw [o1] at hf
  generalize hX' : (y.val : Int) + 1 = X at *
  generalize ofW X = o at *
  have hD : -(o + 720720) ≤ (k : Int) * 720720 - h * o ∧ (k : Int) * 720720 - h * o ≤ o + 720720 := by omega
  have a1 := Int.mul_le_mul_of_nonneg_left hD.1 (show 0 ≤ X by omega)
  have a2 := Int.mul_le_mul_of_nonneg_left hD.2 (show 0 ≤ X by omega)
  have b1 : X * ((k : Int) * 720720 - h * o) = 720720 * (X * k) - h * 720720 := by
    rw [Int.mul_sub, Int.mul_left_comm X (h : Int) o, ho, ← Int.mul_assoc, Int.mul_comm (X * (k : Int)) 720720]
  have b2 : X * (o + 720720) = 720720 + X * 720720 := by rw [Int.mul_add, ho]
  have b3 : X * -(o + 720720) = -(720720 + X * 720720) := by rw [Int.mul_neg, b2]
  rw [b1, b2] at a2
  rw [b1, b3] at a1
  have c : X * (k : Int) = 34 * X - h * X := by
    rw [show (k : Int) = 34 - h by omega, Int.mul_sub, Int.mul_comm X 34, Int.mul_comm X (h : Int)]
  rw [c] at a1 a2
  rw [show (h : Int) * (X + 1) = h * X + h by rw [Int.mul_add, Int.mul_one]]
  generalize (h : Int) * X = hx at *
  omega
section
variable {w0 w : World} {b i d x : Nat}
theorem group (hs : S w0 b 8 4 (G x i) w) (hx : 1 ≤ x ∧ x ≤ 16) (hi : i < 3) {p : Int} (hp : p = pp i) :
    Calls Tryz.prog 13 #[.pointer (some ⟨b, 0, none⟩), .int .i64 p, .int .i64 x] w fun e w' => e = .returned (.tuple #[.int .i64 (i + 2), .nilIface]) ∧ S w0 b 8 4 (G x (i + 1)) w' := by
  subst hp
  obtain ⟨a1, a2, -⟩ := G_facts ⟨x - 1, by omega⟩ ⟨i, by omega⟩
  simp only at a1 a2
  rw [show ((x - 1 : Nat) : Int) + 1 = x by omega] at a1 a2
  rw [if_pos hi] at a2
  exact group_ok hs (by omega) a2 (by omega) rfl
theorem groupX (hs : S w0 b 8 4 (G x 3) w) (hx : 1 ≤ x ∧ x ≤ 16) {p : Int} (hp : p = pp 3) :
    Calls Tryz.prog 13 #[.pointer (some ⟨b, 0, none⟩), .int .i64 p, .int .i64 x] w fun e w' => e = .returned (.tuple #[.int .i64 0, .iface 40 (.int .i64 12)]) ∧ S w0 b 8 4 (G x 3) w' := by
  subst hp
  obtain ⟨a1, a2, -⟩ := G_facts ⟨x - 1, by omega⟩ ⟨3, by omega⟩
  simp only at a1 a2
  rw [show ((x - 1 : Nat) : Int) + 1 = x by omega] at a1 a2
  exact group_er hs (by omega) a2 (by decide)
def Inv (w0 : World) (b x d h i : Nat) (w : World) : Prop := ∃ k P Q, S w0 b 8 4 k w ∧ Duo k.l (wX x d) ((d : Int) + 2) P Q h ((i - h : Nat) : Int)
theorem Inv.ext {h i : Nat} {w' : World} (hI : Inv w0 b x d h i w) (e : Ext w w') : Inv w0 b x d h i w' := by
  obtain ⟨k, P, Q, h1, h2⟩ := hI
  exact ⟨k, P, Q, h1.ext e, h2⟩
theorem Inv.lt {h i : Nat} (hI : Inv w0 b x d h i w) : b < w.heap.size := by
  obtain ⟨k, P, Q, h1, h2⟩ := hI
  exact h1.lt
theorem Inv.xt {h i : Nat} (hI : Inv w0 b x d h i w) : Ext w0 w := by
  obtain ⟨k, P, Q, h1, h2⟩ := hI
  exact h1.xt
theorem spawn (hs : S w0 b 8 4 (G x d) w) (hx : 1 ≤ x ∧ x ≤ 16) (hd : d ≤ 3) {p : Int} (hp : p = pp d) :
    Calls Tryz.prog 12 #[.pointer (some ⟨b, 0, none⟩), .int .i64 p, .int .i64 2] w fun e w' => e = .returned (.tuple #[.int .i64 (d + 2), .nilIface]) ∧ Inv w0 b x d 0 0 w' := by
  subst hp
  obtain ⟨a1, -, a3⟩ := G_facts ⟨x - 1, by omega⟩ ⟨d, by omega⟩
  have hc := chk_facts ⟨x - 1, by omega⟩ ⟨d, by omega⟩
  simp only at a1 a3 hc
  rw [show ((x - 1 : Nat) : Int) + 1 = x by omega] at a1 a3 hc
  refine (spawn_ok hs (by omega) a3 (n := (d : Int) + 2) (by omega) rfl).mono fun e w' ⟨q, s⟩ => ⟨q, ?_⟩
  have hw : Wf (F x d).l := s.ok.wf
  unfold chk at hc
  simp only [Bool.and_eq_true, List.any_eq_true, List.all_eq_true, beq_iff_eq, Bool.or_eq_true, Bool.not_eq_true', bne_iff_ne, ne_eq] at hc
  obtain ⟨⟨⟨m, hm, ⟨⟨m1, m2⟩, m3⟩, m4⟩, ⟨n, hn, ⟨⟨n1, n2⟩, n3⟩, n4⟩⟩, ha⟩ := hc
  obtain ⟨P, Q, D⟩ := Duo.start (X := wX x d) (t := (d : Int) + 2) hw
    (fun z hz ht => by obtain ⟨⟨c1, c2⟩, c3⟩ := ha z hz; rw [ht] at c1; simpa using c1)
    (fun z hz hp => by obtain ⟨⟨c1, c2⟩, c3⟩ := ha z hz; exact c2.elim (fun c => .inl (c.resolve_left fun f => f hp)) .inr)
    (fun z hz hp => by obtain ⟨⟨c1, c2⟩, c3⟩ := ha z hz; exact c3.resolve_left fun f => f hp)
    hm hn ⟨m1, m2, m3, m4⟩ ⟨n1, n2, n3, n4⟩
  exact ⟨_, P, Q, s, D⟩
theorem run {h i : Nat} (hI : Inv w0 b x d h i w) (hh : h ≤ i) :
    Calls Tryz.prog 15 #[.pointer (some ⟨b, 0, none⟩)] w fun e w' => (e = .returned (.tuple #[.int .i64 1, .bool true]) ∧ Inv w0 b x d h (i + 1) w') ∨ (e = .returned (.tuple #[.int .i64 (d + 2), .bool true]) ∧ Inv w0 b x d (h + 1) (i + 1) w') := by
  obtain ⟨k, P, Q, s, D⟩ := hI
  obtain ⟨n, hn, hD⟩ := D.run
  refine (k_run s hn rfl).mono fun e w' ⟨q, s'⟩ => ?_
  rcases hD with ⟨rfl, D'⟩ | ⟨rfl, D'⟩
  · exact .inl ⟨q, _, P, Q, s', by rw [show ((i + 1 - h : Nat) : Int) = ((i - h : Nat) : Int) + 1 by omega]; exact D'⟩
  · exact .inr ⟨q, _, P, Q, s', by rw [show i + 1 - (h + 1) = i - h by omega]; exact D'⟩
theorem fin {h : Nat} (hI : Inv w0 b x d h 34 w) (hh : h ≤ 34) (hx : 1 ≤ x ∧ x ≤ 16) : 34 * wX x d - 2 * (wX x d + 1) ≤ h * (wX x d + 1) ∧ h * (wX x d + 1) ≤ 34 * wX x d + 2 * (wX x d + 1) := by
  obtain ⟨k, P, Q, s, D⟩ := hI
  exact D.fair (by omega) (by unfold wX; split <;> omega)
end
set_option maxHeartbeats 8000000 in
theorem walk (n wt : Int) (hn0 : 0 ≤ n) (hw0 : 0 ≤ wt) (w0 : World) :
    Calls Tryz.prog 6 #[.int .u8 n, .int .u8 wt] w0 (Yields w0 (.bool true)) := by
  have hqn := fun w => run_eql_nil_nil' (P := Tryz.prog) w Tryz.underlying29
  have hnn := fun w => run_neq_nil_nil' (P := Tryz.prog) w Tryz.underlying29
  obtain ⟨d, hd⟩ : ∃ d : Nat, n % 5 = d := ⟨(n % 5).toNat, by omega⟩
  obtain ⟨r, hr⟩ : ∃ r : Nat, wt % 16 = r := ⟨(wt % 16).toNat, by omega⟩
  have hd5 : d < 5 := by omega
  have er : IntKind.i64.wrap ((r : Int) + 1) = ((r + 1 : Nat) : Int) := by rw [show (r : Int) + 1 = ((r + 1 : Nat) : Int) by omega]; exact IntWalk.i64_in _ (by omega)
  obtain ⟨x, hx⟩ : ∃ x : Nat, x = r + 1 := ⟨_, rfl⟩
  rw [← hx] at er
  have HX := hid (show 1 ≤ x ∧ x ≤ 16 by omega)
  have HR := hid (And.intro hr er)
  have HD5 := hid hd5
  clear hx hd5 hr er
  go_enter Tryz.func6, Tryz.ntmps6
  go_wp2_with (first
    | (go_at_call 10; (with_reducible refine (known_any _).yields ?_); intro p0)
    | (go_at_call 11; (with_reducible refine (k_new w0 _ (by repeat (first | exact Ext.refl _ | assumption | refine Ext.more ?_ _ | refine Ext.drew ?_ | refine Ext.drewN ?_ _ | refine Ext.alloc ?_ _ | refine Ext.setCell ?_ (by simp; try omega) _ | refine Ext.trans ?_ (by assumption))) 8 4).mono ?_); rintro e v1 ⟨b, rfl, s1, x1⟩; have I0 : Hid (S w0 b 8 4 (G x 0) v1) := s1; clear s1 x1))
  (try simp only [hd])
  clear hd
  go_loopw [6, 8] (fun u v wr => ∃ (p : Int) (i : Nat), u = .int .i64 p ∧ v = .int .i64 i ∧ i ≤ d ∧ i ≤ 3 ∧ Hid (p = pp i) ∧ Hid (S w0 b 8 4 (G x i) wr)) (fun _ v _ => (10 - (intOf v).toNat))
  case atStart => exact ⟨0, 0, rfl, rfl, Nat.zero_le _, by decide, rfl, I0.out⟩
  case round =>
    obtain ⟨p, i, rfl, rfl, hi, hi3, HP, I⟩ := hrel
    have hbl := I.out.lt
    have hd5 := HD5.out
    by_cases hlt : i < d
    · have hi2 : (i : Int) < (d : Int) := by omega
      obtain ⟨hr, er⟩ := HR.out
      by_cases h3 : i = 3
      · subst h3
        have CS := hid (fun w' (e : Ext wr w') => groupX (I.out.ext e) HX.out HP.out)
        go_wp2_with (first
          | (go_at_call 13; (with_reducible refine (CS.out _ (by repeat (first | exact Ext.refl _ | assumption | refine Ext.more ?_ _ | refine Ext.drew ?_ | refine Ext.drewN ?_ _ | refine Ext.alloc ?_ _ | refine Ext.setCell ?_ (by simp; try omega) _ | refine Ext.trans ?_ (by assumption)))).mono ?_); rintro e v2 ⟨rfl, i2⟩; have I2 := hid i2; clear i2)
          | (go_at_call 18; (with_reducible refine (is_errno_to (r := true) rfl _).yields ?_); intro p1))
        go_returns
        exact ⟨rfl, I2.out.xt.trans (by repeat (first | exact Ext.refl _ | assumption | refine Ext.more ?_ _ | refine Ext.drew ?_ | refine Ext.drewN ?_ _ | refine Ext.alloc ?_ _ | refine Ext.setCell ?_ (by simp; try omega) _ | refine Ext.trans ?_ (by assumption)))⟩
      · have i3 : decide ((3 : Int) ≤ (i : Int)) = false := by rw [decide_eq_false_iff_not]; omega
        have CS := hid (fun w' (e : Ext wr w') => group (I.out.ext e) HX.out (by omega) HP.out)
        go_wp2_with (go_at_call 13; (with_reducible refine (CS.out _ (by repeat (first | exact Ext.refl _ | assumption | refine Ext.more ?_ _ | refine Ext.drew ?_ | refine Ext.drewN ?_ _ | refine Ext.alloc ?_ _ | refine Ext.setCell ?_ (by simp; try omega) _ | refine Ext.trans ?_ (by assumption)))).mono ?_); rintro e v2 ⟨rfl, i2⟩; have I2 := hid i2; clear i2)
        go_roundw
        case rel => exact ⟨(i : Int) + 2, i + 1, rfl, by go_num, by omega, by omega, by unfold Hid pp; rw [if_neg (by omega)]; omega, I2.out.ext (by repeat (first | exact Ext.refl _ | assumption | refine Ext.more ?_ _ | refine Ext.drew ?_ | refine Ext.drewN ?_ _ | refine Ext.alloc ?_ _ | refine Ext.setCell ?_ (by simp; try omega) _ | refine Ext.trans ?_ (by assumption)))⟩
        case measure => simp [intOf]; omega
    · obtain rfl : i = d := by omega
      have CS := hid (fun w' (e : Ext wr w') => spawn (I.out.ext e) HX.out hi3 HP.out)
      have ei : IntKind.i64.wrap ((i : Int) + 2) = (i : Int) + 2 := IntWalk.i64_in _ (by omega)
      have j2 : ((i : Int) + 2 != (i : Int) + 2) = false := by simp
      go_wp2_with (go_at_call 12; (with_reducible refine (CS.out _ (by repeat (first | exact Ext.refl _ | assumption | refine Ext.more ?_ _ | refine Ext.drew ?_ | refine Ext.drewN ?_ _ | refine Ext.alloc ?_ _ | refine Ext.setCell ?_ (by simp; try omega) _ | refine Ext.trans ?_ (by assumption)))).mono ?_); rintro e v2 ⟨rfl, i2⟩; have I2 := hid i2; clear i2)
      clear hlt hi ei j2
      go_loopw [13, 14] (fun u v wr => ∃ h j : Nat, u = .int .i64 h ∧ v = .int .i64 j ∧ h ≤ j ∧ j ≤ 34 ∧ Hid (Inv w0 b x i h j wr)) (fun _ v _ => (34 - (intOf v).toNat))
      case atStart => exact ⟨0, 0, rfl, rfl, Nat.le_refl _, by decide, I2.out⟩
      case round =>
        obtain ⟨h, j, rfl, rfl, hh, hj, I⟩ := hrel
        have hbk := I.out.lt
        by_cases hlt : j < 34
        · have CS := hid (fun w' (e : Ext wr w') => run (I.out.ext e) hh)
          have j1 : ((1 : Int) == (i : Int) + 2) = false := by rw [beq_eq_false_iff_ne]; omega
          have j2 : ((i : Int) + 2 != 1) = true := by rw [bne_iff_ne]; omega
          go_wp2_with fail
          (with_reducible refine (CS.out _ (by repeat (first | exact Ext.refl _ | assumption | refine Ext.more ?_ _ | refine Ext.drew ?_ | refine Ext.drewN ?_ _ | refine Ext.alloc ?_ _ | refine Ext.setCell ?_ (by simp; try omega) _ | refine Ext.trans ?_ (by assumption)))).mono ?_)
          rintro e v3 (⟨rfl, i3⟩ | ⟨rfl, i3⟩)
          · have I3 := hid i3
            clear i3
            go_wp2
            go_roundw
            case rel => exact ⟨h, j + 1, rfl, by go_num, by omega, by omega, I3.out.ext (by repeat (first | exact Ext.refl _ | assumption | refine Ext.more ?_ _ | refine Ext.drew ?_ | refine Ext.drewN ?_ _ | refine Ext.alloc ?_ _ | refine Ext.setCell ?_ (by simp; try omega) _ | refine Ext.trans ?_ (by assumption)))⟩
            case measure => simp [intOf]; omega
          · have I3 := hid i3
            clear i3
            go_wp2
            go_roundw
            case rel => exact ⟨h + 1, j + 1, by go_num, by go_num, by omega, by omega, I3.out.ext (by repeat (first | exact Ext.refl _ | assumption | refine Ext.more ?_ _ | refine Ext.drew ?_ | refine Ext.drewN ?_ _ | refine Ext.alloc ?_ _ | refine Ext.setCell ?_ (by simp; try omega) _ | refine Ext.trans ?_ (by assumption)))⟩
            case measure => simp [intOf]; omega
        · obtain rfl : j = 34 := by omega
          have hf := fin I.out hh HX.out
          have HXX := hid I.out.xt
          have hx := HX.out
          obtain ⟨hr, er⟩ := HR.out
          clear I hj hlt
          by_cases hd0 : i = 0
          · subst hd0
            rw [show wX (x : Int) 0 = 2 from rfl] at hf
            have e2 : IntKind.i64.wrap ((h : Int) * 3) = (h : Int) * 3 := IntWalk.i64_in _ (by omega)
            have j1 : decide ((62 : Int) ≤ (h : Int) * 3) = true := by rw [decide_eq_true_iff]; omega
            have j2 : decide ((h : Int) * 3 ≤ 74) = true := by rw [decide_eq_true_iff]; omega
            clear hf
            go_wp2
            go_returns
            exact ⟨rfl, HXX.out.trans (by repeat (first | exact Ext.refl _ | assumption | refine Ext.more ?_ _ | refine Ext.drew ?_ | refine Ext.drewN ?_ _ | refine Ext.alloc ?_ _ | refine Ext.setCell ?_ (by simp; try omega) _ | refine Ext.trans ?_ (by assumption)))⟩
          · have i0 : decide ((0 : Int) < (i : Int)) = true := by rw [decide_eq_true_iff]; omega
            rw [show wX (x : Int) i = x by unfold wX; rw [if_neg hd0]] at hf
            have hm : (h : Int) * ((x : Int) + 1) ≤ 578 ∧ 0 ≤ (h : Int) * ((x : Int) + 1) := by
              have := Nat.mul_le_mul hh (show x + 1 ≤ 17 by omega)
              rw [show (h : Int) * ((x : Int) + 1) = ((h * (x + 1) : Nat) : Int) by rw [Int.natCast_mul]; rfl]
              omega
            have e1 : IntKind.i64.wrap ((x : Int) + 1) = (x : Int) + 1 := IntWalk.i64_in _ (by omega)
            have e2 : IntKind.i64.wrap ((h : Int) * ((x : Int) + 1)) = (h : Int) * ((x : Int) + 1) := IntWalk.i64_in _ (by omega)
            have e3 : IntKind.i64.wrap (34 * (x : Int)) = 34 * (x : Int) := IntWalk.i64_in _ (by omega)
            have e4 : IntKind.i64.wrap (2 * ((x : Int) + 1)) = 2 * ((x : Int) + 1) := IntWalk.i64_in _ (by omega)
            have e5 : IntKind.i64.wrap (34 * (x : Int) - 2 * ((x : Int) + 1)) = 34 * (x : Int) - 2 * ((x : Int) + 1) := IntWalk.i64_in _ (by omega)
            have e6 : IntKind.i64.wrap (34 * (x : Int) + 2 * ((x : Int) + 1)) = 34 * (x : Int) + 2 * ((x : Int) + 1) := IntWalk.i64_in _ (by omega)
            have j1 : decide (34 * (x : Int) - 2 * ((x : Int) + 1) ≤ (h : Int) * ((x : Int) + 1)) = true := by rw [decide_eq_true_iff]; exact hf.1
            have j2 : decide ((h : Int) * ((x : Int) + 1) ≤ 34 * (x : Int) + 2 * ((x : Int) + 1)) = true := by rw [decide_eq_true_iff]; exact hf.2
            clear hf hm
            go_wp2
            go_returns
            exact ⟨rfl, HXX.out.trans (by repeat (first | exact Ext.refl _ | assumption | refine Ext.more ?_ _ | refine Ext.drew ?_ | refine Ext.drewN ?_ _ | refine Ext.alloc ?_ _ | refine Ext.setCell ?_ (by simp; try omega) _ | refine Ext.trans ?_ (by assumption)))⟩
set_option linter.unusedVariables false in
set_option maxRecDepth 100000 in
theorem lifted (os : Os) (started : os.Started) (H : Type) (enc : TypeId × Value → H) :
    ReturnsInHanded {} Tryz.checked os 6 .any (Rows.kernelGroupsSpec.pre6 enc Tryz.prog Tryz.f6 Rows.kernelGroupsRow.domain false) (Rows.kernelGroupsSpec.post enc Tryz.prog Tryz.f6 false true false false) := by
  refine returnsInHanded_of_change (C := Tryz.checked) Own.own started (by kernel_rfl) Tryz.func6
    (ChangeSpec.witness6 (enc := enc) (C := Tryz.checked) false ⟨#[], #[.int .u8 0, .int .u8 0], []⟩ 8 (by kernel_rfl) (by kernel_rfl) (by kernel_rfl) (by kernel_rfl)) ?_
  intro W base args ds gs before hval0 hW hcnd _
  have hval : ∀ (j : Nat) t v, Tryz.f6.params[j]? = some t → args[j]? = some v → Value.okWide Tryz.prog W .any base t v := hval0
  have hW' := hW
  obtain ⟨p, q, hA0, hV, rfl, hfz, hnd⟩ := hW
  have hA : DataW.TrodAll enc Tryz.prog W 0 (fun _ => true) true Tryz.f6.params.toList args.toList ds p := hA0
  rw [Tryz.params6] at hA hval
  obtain ⟨v0, vs0, d0, ds0, p0, q0, hargs, rfl, rfl, h0, r0⟩ := trodAll_cons hA
  obtain ⟨v1, vs1, d1, ds1, p1, q1, rfl, rfl, rfl, h1, r1⟩ := trodAll_cons r0
  obtain ⟨rfl, rfl, rfl⟩ := trodAll_nil r1
  obtain rfl : args = #[v0, v1] := by cases args; simp_all
  obtain ⟨rfl, rfl⟩ := trodVars_none hV
  have k0 := h0
  have lt0 : ∀ x ∈ p0, x.block < W.heap.size := by obtain ⟨m, hm⟩ := k0; exact DataW.trod_lt m _ _ _ hm
  have k1 := h1
  have lt1 : ∀ x ∈ p1, x.block < W.heap.size := by obtain ⟨m, hm⟩ := k1; exact DataW.trod_lt m _ _ _ hm
  obtain ⟨n0, rfl, rfl, rfl, wn0⟩ := open_int Tryz.underlying5 (hval 0 5 v0 rfl rfl) h0
  obtain ⟨n1, rfl, rfl, rfl, wn1⟩ := open_int Tryz.underlying5 (hval 1 5 v1 rfl rfl) h1
  have bn0 := bounds_u8 wn0
  have bn1 := bounds_u8 wn1
  clear hA0 hval0
  refine (walk n0 n1 (by omega) (by omega) W).mono fun e W' ⟨he, hx⟩ => ?_
  subst he
  exact ⟨_, rfl, _, _, _, [], _, [], hW', trodAll_mk1 (shut_bool Tryz.underlying4 _), (trodAll_cons_mk (Below.trod Own.laidOut (by kernel_rfl) (of_decide_eq_true (by kernel_rfl)) k0 hx.below lt0) (trodAll_cons_mk (Below.trod Own.laidOut (by kernel_rfl) (of_decide_eq_true (by kernel_rfl)) k1 hx.below lt1) trodAll_mk0)), rfl, hx.below.frame _, fun h => by cases h⟩

theorem proved : Rows.KernelGroupsSaid :=
  OpenClaim.holds_of_wide 6 Tryz.f6 rfl rfl rfl rfl rfl rfl rfl ⟨rfl, rfl, rfl, rfl, rfl⟩ rfl rfl rfl rfl rfl (by kernel_rfl) Tryz.func6 (by kernel_rfl)
    (of_decide_eq_true (by kernel_rfl)) (by unfold Func.isWrapper; first | (rw [if_pos (by decide +kernel)]; kernel_rfl) | (rw [if_neg (by decide +kernel)]; exact ⟨rfl, rfl⟩))
    (fun os started H enc _ => lifted os started H enc)

end kernelGroups
end Go.Proofs.YtocicffmajbecaaGreat
