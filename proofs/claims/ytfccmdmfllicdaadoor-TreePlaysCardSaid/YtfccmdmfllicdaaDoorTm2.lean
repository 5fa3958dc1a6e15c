/- What a quantum does to a tree as it may be. -/
import Derived.Test.YtfccmdmfllicdaaDoorTm1
namespace Go.Proofs.YtfccmdmfllicdaaDoor
open Go.RowKit

/-! ### A group's time counted anew, as a map -/
def rebN (g now : Int) (m : Nd) : Nd := if m.id = g then nowF 0 (if m.par = g then shF now m else m) else if m.par = g then shF now m else m
theorem rebN_same (g now : Int) (m : Nd) : (rebN g now m).id = m.id ∧ (rebN g now m).par = m.par ∧ (rebN g now m).thr = m.thr ∧ (rebN g now m).wt = m.wt ∧ (rebN g now m).rdy = m.rdy := by
  unfold rebN
  split <;> split <;> exact ⟨rfl, rfl, rfl, rfl, rfl⟩
theorem rebN_pass (g now : Int) (m : Nd) : (rebN g now m).pass = if m.par = g then max 0 (m.pass - now) else m.pass := by
  unfold rebN
  split <;> split <;> rfl
theorem rebN_now (g now : Int) (m : Nd) : (rebN g now m).now = if m.id = g then 0 else m.now := by
  unfold rebN
  split <;> split <;> rfl
theorem reb_map {l : List Nd} (hs : Ids l) (g : Int) : rebU l g = l.map (rebN g (nowU l g)) := by
  unfold rebU upd shK
  rw [List.map_map]
  refine List.map_congr_left fun m hm => ?_
  simp only [Function.comp]
  have hk : m.id ∈ (kidsU l g).map Nd.id ↔ m.par = g := by
    constructor
    · intro h
      obtain ⟨n, hn, e⟩ := List.mem_map.1 h
      obtain ⟨h1, h2⟩ := List.mem_filter.1 hn
      rw [← uniqU hs h1 hm e]; simpa using h2
    · intro h
      exact List.mem_map.2 ⟨m, List.mem_filter.2 ⟨hm, by simpa using h⟩, rfl⟩
  unfold rebN
  by_cases e : m.par = g
  · rw [if_pos (hk.2 e), if_pos e]; rfl
  · rw [if_neg (fun h => e (hk.1 h)), if_neg e]
theorem someT_map {l : List Nd} {f : Nd → Nd} (hf : ∀ m, (f m).par = m.par ∧ (f m).rdy = m.rdy) (g : Int) : someT (l.map f) g = someT l g := by
  rw [Bool.eq_iff_iff, someT_iff, someT_iff]
  constructor
  · rintro ⟨m', hm', hp, hr⟩
    obtain ⟨m, hm, rfl⟩ := List.mem_map.1 hm'
    rw [(hf m).1] at hp
    rw [(hf m).2] at hr
    exact ⟨m, hm, hp, hr⟩
  · rintro ⟨m, hm, hp, hr⟩
    exact ⟨f m, List.mem_map.2 ⟨m, hm, rfl⟩, by rw [(hf m).1]; exact hp, by rw [(hf m).2]; exact hr⟩
def Rd (l : List Nd) : Prop := ∀ g ∈ l, g.thr = false → g.rdy = someT l g.id
theorem Rd.map {l : List Nd} {f : Nd → Nd} (h : Rd l) (hf : ∀ m, (f m).id = m.id ∧ (f m).par = m.par ∧ (f m).thr = m.thr ∧ (f m).rdy = m.rdy) : Rd (l.map f) := by
  intro g' hg' ht
  obtain ⟨g, hg, rfl⟩ := List.mem_map.1 hg'
  rw [(hf g).2.2.1] at ht
  rw [(hf g).2.2.2, (hf g).1, someT_map (fun m => ⟨(hf m).2.1, (hf m).2.2.2⟩)]
  exact h g hg ht
theorem Num.reb {M : Int} {l : List Nd} (h : Num M l) (hsk : Sk l) {g : Nd} (hg : g ∈ l) : Num M (rebU l g.id) := by
  rw [reb_map hsk.ids, nowU_of hsk.ids hg]
  have hg0 := h.now g hg
  have hgid := (hsk.clo g hg).1
  refine ⟨fun m' hm' h0 => ?_, fun m' hm' => ?_, fun m' hm' => ?_, fun m' hm' p' hp' he => ?_⟩
  · obtain ⟨m, hm, rfl⟩ := List.mem_map.1 hm'
    rw [(rebN_same _ _ m).2.1] at h0
    have := h.top m hm h0
    rw [rebN_pass, (rebN_same _ _ m).2.2.2.1, if_neg (by omega)]
    exact this
  · obtain ⟨m, hm, rfl⟩ := List.mem_map.1 hm'
    rw [(rebN_same _ _ m).2.2.2.1]; exact h.wt m hm
  · obtain ⟨m, hm, rfl⟩ := List.mem_map.1 hm'
    have := h.now m hm
    rw [rebN_now]
    split <;> omega
  · obtain ⟨m, hm, rfl⟩ := List.mem_map.1 hm'
    obtain ⟨p, hp, rfl⟩ := List.mem_map.1 hp'
    rw [(rebN_same _ _ p).1, (rebN_same _ _ m).2.1] at he
    have hl := h.lag m hm p hp he
    rw [rebN_pass, rebN_now, (rebN_same _ _ m).2.2.2.1, (rebN_same _ _ m).2.2.2.2]
    by_cases e : p.id = g.id
    · have e2 : m.par = g.id := by rw [← he]; exact e
      obtain rfl := uniqU hsk.ids hp hg e
      rw [if_pos e2, if_pos rfl]
      have how := ofW_bounds m.wt
      exact ⟨by omega, by omega, fun _ => by omega⟩
    · have e2 : ¬ m.par = g.id := by rw [← he]; exact e
      rw [if_neg e2, if_neg e]; exact hl
theorem Sk.reb {l : List Nd} (h : Sk l) (g : Int) : Sk (rebU l g) := by
  rw [reb_map h.ids]
  exact h.map fun m => ⟨(rebN_same _ _ m).1, (rebN_same _ _ m).2.1, (rebN_same _ _ m).2.2.1⟩
theorem Rd.reb {l : List Nd} (h : Rd l) (hs : Ids l) (g : Int) : Rd (rebU l g) := by
  rw [reb_map hs]
  exact h.map fun m => ⟨(rebN_same _ _ m).1, (rebN_same _ _ m).2.1, (rebN_same _ _ m).2.2.1, (rebN_same _ _ m).2.2.2.2⟩

/-! ### Who is above whom -/
inductive Abv (l : List Nd) : Int → Int → Prop
  | one {n : Nd} : n ∈ l → Abv l n.id n.par
  | more {n : Nd} {j : Int} : n ∈ l → Abv l n.par j → Abv l n.id j
theorem Abv.map {l : List Nd} {f : Nd → Nd} (hf : ∀ m, (f m).id = m.id ∧ (f m).par = m.par) {i j : Int} (h : Abv l i j) : Abv (l.map f) i j := by
  induction h with
  | @one n hn =>
    have := Abv.one (l := l.map f) (List.mem_map.2 ⟨n, hn, rfl⟩)
    rwa [(hf n).1, (hf n).2] at this
  | @more n j hn _ ih =>
    have := Abv.more (l := l.map f) (List.mem_map.2 ⟨n, hn, rfl⟩) (by rw [(hf n).2]; exact ih)
    rwa [(hf n).1] at this
theorem Abv.up {l : List Nd} (hs : Ids l) {i j : Int} (h : Abv l i j) : ∀ k, Up l k i → ∃ m, m < k ∧ Up l m j := by
  induction h with
  | @one n hn =>
    intro k hk
    cases k with
    | zero => exact absurd rfl (getU_none.1 (show getU l n.id = none from hk) n hn)
    | succ k =>
      obtain ⟨m, hm, e, hk⟩ := hk
      rw [uniqU hs hm hn e] at hk
      exact ⟨k, Nat.lt_succ_self k, hk⟩
  | @more n j hn _ ih =>
    intro k hk
    cases k with
    | zero => exact absurd rfl (getU_none.1 (show getU l n.id = none from hk) n hn)
    | succ k =>
      obtain ⟨m, hm, e, hk⟩ := hk
      rw [uniqU hs hm hn e] at hk
      obtain ⟨q, h1, h2⟩ := ih k hk
      exact ⟨q, by omega, h2⟩
theorem Abv.irr {l : List Nd} (h : Sk l) {n : Nd} (hn : n ∈ l) : ¬ Abv l n.id n.id := fun ha => by
  obtain ⟨k, -, hk, -⟩ := h.dep n hn
  obtain ⟨m, h1, h2⟩ := ha.up h.ids k hk
  have := up_uniq _ _ _ h.ids hk h2
  omega
/-- Those whose time is too great are above i. -/
def Ovr (l : List Nd) (i : Int) : Prop := ∀ g ∈ l, 16777216 < g.now → Abv l i g.id

theorem upd_map (id : Int) (f : Nd → Nd) (l : List Nd) : upd id f l = l.map fun n => if n.id = id then f n else n := rfl
theorem mem_upd_same {l : List Nd} {id : Int} {f : Nd → Nd} {m : Nd} (hm : m ∈ l) (h : m.id ≠ id) : m ∈ upd id f l := mem_upd.2 ⟨m, hm, by rw [if_neg h]⟩
/-- One step down. -/
structure Stp (l : List Nd) (n b : Nd) (l' : List Nd) : Prop where
  sk : Sk l'
  num : Num 17497936 l'
  rd : Rd l'
  mem : goF b ∈ l'
  ovr : Ovr l' b.id
theorem step_wf {l : List Nd} {n b : Nd} (hsk : Sk l) (hnum : Num 17497936 l) (hrd : Rd l) (hn : n ∈ l) (hov : Ovr l n.id) (hb : bestU l n.id = some b) : Stp l n b (upd b.id goF (upd n.id (nowF b.pass) l)) := by
  obtain ⟨hbl, hbp, hbr, hbest⟩ := bestU_spec hsk.ids hb
  have hnow : n.now ≤ 16777216 := by
    apply Decidable.byContradiction
    intro h
    exact Abv.irr hsk hn (hov n hn (by omega))
  have hnb := hnum.now n hn
  have hlb := hnum.lag b hbl n hn hbp.symm
  have hpl := hlb.2.2 hbr
  have how := ofW_bounds b.wt
  have hne : b.id ≠ n.id := fun e => hsk.acy b hbl (by rw [hbp, e])
  have hn0 := (hsk.clo n hn).1
  have hnum1 : Num 17497936 (upd n.id (nowF b.pass) l) := by
    refine ⟨fun m' hm' h0 => ?_, fun m' hm' => ?_, fun m' hm' => ?_, fun m' hm' p' hp' he => ?_⟩
    · obtain ⟨m, hm, rfl⟩ := mem_upd.1 hm'
      rw [(ite_same (nowF_same b.pass) m).2.1] at h0
      have := hnum.top m hm h0
      split <;> exact this
    · obtain ⟨m, hm, rfl⟩ := mem_upd.1 hm'
      have := hnum.wt m hm
      split <;> exact this
    · obtain ⟨m, hm, rfl⟩ := mem_upd.1 hm'
      have := hnum.now m hm
      split
      · simp only [nowF]; omega
      · exact this
    · obtain ⟨m, hm, rfl⟩ := mem_upd.1 hm'
      obtain ⟨p, hp, rfl⟩ := mem_upd.1 hp'
      rw [(ite_same (nowF_same b.pass) p).1, (ite_same (nowF_same b.pass) m).2.1] at he
      have hl := hnum.lag m hm p hp he
      have e1 : (if m.id = n.id then nowF b.pass m else m).pass = m.pass := by split <;> rfl
      have e2 : (if m.id = n.id then nowF b.pass m else m).wt = m.wt := by split <;> rfl
      have e3 : (if m.id = n.id then nowF b.pass m else m).rdy = m.rdy := by split <;> rfl
      rw [e1, e2, e3]
      by_cases e : p.id = n.id
      · obtain rfl := uniqU hsk.ids hp hn e
        rw [if_pos rfl]
        simp only [nowF]
        refine ⟨hl.1, by omega, fun hr => ?_⟩
        rcases hbest m hm he.symm hr with rfl | h
        · exact Int.le_refl _
        · rw [lessB_iff] at h; simp only at h; omega
      · rw [if_neg e]; exact hl
  have hsk1 : Sk (upd n.id (nowF b.pass) l) := hsk.upd (nowF_same _)
  have hrd1 : Rd (upd n.id (nowF b.pass) l) := hrd.map fun m => by split <;> exact ⟨rfl, rfl, rfl, rfl⟩
  have hb1 : b ∈ upd n.id (nowF b.pass) l := mem_upd_same hbl hne
  have hn1 : nowF b.pass n ∈ upd n.id (nowF b.pass) l := mem_upd.2 ⟨n, hn, by rw [if_pos rfl]⟩
  refine ⟨hsk1.upd goF_same, ?_, hrd1.map fun m => by split <;> exact ⟨rfl, rfl, rfl, rfl⟩, mem_upd.2 ⟨b, hb1, by rw [if_pos rfl]⟩, ?_⟩
  · refine hnum1.upd hsk1.ids hb1 goF_same rfl (hnum.wt b hbl) (fun h => absurd h (by rw [hbp]; omega)) fun p hp he => ?_
    obtain rfl := uniqU hsk1.ids hp hn1 (he.trans hbp)
    simp only [goF, nowF]
    exact ⟨by omega, by omega, fun _ => by omega⟩
  · intro g' hg' hlim
    obtain ⟨g1, hg1, rfl⟩ := mem_upd.1 hg'
    obtain ⟨g, hg, rfl⟩ := mem_upd.1 hg1
    have ei : (if (if g.id = n.id then nowF b.pass g else g).id = b.id then goF (if g.id = n.id then nowF b.pass g else g) else (if g.id = n.id then nowF b.pass g else g)).id = g.id := by split <;> split <;> rfl
    have en : (if (if g.id = n.id then nowF b.pass g else g).id = b.id then goF (if g.id = n.id then nowF b.pass g else g) else (if g.id = n.id then nowF b.pass g else g)).now = if g.id = n.id then b.pass else g.now := by split <;> split <;> rfl
    rw [ei]
    rw [en] at hlim
    have key : Abv l b.id g.id := by
      by_cases e : g.id = n.id
      · rw [e, ← hbp]; exact .one hbl
      · rw [if_neg e] at hlim
        exact .more hbl (by rw [hbp]; exact hov g hg hlim)
    have k1 := key.map (f := fun m => if m.id = n.id then nowF b.pass m else m) fun m => ⟨(ite_same (nowF_same b.pass) m).1, (ite_same (nowF_same b.pass) m).2.1⟩
    exact k1.map (f := fun m => if m.id = b.id then goF m else m) fun m => ⟨(ite_same goF_same m).1, (ite_same goF_same m).2.1⟩

theorem run_wf : ∀ (f : Nat) {l : List Nd} {n : Nd} {k : Nat}, Sk l → Num 17497936 l → Rd l → n ∈ l → n.rdy = true → Ovr l n.id → Up l k n.id → 6 ≤ f + k →
    ∃ id l1, runU f l n.id = some (id, l1) ∧ Sk l1 ∧ Num 17497936 l1 ∧ Rd l1 ∧ Ovr l1 id ∧ ∃ t ∈ l1, t.id = id ∧ t.thr = true ∧ t.rdy = true
  | 0, l, n, k, hsk, hnum, hrd, hn, hr, hov, hu, hf => by
    obtain ⟨k', h1, h2, -⟩ := hsk.dep n hn
    have := up_uniq _ _ _ hsk.ids hu h2
    omega
  | f + 1, l, n, k, hsk, hnum, hrd, hn, hr, hov, hu, hf => by
    cases ht : n.thr with
    | true => exact ⟨n.id, l, runU_thr hsk.ids hn ht, hsk, hnum, hrd, hov, n, hn, rfl, ht, hr⟩
    | false =>
      cases hb : bestU l n.id with
      | none =>
        have := bestU_none.1 hb
        rw [← hrd n hn ht, hr] at this
        cases this
      | some b =>
        obtain ⟨hbl, hbp, hbr, -⟩ := bestU_spec hsk.ids hb
        have hst := step_wf hsk hnum hrd hn hov hb
        rw [runU_on hsk.ids hn ht hb]
        have hub : Up l (k + 1) b.id := ⟨b, hbl, rfl, by rw [hbp]; exact hu⟩
        have hub1 := Up.map (ite_same (id := n.id) (nowF_same b.pass)) _ _ hub
        have hub2 := Up.map (ite_same (id := b.id) goF_same) _ _ hub1
        exact run_wf f (n := goF b) hst.sk hst.num hst.rd hst.mem hbr hst.ovr hub2 (by omega)

/-- On the way up all are mended. -/
theorem up_wf : ∀ (f : Nat) {l : List Nd} {n : Nd}, Sk l → Num 17497936 l → Rd l → n ∈ l → Chain l f n.id →
    Sk (upR f l n.id) ∧ Num 17497936 (upR f l n.id) ∧ Rd (upR f l n.id) ∧ ∀ g ∈ upR f l n.id, 16777216 < g.now → ∃ g0 ∈ l, g0.id = g.id ∧ 16777216 < g0.now ∧ ¬ Abv l n.id g.id
  | 0, _, _, _, _, _, _, h => h.elim
  | f + 1, l, n, hsk, hnum, hrd, hn, hch => by
    have habv0 : n.par < 0 → ∀ g ∈ l, ¬ Abv l n.id g.id := fun h0 g hg ha => by
      have hg0 := (hsk.clo g hg).1
      generalize hi : n.id = i at ha
      generalize hj0 : g.id = j0 at ha
      cases ha with
      | @one m hm =>
        obtain rfl := uniqU hsk.ids hn hm hi
        omega
      | @more m j hm h2 =>
        obtain rfl := uniqU hsk.ids hn hm hi
        generalize hj : n.par = j at h2
        cases h2 with
        | @one q hq => have := (hsk.clo q hq).1; omega
        | @more q j hq _ => have := (hsk.clo q hq).1; omega
    by_cases h0 : n.par < 0
    · rw [upR_top hsk.ids hn h0]
      exact ⟨hsk, hnum, hrd, fun g hg hl => ⟨g, hg, rfl, hl, habv0 h0 g hg⟩⟩
    · obtain ⟨p, hp, he, -⟩ := (hsk.clo n hn).2.2 (by omega)
      have hchp : Chain l f p.id := by
        obtain ⟨m, hm, e, h⟩ := hch
        rw [uniqU hsk.ids hm hn e] at h
        rw [he]; exact h.resolve_left h0
      rw [upR_on hsk.ids hn h0 hp he]
      by_cases hgt : 16777216 < p.now
      · rw [if_pos hgt]
        have hm : rebU l p.id = l.map (rebN p.id (nowU l p.id)) := reb_map hsk.ids p.id
        have hp2 : rebN p.id (nowU l p.id) p ∈ rebU l p.id := by rw [hm]; exact List.mem_map.2 ⟨p, hp, rfl⟩
        have e2 : (rebN p.id (nowU l p.id) p).id = p.id := (rebN_same _ _ p).1
        have ih := up_wf f (hsk.reb p.id) (hnum.reb hsk hp) (hrd.reb hsk.ids p.id) hp2 (by rw [e2]; exact reb_chain _ _ _ hchp)
        rw [e2] at ih
        obtain ⟨i1, i2, i3, i4⟩ := ih
        refine ⟨i1, i2, i3, fun g hg hl => ?_⟩
        obtain ⟨g1, hg1, eg, hl1, hna⟩ := i4 g hg hl
        rw [hm] at hg1
        obtain ⟨g0, hg0, rfl⟩ := List.mem_map.1 hg1
        rw [rebN_now] at hl1
        rw [(rebN_same _ _ g0).1] at eg
        by_cases ep : g0.id = p.id
        · rw [if_pos ep] at hl1; omega
        · rw [if_neg ep] at hl1
          refine ⟨g0, hg0, eg, hl1, fun ha => ?_⟩
          generalize hi : n.id = i at ha
          generalize hj : g.id = j at ha
          cases ha with
          | @one m hm' =>
            obtain rfl := uniqU hsk.ids hn hm' hi
            exact ep (by rw [eg, hj, he])
          | @more m j hm' h2 =>
            obtain rfl := uniqU hsk.ids hn hm' hi
            refine hna ?_
            rw [hm, hj, he]
            exact h2.map fun m => ⟨(rebN_same _ _ m).1, (rebN_same _ _ m).2.1⟩
      · rw [if_neg hgt]
        obtain ⟨i1, i2, i3, i4⟩ := up_wf f hsk hnum hrd hp hchp
        refine ⟨i1, i2, i3, fun g hg hl => ?_⟩
        obtain ⟨g0, hg0, eg, hl1, hna⟩ := i4 g hg hl
        refine ⟨g0, hg0, eg, hl1, fun ha => ?_⟩
        generalize hi : n.id = i at ha
        generalize hj : g.id = j at ha
        cases ha with
        | @one m hm' =>
          obtain rfl := uniqU hsk.ids hn hm' hi
          have : g0 = p := uniqU hsk.ids hg0 hp (by rw [eg, hj, he])
          rw [this] at hl1
          omega
        | @more m j hm' h2 =>
          obtain rfl := uniqU hsk.ids hn hm' hi
          exact hna (by rw [hj, he]; exact h2)
theorem Wf.run {l : List Nd} (h : Wf l) {r : Nd} (hr : r ∈ l) (hr0 : r.id = 0) (hrd : r.rdy = true) :
    ∃ R, runU 6 l 0 = some R ∧ Wf (upR 6 R.2 R.1) ∧ ∃ t ∈ R.2, t.id = R.1 ∧ t.thr = true ∧ t.rdy = true := by
  have hnum : Num 17497936 l := ⟨h.num.top, h.num.wt, fun n hn => by have := h.num.now n hn; omega, h.num.lag⟩
  obtain ⟨k, hk1, hk2, -⟩ := h.sk.dep r hr
  obtain ⟨id, l1, h1, h2, h3, h4, h5, t, ht, e1, e2, e3⟩ := run_wf 6 h.sk hnum h.rd hr hrd (fun g hg hl => by have := h.num.now g hg; omega) hk2 (by
    cases k with
    | zero => exact absurd rfl (getU_none.1 (show getU l r.id = none from hk2) r hr)
    | succ k => omega)
  rw [hr0] at h1
  refine ⟨(id, l1), h1, ?_, t, ht, e1, e2, e3⟩
  have hu := up_wf 6 h2 h3 h4 ht (chain_succ _ _ (h2.chain ht))
  rw [e1] at hu
  obtain ⟨u1, u2, u3, u4⟩ := hu
  refine ⟨u1, ⟨u2.top, u2.wt, fun g hg => ⟨(u2.now g hg).1, ?_⟩, u2.lag⟩, u3⟩
  apply Decidable.byContradiction
  intro hl
  obtain ⟨g0, hg0, eg, hl1, hna⟩ := u4 g hg (by omega)
  exact hna (by rw [← eg]; exact h5 g0 hg0 hl1)
end Go.Proofs.YtfccmdmfllicdaaDoor
