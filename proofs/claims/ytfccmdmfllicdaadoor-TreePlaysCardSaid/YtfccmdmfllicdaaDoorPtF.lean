/- The program's own tree: Run. -/
import Derived.Test.YtfccmdmfllicdaaDoorPtE
namespace Go.Proofs.YtfccmdmfllicdaaDoor
open Go.RowKit
set_option linter.unusedSimpArgs false

/-- A scope whose label stands behind two pieces. -/
theorem wp_upm {P : Program} {a : Act} {w : World} {Q : Exit → Act → World → Prop} {c0 c1 body : Code} (l : Nat) (J : Nat → Act → World → Prop) (hf : findLabel (c0.seq (c1.seq ((Code.label l).seq body))) l = some (Code.skip.seq body))
    (pass : ∀ f a w, J f a w → body.wp P (Exit.jump l (fun a' w' => ∃ f', f' < f ∧ J f' a' w') Q) a w)
    (first : ∀ D : Code, (∀ a w, (∃ f, J f a w) → D.wp P (Exit.jump l (fun a w => ∃ f, J f a w) Q) a w) → (c0.seq (c1.seq D)).wp P (Exit.jump l (fun a w => ∃ f, J f a w) Q) a w) :
    (Code.scope (c0.seq (c1.seq ((Code.label l).seq body)))).wp P Q a w := by
  refine wp_goto l (fun a w => ∃ f, J f a w) (fun a w => leastN fun f => J f a w) hf ?_ ?_
  · intro a w h
    obtain ⟨h1, h2⟩ := leastN_spec h
    refine Code.wp_mono ?_ (pass _ a w h1)
    intro e a' w' hq
    cases e with
    | goto m =>
      obtain ⟨hm, f', hlt, hj⟩ := hq
      exact ⟨hm, ⟨f', hj⟩, Nat.lt_of_le_of_lt ((leastN_spec (p := fun f => J f a' w') ⟨f', hj⟩).2 f' hj) hlt⟩
    | _ => exact hq
  · intro start
    exact first _ fun a w h => wp_seq (wp_label (start a w h))

/-- From a node up: each group whose now is too great is counted anew. -/
def upR : Nat → List Nd → Int → List Nd
  | 0, l, _ => l
  | f + 1, l, id => match getU l id with
    | none => l
    | some n => if n.par < 0 then l else upR f (if 16777216 < nowU l n.par then rebU l n.par else l) n.par
theorem upR_top {f : Nat} {l : List Nd} (hs : Ids l) {n : Nd} (hn : n ∈ l) (h : n.par < 0) : upR f l n.id = l := by
  cases f with
  | zero => rfl
  | succ f => simp only [upR, getU_of hs hn]; rw [if_pos h]
theorem upR_on {f : Nat} {l : List Nd} (hs : Ids l) {n p : Nd} (hn : n ∈ l) (h : ¬ n.par < 0) (hp : p ∈ l) (he : p.id = n.par) : upR (f + 1) l n.id = upR f (if 16777216 < p.now then rebU l p.id else l) p.id := by
  simp only [upR, getU_of hs hn]
  rw [if_neg h, ← he, nowU_of hs hp]
def runT (f : Nat) (l : List Nd) : Option (Int × List Nd) := match runU f l 0 with
  | none => none
  | some (id, l1) => some (id, upR f l1 id)
theorem upd_congr {id : Int} {f g : Nd → Nd} {l : List Nd} (h : ∀ n ∈ l, n.id = id → f n = g n) : upd id f l = upd id g l := by
  unfold upd
  refine List.map_congr_left fun n hn => ?_
  split
  · exact h n hn ‹_›
  · rfl
theorem goF_same : ∀ n, (goF n).id = n.id ∧ (goF n).par = n.par ∧ (goF n).thr = n.thr := fun _ => ⟨rfl, rfl, rfl⟩
theorem runU_thr {f : Nat} {l : List Nd} (hs : Ids l) {n : Nd} (hn : n ∈ l) (ht : n.thr = true) : runU (f + 1) l n.id = some (n.id, l) := by
  simp only [runU, getU_of hs hn, ht, if_true]
theorem runU_on {f : Nat} {l : List Nd} (hs : Ids l) {n b : Nd} (hn : n ∈ l) (ht : n.thr = false) (hb : bestU l n.id = some b) : runU (f + 1) l n.id = runU f (upd b.id goF (upd n.id (nowF b.pass) l)) b.id := by
  simp only [runU, getU_of hs hn, ht, hb]
  rfl
theorem runU_none {f : Nat} {l : List Nd} (hs : Ids l) {n : Nd} (hn : n ∈ l) (ht : n.thr = false) (hb : bestU l n.id = none) : runU (f + 1) l n.id = none := by
  simp only [runU, getU_of hs hn, ht, hb]
  rfl

/-- Passes and times within M. -/
def BdM (M : Int) (l : List Nd) : Prop := ∀ n ∈ l, (0 ≤ n.pass ∧ n.pass ≤ M) ∧ 0 ≤ n.now ∧ n.now ≤ M
theorem BdM.bdd {M : Int} {l : List Nd} (h : BdM M l) (hm : M ≤ 1099511627776) : Bdd l := fun n hn => by have := h n hn; omega
theorem BdM.mono {M M' : Int} {l : List Nd} (h : BdM M l) (hm : M ≤ M') : BdM M' l := fun n hn => by have := h n hn; omega
/-- Nobody is in himself. -/
def Acy (l : List Nd) : Prop := ∀ n ∈ l, n.par ≠ n.id
theorem Acy.upd {l : List Nd} {id : Int} {f : Nd → Nd} (h : Acy l) (hf : ∀ m, (f m).id = m.id ∧ (f m).par = m.par ∧ (f m).thr = m.thr) : Acy (upd id f l) := by
  intro n' hn'
  obtain ⟨n, hn, rfl⟩ := mem_upd.1 hn'
  have hi : ∀ m : Nd, (if m.id = id then f m else m).id = m.id := fun m => by split <;> simp [hf]
  have hp : ∀ m : Nd, (if m.id = id then f m else m).par = m.par := fun m => by split <;> simp [hf]
  rw [hi, hp]; exact h n hn

section
variable {base x : Nat} {W : Wit} {l : List Nd} {w : World}
/-- At the head of the way down. -/
def RunJ (base x : Nat) (W : Wit) (l : List Nd) (w0 : World) (R : Int × List Nd) (F : Nat) (f : Nat) (a : Act) (wc : World) : Prop :=
  ∃ (W1 : Wit) (lc : List Nd) (n : Nd) (u1 u2 u3 u5 u6 u7 u8 u9 u10 u11 u12 u13 u14 u15 u16 u17 u18 u19 u20 u21 u22 u23 u24 u25 u26 u27 u28 u29 u30 u31 u32 u33 u34 u35 u36 u37 u38 u39 u40 u41 u42 u43 u44 u45 u46 u47 u48 u49 u50 u51 u52 u53 u54 u55 u56 u57 u58 u59 u60 u61 u62 u63 : Value), a = { tmps := #[.pointer (some ⟨x, 0, none⟩), u1, u2, u3, .pointer (some ⟨W1.nb n.id, 0, none⟩), u5, u6, u7, u8, u9, u10, u11, u12, u13, u14, u15, u16, u17, u18, u19, u20, u21, u22, u23, u24, u25, u26, u27, u28, u29, u30, u31, u32, u33, u34, u35, u36, u37, u38, u39, u40, u41, u42, u43, u44, u45, u46, u47, u48, u49, u50, u51, u52, u53, u54, u55, u56, u57, u58, u59, u60, u61, u62, u63], defers := [] } ∧ Pt base x W1 lc wc ∧ QOk W1 lc ∧ Ids lc ∧ Clo lc ∧ Acy lc ∧ f ≤ F ∧ BdM (20000000 + (F - f) * 720720) lc ∧ lc.length ≤ 60 ∧ n ∈ lc ∧ (∀ m ∈ lc, Chain lc F m.id) ∧
    Fr (Own x W l) (Own x W1 lc) w0 wc ∧ (W1.v = W.v ∧ W1.nb = W.nb ∧ W1.qb = W.qb) ∧ Hid (runU f lc n.id = some R)
theorem Chain.map {g : Nd → Nd} (hg : ∀ m, (g m).id = m.id ∧ (g m).par = m.par) : ∀ (k : Nat) (j : Int), Chain l k j → Chain (l.map g) k j
  | 0, _, h => h
  | k + 1, j, h => by
    obtain ⟨n, hn, e, h⟩ := h
    exact ⟨g n, List.mem_map.2 ⟨n, hn, rfl⟩, by rw [(hg n).1]; exact e, by rw [(hg n).2]; exact h.imp (fun x => x) (Chain.map hg k n.par)⟩
theorem reb_ids (hs : Ids l) (g : Int) : Ids (rebU l g) := ids_upd (fun _ => rfl) (shK_ids hs)
theorem reb_clo (hc : Clo l) (g : Int) : Clo (rebU l g) := (shK_clo hc).upd (nowF_same 0)
theorem reb_length (g : Int) : (rebU l g).length = l.length := by unfold rebU; rw [upd_length, shK_length]
theorem reb_bdM {M : Int} (hb : BdM M l) (hs : Ids l) {g : Nd} (hg : g ∈ l) : BdM M (rebU l g.id) := by
  have h0 := hb g hg
  intro n' hn'
  unfold rebU at hn'
  rw [nowU_of hs hg] at hn'
  obtain ⟨n1, hn1, rfl⟩ := mem_upd.1 hn'
  obtain ⟨n, hn, rfl⟩ := mem_shK.1 hn1
  have h := hb n hn
  split <;> split <;> first | (simp only [nowF, shF]; omega) | omega
theorem reb_chain (g : Int) (k : Nat) (j : Int) (h : Chain l k j) : Chain (rebU l g) k j :=
  Chain.upd (nowF_same 0) k j (Chain.map (fun m => by split <;> exact ⟨rfl, rfl⟩) k j h)
theorem reb_mem (g : Int) {n : Nd} (hn : n ∈ l) : ∃ m ∈ rebU l g, m.id = n.id ∧ m.par = n.par ∧ m.thr = n.thr := by
  unfold rebU
  refine ⟨_, mem_upd.2 ⟨_, mem_shK.2 ⟨n, hn, rfl⟩, rfl⟩, ?_⟩
  split <;> split <;> exact ⟨rfl, rfl, rfl⟩

def UpM (base x b : Nat) (W : Wit) (l L : List Nd) (z : World) (a' : Act) (y : World) : Prop :=
  ∃ (u1 u2 u3 u5 u6 u7 u8 u9 u10 u11 u12 u13 u14 u15 u16 u17 u18 u19 u20 u21 u22 u23 u24 u25 u26 u27 u28 u29 u30 u31 u32 u33 u34 u35 u36 u37 u38 u39 u40 u41 u42 u43 u44 u45 u46 u47 u48 u49 u50 u51 u52 u53 u54 u55 u56 u57 u58 u59 u60 u61 u62 u63 : Value), a' = { tmps := #[.pointer (some ⟨x, 0, none⟩), u1, u2, u3, .pointer (some ⟨b, 0, none⟩), u5, u6, u7, u8, u9, u10, u11, u12, u13, u14, u15, u16, u17, u18, u19, u20, u21, u22, u23, u24, u25, u26, u27, u28, u29, u30, u31, u32, u33, u34, u35, u36, u37, u38, u39, u40, u41, u42, u43, u44, u45, u46, u47, u48, u49, u50, u51, u52, u53, u54, u55, u56, u57, u58, u59, u60, u61, u62, u63], defers := [] } ∧ PGo base x W l L z y
set_option maxRecDepth 100000 in
set_option maxHeartbeats 4000000 in
theorem run_up {M : Int} {z : World} (h : Pt base x W l z) (hq : QOk W l) (hs : Ids l) (hc : Clo l) (hb : BdM M l) (hM : M ≤ 1099511627776) (hl : l.length ≤ 60) {n : Nd} (hn : n ∈ l) (f : Nat) (hch : Chain l f n.id) (u1 u2 u3 u5 u6 u7 u8 u9 u10 u11 u12 u13 u14 u15 u16 u17 u18 u19 u20 u21 u22 u23 u24 u25 u26 u27 u28 u29 u30 u31 u32 u33 u34 u35 u36 u37 u38 u39 u40 u41 u42 u43 u44 u45 u46 u47 u48 u49 u50 u51 u52 u53 u54 u55 u56 u57 u58 u59 u60 u61 u62 u63 : Value) :
    (bodyAt Tryd.f16 [1, 0, 1, 1, 1, 1, 0]).wp Tryd.prog (Ends (UpM base x (W.nb n.id) W l (upR f l n.id) z)) ({ tmps := #[.pointer (some ⟨x, 0, none⟩), u1, u2, u3, .pointer (some ⟨W.nb n.id, 0, none⟩), u5, u6, u7, u8, u9, u10, u11, u12, u13, u14, u15, u16, u17, u18, u19, u20, u21, u22, u23, u24, u25, u26, u27, u28, u29, u30, u31, u32, u33, u34, u35, u36, u37, u38, u39, u40, u41, u42, u43, u44, u45, u46, u47, u48, u49, u50, u51, u52, u53, u54, u55, u56, u57, u58, u59, u60, u61, u62, u63], defers := [] }) z := by
  generalize hLT : upR f l n.id = LT
  have c3 := (h.cells hn).2.2.2.1
  have hbl := h.nlt hn
  have START : Hid (∃ (W2 : Wit) (l2 : List Nd) (m : Nd) (q : Nat), Hid (W.grp n = W2.grp m) ∧ m ∈ l2 ∧ q ≤ f ∧ Pt base x W2 l2 z ∧ QOk W2 l2 ∧ Ids l2 ∧ Clo l2 ∧ BdM M l2 ∧ l2.length ≤ 60 ∧ Chain l2 q m.id ∧ Fr (Own x W l) (Own x W2 l2) z z ∧ (W2.v = W.v ∧ W2.nb = W.nb ∧ W2.qb = W.qb) ∧ Hid (upR q l2 m.id = LT)) :=
    ⟨W, l, n, f, rfl, hn, Nat.le_refl _, h, hq, hs, hc, hb, hl, hch, Fr.refl _ _, ⟨rfl, rfl, rfl⟩, hLT⟩
  clear h hq hs hc hb hl hn hch hLT
  unfold bodyAt Tryd.f16
  simp only [codeAt]
  generalize W.nb n.id = b at *
  generalize W.grp n = vg at *
  go_wp2
  go_loopg [6] f (fun gg v6 wr => ∃ (W2 : Wit) (l2 : List Nd) (m : Nd) (q : Nat), Hid (v6 = W2.grp m) ∧ m ∈ l2 ∧ q ≤ gg ∧ Hid (Pt base x W2 l2 wr ∧ QOk W2 l2 ∧ Ids l2 ∧ Clo l2 ∧ BdM M l2 ∧ l2.length ≤ 60 ∧ Chain l2 q m.id ∧ Fr (Own x W l) (Own x W2 l2) z wr ∧ (W2.v = W.v ∧ W2.nb = W.nb ∧ W2.qb = W.qb)) ∧ Hid (upR q l2 m.id = LT))
  case atStart =>
    obtain ⟨W2, l2, m, q, e1, e2, e3, a1, a2, a3, a4, a5, a6, a7, a8, a9, e4⟩ := START.out
    exact ⟨W2, l2, m, q, e1, e2, e3, ⟨a1, a2, a3, a4, a5, a6, a7, a8, a9⟩, e4⟩
  case round =>
    clear START
    obtain ⟨W2, l2, m, q, hv, hm, hqg, hall, hL⟩ := hrel
    have hv := hv.out
    subst hv
    by_cases h0 : m.par < 0
    · have HE : Hid (PGo base x W l LT z wr) := by
        obtain ⟨a1, a2, a3, a4, a5, a6, a7, a8, a9⟩ := hall.out
        rw [← hL.out, upR_top a3 hm h0]
        exact ⟨W2, a1, a2, a8, a9⟩
      rw [grp_top h0]
      clear hall hL hm h0
      go_wp2
      exact ⟨rfl, _, _, _, _, _, _, _, _, _, _, _, _, _, _, _, _, _, _, _, _, _, _, _, _, _, _, _, _, _, _, _, _, _, _, _, _, _, _, _, _, _, _, _, _, _, _, _, _, _, _, _, _, _, _, _, _, _, _, _, _, _, _, rfl, HE.out⟩
    · obtain ⟨p, hp, he, ht⟩ := (hall.out.2.2.2.1 m hm).2.2 (by omega)
      obtain ⟨q', rfl⟩ : ∃ q', q = q' + 1 := by
        cases q with
        | zero => exact hall.out.2.2.2.2.2.2.1.elim
        | succ q => exact ⟨q, rfl⟩
      have hchp : Chain l2 q' p.id := by
        obtain ⟨k, hk, e, h⟩ := hall.out.2.2.2.2.2.2.1
        rw [uniqU hall.out.2.2.1 hk hm e] at h
        rw [he]
        exact h.resolve_left h0
      have hup := upR_on (f := q') hall.out.2.2.1 hm h0 hp he
      rw [hL.out] at hup
      rw [grp_up h0, ← he]
      have HUP := hid hup
      have HP := hid hp
      have HCH := hid hchp
      have hbd := hall.out.2.2.2.2.1.bdd hM
      have HNOW : Hid (∀ w', Ext wr w' → Calls Tryd.prog 41 #[.pointer (some ⟨W2.nb p.id, 0, none⟩)] w' (Yields w' (.int .i64 p.now))) := fun w' hx => now_at (hall.out.1.ext hx) hbd hp
      have hnb := hall.out.2.2.2.2.1 p hp
      have hn1 : 0 ≤ p.now := hnb.2.1
      have hn2 : p.now ≤ M := hnb.2.2
      clear hup hp hchp h0 hbd hnb hm he ht hL
      by_cases hgt : 16777216 < p.now
      · rw [if_pos hgt] at HUP
        have HRB : Hid (∀ w', Ext wr w' → Calls Tryd.prog 47 #[.pointer (some ⟨x, 0, none⟩), .pointer (some ⟨W2.nb p.id, 0, none⟩)] w' fun e w'' => e = .returned (.tuple #[]) ∧ PGo base x W2 l2 (rebU l2 p.id) w' w'') := fun w' hx =>
          rebase_any (hall.out.1.ext hx) hall.out.2.1 hall.out.2.2.1 hall.out.2.2.2.1 (hall.out.2.2.2.2.1.bdd hM) hall.out.2.2.2.2.2.1 HP.out
        go_wp2_with (go_at_call 41; (with_reducible refine (HNOW.out _ (by repeat (first | exact Ext.refl _ | assumption | refine Ext.more ?_ _ | refine Ext.drew ?_ | refine Ext.drewN ?_ _ | refine Ext.alloc ?_ _ | refine Ext.setCell ?_ (by simp; try omega) _ | refine Ext.trans ?_ (by assumption)))).yields ?_); intro q1)
        (with_reducible refine (HRB.out _ (ext_more _ _)).mono ?_)
        rintro e w3 ⟨rfl, hpg⟩
        obtain ⟨W3, b1, b2, b3, b4, b5, b6⟩ := hpg
        obtain ⟨p3, hp3, e3, e3p, e3t⟩ := reb_mem (l := l2) p.id HP.out
        have c3 := (b1.cells hp3).2.2.2.1
        rw [e3, b5] at c3
        have hpl := b1.nlt hp3
        rw [e3, b5] at hpl
        have HALL : Hid (Pt base x W3 (rebU l2 p.id) w3 ∧ QOk W3 (rebU l2 p.id) ∧ Ids (rebU l2 p.id) ∧ Clo (rebU l2 p.id) ∧ BdM M (rebU l2 p.id) ∧ (rebU l2 p.id).length ≤ 60 ∧ Chain (rebU l2 p.id) q' p3.id ∧ Fr (Own x W l) (Own x W3 (rebU l2 p.id)) z w3 ∧ (W3.v = W.v ∧ W3.nb = W.nb ∧ W3.qb = W.qb)) := by
          obtain ⟨a1, a2, a3, a4, a5, a6, a7, a8, a9⟩ := hall.out
          exact ⟨b1, b2, reb_ids a3 _, reb_clo a4 _, reb_bdM a5 a3 HP.out, by rw [reb_length]; exact a6, by rw [e3]; exact reb_chain _ _ _ HCH.out, (a8.ext (ext_more wr q1)).trans b3, b4.trans a9.1, b5.trans a9.2.1, b6.trans a9.2.2⟩
        have HUP3 : Hid (upR q' (rebU l2 p.id) p3.id = LT) := by rw [e3]; exact HUP.out.symm
        have HP3 := hid hp3
        clear b1 b2 b3 b4 b5 b6 hp3 e3 e3p e3t HRB HNOW HUP hall
        go_wp2
        go_roundg q'
        case measure => omega
        case rel => exact ⟨W3, rebU l2 p.id, p3, q', hid rfl, HP3.out, Nat.le_refl _, HALL, HUP3⟩
      · rw [if_neg hgt] at HUP
        have c3 := (hall.out.1.cells HP.out).2.2.2.1
        have hpl := hall.out.1.nlt HP.out
        have HALL : Hid (∀ w', Ext wr w' → Pt base x W2 l2 w' ∧ QOk W2 l2 ∧ Ids l2 ∧ Clo l2 ∧ BdM M l2 ∧ l2.length ≤ 60 ∧ Chain l2 q' p.id ∧ Fr (Own x W l) (Own x W2 l2) z w' ∧ (W2.v = W.v ∧ W2.nb = W.nb ∧ W2.qb = W.qb)) := fun w' hx => by
          obtain ⟨a1, a2, a3, a4, a5, a6, a7, a8, a9⟩ := hall.out
          exact ⟨a1.ext hx, a2, a3, a4, a5, a6, HCH.out, a8.ext hx, a9⟩
        go_wp2_with (go_at_call 41; (with_reducible refine (HNOW.out _ (by repeat (first | exact Ext.refl _ | assumption | refine Ext.more ?_ _ | refine Ext.drew ?_ | refine Ext.drewN ?_ _ | refine Ext.alloc ?_ _ | refine Ext.setCell ?_ (by simp; try omega) _ | refine Ext.trans ?_ (by assumption)))).yields ?_); intro q1)
        go_roundg q'
        case measure => omega
        case rel => exact ⟨W2, l2, p, q', hid rfl, HP.out, Nat.le_refl _, HALL.out _ (ext_more _ _), HUP.out.symm⟩
end
end Go.Proofs.YtfccmdmfllicdaaDoor
