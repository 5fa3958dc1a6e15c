/- The program's own tree: Ready; a node moved to another pass. -/
import Derived.Test.YtfccmdmfllicdaaDoorPtB
namespace Go.Proofs.YtfccmdmfllicdaaDoor
open Go.RowKit
set_option linter.unusedSimpArgs false

def movF (p : Int) (n : Nd) : Nd := { n with pass := p }
theorem movF_same (p : Int) : ∀ n, (movF p n).id = n.id ∧ (movF p n).par = n.par ∧ (movF p n).thr = n.thr := fun _ => ⟨rfl, rfl, rfl⟩
section
variable {base x : Nat} {W : Wit} {l : List Nd} {w : World}
set_option maxRecDepth 100000 in
set_option maxHeartbeats 2000000 in
theorem readyP_err (h : TOk base x W l w) (id : Int) (r : Bool) (hk : ∀ n, getU l id = some n → n.thr = false) :
    Calls Tryd.prog 12 #[.pointer (some ⟨x, 0, none⟩), .int .i64 id, .bool r] w (Yields w (errV 13)) := by
  have hl1 : l.length ≤ 1000 := by have := h.len; omega
  have HFP : Hid (∀ w', Ext w w' → Calls Tryd.prog 27 #[.pointer (some ⟨x, 0, none⟩), .int .i64 id] w' (Yields w' (nodP W l id))) := fun w' hx => find_at (h.pt.ext hx) h.ids hl1 _
  rw [errV_pos (by decide)]
  cases hg : getU l id with
  | none =>
    have HP : Hid (nodP W l id = .pointer none) := if_neg (by simp [hasU, hg])
    rw [HP.out] at HFP
    clear h hl1 hk hg HP
    go_enter Tryd.func12, Tryd.ntmps12
    go_wp2_with (go_at_call 27; (with_reducible refine (HFP.out _ (by repeat (first | exact Ext.refl _ | assumption | refine Ext.more ?_ _ | refine Ext.drew ?_ | refine Ext.drewN ?_ _ | refine Ext.alloc ?_ _ | refine Ext.setCell ?_ (by simp; try omega) _ | refine Ext.trans ?_ (by assumption)))).yields ?_); intro q1)
    go_returns
    exact ⟨rfl, (by repeat (first | exact Ext.refl _ | assumption | refine Ext.more ?_ _ | refine Ext.drew ?_ | refine Ext.drewN ?_ _ | refine Ext.alloc ?_ _ | refine Ext.setCell ?_ (by simp; try omega) _ | refine Ext.trans ?_ (by assumption)))⟩
  | some n =>
    have ht := hk n hg
    obtain ⟨hn, rfl⟩ := getU_mem hg
    have HP : Hid (nodP W l n.id = .pointer (some ⟨W.nb n.id, 0, none⟩)) := if_pos (hasU_iff.2 ⟨n, hn, rfl⟩)
    rw [HP.out] at HFP
    have m2 := (h.pt.cells hn).2.2.1
    rw [ht] at m2
    have hpl := h.pt.nlt hn
    clear h hl1 hk hg HP hn ht
    go_enter Tryd.func12, Tryd.ntmps12
    go_wp2_with (go_at_call 27; (with_reducible refine (HFP.out _ (by repeat (first | exact Ext.refl _ | assumption | refine Ext.more ?_ _ | refine Ext.drew ?_ | refine Ext.drewN ?_ _ | refine Ext.alloc ?_ _ | refine Ext.setCell ?_ (by simp; try omega) _ | refine Ext.trans ?_ (by assumption)))).yields ?_); intro q1)
    go_returns
    exact ⟨rfl, (by repeat (first | exact Ext.refl _ | assumption | refine Ext.more ?_ _ | refine Ext.drew ?_ | refine Ext.drewN ?_ _ | refine Ext.alloc ?_ _ | refine Ext.setCell ?_ (by simp; try omega) _ | refine Ext.trans ?_ (by assumption)))⟩
set_option maxRecDepth 100000 in
set_option maxHeartbeats 2000000 in
theorem readyP_any (h : TOk base x W l w) {n : Nd} (hn : n ∈ l) (ht : n.thr = true) (r : Bool) (f : Nat) (hch : Chain l f n.id) :
    Calls Tryd.prog 12 #[.pointer (some ⟨x, 0, none⟩), .int .i64 n.id, .bool r] w fun e w' => e = .returned .nilIface ∧ PGo base x W l (if r = true then wakeU f l n.id else restU f l n.id) w w' := by
  have hl1 : l.length ≤ 1000 := by have := h.len; omega
  have HFP : Hid (∀ w', Ext w w' → Calls Tryd.prog 27 #[.pointer (some ⟨x, 0, none⟩), .int .i64 n.id] w' (Yields w' (.pointer (some ⟨W.nb n.id, 0, none⟩)))) := fun w' hx => find_yes (h.pt.ext hx) h.ids hl1 hn
  have m2 := (h.pt.cells hn).2.2.1
  rw [ht] at m2
  have hpl := h.pt.nlt hn
  have HG : Hid (∀ w' w'', Ext w w' → PGo base x W l (if r = true then wakeU f l n.id else restU f l n.id) w' w'' → PGo base x W l (if r = true then wakeU f l n.id else restU f l n.id) w w'') := fun w' w'' hx hp => PGo.trans (.of_ext hx) rfl rfl rfl hp
  cases r with
  | true =>
    have HWK : Hid (∀ w', Ext w w' → Calls Tryd.prog 36 #[.pointer (some ⟨W.nb n.id, 0, none⟩)] w' fun e w'' => e = .returned (.tuple #[]) ∧ PGo base x W l (wakeU f l n.id) w' w'') := fun w' hx => wake_any (h.pt.ext hx) h.qok h.ids h.clo h.bdd h.len hn f hch
    simp only [if_true] at HG ⊢
    generalize wakeU f l n.id = L at *
    clear h hl1 hn ht hch
    go_enter Tryd.func12, Tryd.ntmps12
    go_wp2_with (go_at_call 27; (with_reducible refine (HFP.out _ (by repeat (first | exact Ext.refl _ | assumption | refine Ext.more ?_ _ | refine Ext.drew ?_ | refine Ext.drewN ?_ _ | refine Ext.alloc ?_ _ | refine Ext.setCell ?_ (by simp; try omega) _ | refine Ext.trans ?_ (by assumption)))).yields ?_); intro q1)
    (with_reducible refine (HWK.out _ (ext_more _ _)).mono ?_)
    rintro e w2 ⟨rfl, hp⟩
    have HE := hid (HG.out _ _ (ext_more _ _) hp)
    clear hp
    go_wp2
    go_returns
    exact ⟨rfl, HE.out⟩
  | false =>
    have HWK : Hid (∀ w', Ext w w' → Calls Tryd.prog 34 #[.pointer (some ⟨W.nb n.id, 0, none⟩)] w' fun e w'' => e = .returned (.tuple #[]) ∧ PGo base x W l (restU f l n.id) w' w'') := fun w' hx => rest_any (h.pt.ext hx) h.qok h.ids h.clo h.len hn f hch
    simp only [Bool.false_eq_true, if_false] at HG ⊢
    generalize restU f l n.id = L at *
    clear h hl1 hn ht hch
    go_enter Tryd.func12, Tryd.ntmps12
    go_wp2_with (go_at_call 27; (with_reducible refine (HFP.out _ (by repeat (first | exact Ext.refl _ | assumption | refine Ext.more ?_ _ | refine Ext.drew ?_ | refine Ext.drewN ?_ _ | refine Ext.alloc ?_ _ | refine Ext.setCell ?_ (by simp; try omega) _ | refine Ext.trans ?_ (by assumption)))).yields ?_); intro q1)
    (with_reducible refine (HWK.out _ (ext_more _ _)).mono ?_)
    rintro e w2 ⟨rfl, hp⟩
    have HE := hid (HG.out _ _ (ext_more _ _) hp)
    clear hp
    go_wp2
    go_returns
    exact ⟨rfl, HE.out⟩

set_option maxRecDepth 100000 in
set_option maxHeartbeats 4000000 in
theorem move_any (h : Pt base x W l w) (hq : QOk W l) (hs : Ids l) (hc : Clo l) (hl : l.length ≤ 60) {n : Nd} (hn : n ∈ l) (h0 : 0 ≤ n.par) (p' : Int) (hp0 : 0 ≤ p') (hp1 : p' ≤ 1099511627776) :
    Calls Tryd.prog 38 #[.pointer (some ⟨W.nb n.id, 0, none⟩), .int .i64 p'] w fun e w' => e = .returned (.tuple #[]) ∧ PGo base x W l (upd n.id (movF p') l) w w' := by
  obtain ⟨p, hp, he, ht⟩ := (hc n hn).2.2 h0
  obtain ⟨c0, -, -, c3, c4, -⟩ := h.cells hn
  rw [grp_up (by omega)] at c3
  have fz := h.free hn 4
  have hbl := h.nlt hn
  have hcv := floatOfInt_eq (z := p') (by omega)
  have H := hid h
  have HQ := hid hq
  have HS := hid hs
  have HC := hid hc
  have HL := hid hl
  have HN := hid hn
  have HP := hid hp
  have HE := hid he
  have HT := hid ht
  have HB := hid (And.intro hp0 hp1)
  have H0 := hid h0
  clear h hq hs hc hl hn hp he ht h0
  go_enter Tryd.func38, Tryd.ntmps38
  go_wp2_with fail
  have H1 := hid (H.out.setAt HN.out HS.out (movF p') fun _ => ⟨rfl, rfl, rfl, rfl⟩)
  have HF1 : Hid (Fr (Own x W l) (Own x W (upd n.id (movF p') l)) w (w.setCell ⟨W.nb n.id, 4, none⟩ (.complex .f64 (Fz p') (Fz n.now)))) := fr_upd (movF_same p') (Fr.set (.inr (.inr ⟨n, HN.out, .inl rfl⟩)) 4 _)
  rw [show (movF p' n).pass = p' from rfl, show (movF p' n).now = n.now from rfl] at H1
  clear H c0 c3 c4 fz hbl
  generalize w.setCell ⟨W.nb n.id, 4, none⟩ (.complex .f64 (Fz p') (Fz n.now)) = w1 at *
  have hn2 : movF p' n ∈ upd n.id (movF p') l := mem_upd.2 ⟨n, HN.out, by rw [if_pos rfl]⟩
  obtain ⟨p2, hp2, e2, t2⟩ : ∃ p2 ∈ upd n.id (movF p') l, p2.id = p.id ∧ p2.thr = false := ⟨_, mem_upd.2 ⟨p, HP.out, rfl⟩, by split <;> rfl, by split <;> exact HT.out⟩
  have d0 : w1.cell? ⟨W.nb n.id, 0, none⟩ = some (.int .i64 n.id) := (H1.out.cells hn2).1
  have d3 : w1.cell? ⟨W.nb n.id, 3, none⟩ = some (.pointer (some ⟨W.nb n.par, 0, none⟩)) := by
    have := (H1.out.cells hn2).2.2.2.1
    rwa [grp_up (n := movF p' n) (by have := H0.out; show ¬ n.par < 0; omega)] at this
  have d5 : w1.cell? ⟨W.nb n.par, 5, none⟩ = some (.pointer (some ⟨W.qb n.par, 0, none⟩)) := by
    have := (H1.out.cells hp2).2.2.2.2.2
    rwa [que_of t2, e2, HE.out] at this
  have hix := (H1.out.idx p2 hp2 t2)
  rw [e2, HE.out] at hix
  have HIX := hid hix
  have hlen : (W.rw n.par).length ≤ 60 := by
    have := HQ.out.len HS.out HP.out HT.out
    rw [HE.out] at this
    exact Nat.le_trans this HL.out
  have hform : formedB p' n.id = true := formedB_iff.2 ⟨HB.out.1, HB.out.2, (HC.out n HN.out).1⟩
  have hbl := Nat.lt_of_lt_of_le (World.block_lt_of_cell? _ _ d0) (Nat.le_refl _)
  have hgl := World.block_lt_of_cell? _ _ d5
  simp only at hbl hgl
  cases hr : n.rdy with
  | false =>
    have hno : ¬ idAt (W.rw n.par) n.id < (W.rw n.par).length := fun h => by
      have := (HQ.out.has HS.out HN.out HP.out HT.out HE.out).1 (by rw [HE.out]; exact h)
      rw [hr] at this; cases this
    have HRK : Hid (∀ w', Ext w1 w' → Calls Tryd.prog 65 #[.pointer (some ⟨W.qb n.par, 0, none⟩), .int .i64 n.id, .int .i64 p'] w' (Yields w' (errV 13))) := fun w' hx => rekey_no _ _ _ _ _ _ _ _ (HIX.out.1.ext hx) (by omega) hform hno
    rw [errV_pos (by decide)] at HRK
    have HG : Hid (PGo base x W l (upd n.id (movF p') l) w w1) := ⟨W, H1.out, HQ.out.quiet HS.out HN.out (movF p') (movF_same p') (fun _ => ⟨rfl, fun h => by rw [hr] at h; cases h⟩), HF1.out, rfl, rfl, rfl⟩
    clear hn2 hp2 e2 t2 hix hlen hform hr hno HIX H1 HF1
    generalize W.nb n.id = b at *
    generalize W.nb n.par = g at *
    generalize W.qb n.par = q at *
    go_wp2
    ((first | refine wp_region_more (by kernel_rfl) (by kernel_rfl) ?_ | refine wp_region_ext (by kernel_rfl) (by kernel_rfl) ?_); (try dsimp only [append_cons', append_nil']); (repeat (go_big_quiet_step ((go_at_call 65; with_reducible refine Calls.more_of (HRK.out _ (ext_more _ _)))))); refine wpQuiet_nil ?_; rintro _ ⟨pq, rfl⟩)
    go_wp2
    go_returns
    exact ⟨rfl, HG.out.ext (by repeat (first | exact Ext.refl _ | assumption | refine Ext.more ?_ _ | refine Ext.drew ?_ | refine Ext.drewN ?_ _ | refine Ext.alloc ?_ _ | refine Ext.setCell ?_ (by simp; try omega) _ | refine Ext.trans ?_ (by assumption)))⟩
  | true =>
    have HYES : Hid (idAt (W.rw n.par) n.id < (W.rw n.par).length) := by
      have := (HQ.out.has HS.out HN.out HP.out HT.out HE.out).2 hr
      rwa [HE.out] at this
    have HQ7 : Hid (∀ v, QOk (W.setQ p.id v (ins (p', n.id) ((W.rw p.id).eraseIdx (idAt (W.rw p.id) n.id)))) (upd n.id (movF p') l)) := fun v => HQ.out.rekey HS.out HN.out HP.out HT.out HE.out hr (movF p') (movF_same p') hr v
    have HP2 := hid hp2
    have HE2 := hid e2
    have HT2 := hid t2
    have HLN := hid hlen
    have HFM := hid hform
    clear hn2 hp2 e2 t2 hix hlen hform hr
    go_wp2_with fail
    refine wp_region_T 12 1 (fun u => u.cell? ⟨W.nb n.id, 0, none⟩ = some (.int .i64 n.id) ∧ u.cell? ⟨W.nb n.id, 3, none⟩ = some (.pointer (some ⟨W.nb n.par, 0, none⟩)) ∧ u.cell? ⟨W.nb n.par, 5, none⟩ = some (.pointer (some ⟨W.qb n.par, 0, none⟩))) (by kernel_rfl) (by kernel_rfl) ?_
    have HSS : w1.drew.cell? ⟨W.nb n.id, 0, none⟩ = some (.int .i64 n.id) ∧ w1.drew.cell? ⟨W.nb n.id, 3, none⟩ = some (.pointer (some ⟨W.nb n.par, 0, none⟩)) ∧ w1.drew.cell? ⟨W.nb n.par, 5, none⟩ = some (.pointer (some ⟨W.qb n.par, 0, none⟩)) := ⟨d0, d3, d5⟩
    have hx5 : Ext w1 w1.drew := Ext.drew (Ext.refl _)
    have H6 := hid (H1.out.ext hx5)
    have HF6 := hid (HF1.out.ext hx5)
    have HIX6 := hid (HIX.out.1.ext hx5)
    clear d0 d3 d5 H1 HF1 hx5
    generalize w1.drew = w5 at *
    refine wpT_take 0 (v := ?v85) rfl (by kernel_rfl) (by kernel_rfl) (by kernel_rfl) (by kernel_rfl) (by intro _ _ _ h; first | exact h | (obtain ⟨h, _⟩ := h; cases h)) (by rfl) HSS ?hy85 ?_
    case hy85 => (intro u hu; obtain ⟨h1, h2, h3⟩ := hu; go_simp; first | done | (with_reducible rfl))
    (try simp only [Act.put, List.getElem_toArray, List.getElem_cons_zero, List.getElem_cons_succ, List.setIfInBounds_toArray, List.set_cons_zero, List.set_cons_succ])
    refine wpT_take 1 (v := ?v86) rfl (by kernel_rfl) (by kernel_rfl) (by kernel_rfl) (by kernel_rfl) (by intro _ _ _ h; first | exact h | (obtain ⟨h, _⟩ := h; cases h)) (by rfl) HSS ?hy86 ?_
    case hy86 => (intro u hu; obtain ⟨h1, h2, h3⟩ := hu; go_simp; first | done | (with_reducible rfl))
    (try simp only [Act.put, List.getElem_toArray, List.getElem_cons_zero, List.getElem_cons_succ, List.setIfInBounds_toArray, List.set_cons_zero, List.set_cons_succ])
    refine wpT_take 2 (v := ?v87) rfl (by kernel_rfl) (by kernel_rfl) (by kernel_rfl) (by kernel_rfl) (by intro _ _ _ h; first | exact h | (obtain ⟨h, _⟩ := h; cases h)) (by rfl) HSS ?hy87 ?_
    case hy87 => (intro u hu; obtain ⟨h1, h2, h3⟩ := hu; go_simp; first | done | (with_reducible rfl))
    (try simp only [Act.put, List.getElem_toArray, List.getElem_cons_zero, List.getElem_cons_succ, List.setIfInBounds_toArray, List.set_cons_zero, List.set_cons_succ])
    refine wpT_take 3 (v := ?v88) rfl (by kernel_rfl) (by kernel_rfl) (by kernel_rfl) (by kernel_rfl) (by intro _ _ _ h; first | exact h | (obtain ⟨h, _⟩ := h; cases h)) (by rfl) HSS ?hy88 ?_
    case hy88 => (intro u hu; obtain ⟨h1, h2, h3⟩ := hu; go_simp; first | done | (with_reducible rfl))
    (try simp only [Act.put, List.getElem_toArray, List.getElem_cons_zero, List.getElem_cons_succ, List.setIfInBounds_toArray, List.set_cons_zero, List.set_cons_succ])
    refine wpT_take 4 (v := ?v89) rfl (by kernel_rfl) (by kernel_rfl) (by kernel_rfl) (by kernel_rfl) (by intro _ _ _ h; first | exact h | (obtain ⟨h, _⟩ := h; cases h)) (by rfl) HSS ?hy89 ?_
    case hy89 => (intro u hu; obtain ⟨h1, h2, h3⟩ := hu; go_simp; first | done | (with_reducible rfl))
    (try simp only [Act.put, List.getElem_toArray, List.getElem_cons_zero, List.getElem_cons_succ, List.setIfInBounds_toArray, List.set_cons_zero, List.set_cons_succ])
    refine wpT_take 5 (v := ?v90) rfl (by kernel_rfl) (by kernel_rfl) (by kernel_rfl) (by kernel_rfl) (by intro _ _ _ h; first | exact h | (obtain ⟨h, _⟩ := h; cases h)) (by rfl) HSS ?hy90 ?_
    case hy90 => (intro u hu; obtain ⟨h1, h2, h3⟩ := hu; go_simp; first | done | (with_reducible rfl))
    (try simp only [Act.put, List.getElem_toArray, List.getElem_cons_zero, List.getElem_cons_succ, List.setIfInBounds_toArray, List.set_cons_zero, List.set_cons_succ])
    refine wpT_take 6 (v := ?v91) rfl (by kernel_rfl) (by kernel_rfl) (by kernel_rfl) (by kernel_rfl) (by intro _ _ _ h; first | exact h | (obtain ⟨h, _⟩ := h; cases h)) (by rfl) HSS ?hy91 ?_
    case hy91 => (intro u hu; obtain ⟨h1, h2, h3⟩ := hu; go_simp; first | done | (with_reducible rfl))
    (try simp only [Act.put, List.getElem_toArray, List.getElem_cons_zero, List.getElem_cons_succ, List.setIfInBounds_toArray, List.set_cons_zero, List.set_cons_succ])
    refine wpT_take 7 (v := ?v92) rfl (by kernel_rfl) (by kernel_rfl) (by kernel_rfl) (by kernel_rfl) (by intro _ _ _ h; first | exact h | (obtain ⟨h, _⟩ := h; cases h)) (by rfl) HSS ?hy92 ?_
    case hy92 => (intro u hu; obtain ⟨h1, h2, h3⟩ := hu; go_simp; first | done | (with_reducible rfl))
    (try simp only [Act.put, List.getElem_toArray, List.getElem_cons_zero, List.getElem_cons_succ, List.setIfInBounds_toArray, List.set_cons_zero, List.set_cons_succ])
    refine wpT_take 8 (v := ?v93) rfl (by kernel_rfl) (by kernel_rfl) (by kernel_rfl) (by kernel_rfl) (by intro _ _ _ h; first | exact h | (obtain ⟨h, _⟩ := h; cases h)) (by rfl) HSS ?hy93 ?_
    case hy93 => (intro u hu; obtain ⟨h1, h2, h3⟩ := hu; go_simp; first | done | (with_reducible rfl))
    (try simp only [Act.put, List.getElem_toArray, List.getElem_cons_zero, List.getElem_cons_succ, List.setIfInBounds_toArray, List.set_cons_zero, List.set_cons_succ])
    refine wpT_take 9 (v := ?v94) rfl (by kernel_rfl) (by kernel_rfl) (by kernel_rfl) (by kernel_rfl) (by intro _ _ _ h; first | exact h | (obtain ⟨h, _⟩ := h; cases h)) (by rfl) HSS ?hy94 ?_
    case hy94 => (intro u hu; obtain ⟨h1, h2, h3⟩ := hu; go_simp; first | done | (with_reducible rfl))
    (try simp only [Act.put, List.getElem_toArray, List.getElem_cons_zero, List.getElem_cons_succ, List.setIfInBounds_toArray, List.set_cons_zero, List.set_cons_succ])
    refine wpT_take 10 (v := ?v95) rfl (by kernel_rfl) (by kernel_rfl) (by kernel_rfl) (by kernel_rfl) (by intro _ _ _ h; first | exact h | (obtain ⟨h, _⟩ := h; cases h)) (by rfl) HSS ?hy95 ?_
    case hy95 => (intro u hu; obtain ⟨h1, h2, h3⟩ := hu; go_simp; first | done | (with_reducible rfl))
    (try simp only [Act.put, List.getElem_toArray, List.getElem_cons_zero, List.getElem_cons_succ, List.setIfInBounds_toArray, List.set_cons_zero, List.set_cons_succ])
    refine wpT_take 11 (v := ?v96) rfl (by kernel_rfl) (by kernel_rfl) (by kernel_rfl) (by kernel_rfl) (by intro _ _ _ h; first | exact h | (obtain ⟨h, _⟩ := h; cases h)) (by rfl) HSS ?hy96 ?_
    case hy96 => (intro u hu; obtain ⟨h1, h2, h3⟩ := hu; go_simp; first | done | (with_reducible rfl))
    (try simp only [Act.put, List.getElem_toArray, List.getElem_cons_zero, List.getElem_cons_succ, List.setIfInBounds_toArray, List.set_cons_zero, List.set_cons_succ])
    refine wpT_done (by kernel_rfl) ?_
    refine wpAny_one 12 rfl (by kernel_rfl) (by rfl) (fun K' hK => ?_)
    go_simp
    (with_reducible refine (rekey_yes _ _ _ _ _ _ _ _ HIX6.out HIX.out.2 (by have := HLN.out; omega) HFM.out HYES.out).mono ?_)
    rintro e w7 ⟨rfl, hwt⟩
    refine hK.out _ _ ?_
    clear hK K' HIX6 HIX HSS
    rw [← HE.out, ← HE2.out] at hwt
    obtain ⟨v', h7, hf7⟩ := H6.out.setIdx HP2.out HT2.out hwt
    rw [HE2.out] at h7 hf7
    have HG : Hid (PGo base x W l (upd n.id (movF p') l) w w7) := ⟨_, h7, HQ7.out v', HF6.out.trans hf7, rfl, rfl, rfl⟩
    clear h7 hf7 hwt H6 HF6 HQ7
    (try simp only [Act.put, List.getElem_toArray, List.getElem_cons_zero, List.getElem_cons_succ, List.setIfInBounds_toArray, List.set_cons_zero, List.set_cons_succ])
    refine wpAny_done (by kernel_rfl) ?_ _
    go_wp2
    go_returns
    exact ⟨rfl, HG.out⟩
end
end Go.Proofs.YtfccmdmfllicdaaDoor
