/- The program's own tree: Weight. -/
import Derived.Test.YtfccmdmfllicdaaDoorPtH
namespace Go.Proofs.YtfccmdmfllicdaaDoor
open Go.RowKit
set_option linter.unusedSimpArgs false

theorem upd_upd {id : Int} {f g : Nd → Nd} {l : List Nd} (hf : ∀ n, (f n).id = n.id) : upd id g (upd id f l) = upd id (fun n => g (f n)) l := by
  unfold upd
  rw [List.map_map]
  refine List.map_congr_left fun n _ => ?_
  simp only [Function.comp]
  by_cases e : n.id = id
  · rw [if_pos e, if_pos (by rw [hf]; exact e), if_pos e]
  · rw [if_neg e, if_neg e, if_neg e]
def wsF (wt : Int) (n : Nd) : Nd := { n with wt := wt }
theorem wsF_same (p : Int) : ∀ n, (wsF p n).id = n.id ∧ (wsF p n).par = n.par ∧ (wsF p n).thr = n.thr := fun _ => ⟨rfl, rfl, rfl⟩

section
variable {base x : Nat} {W : Wit} {l : List Nd} {w : World}
set_option maxRecDepth 100000 in
set_option maxHeartbeats 2000000 in
theorem weightP_10 (h : TOk base x W l w) (id wt : Int) (hw : isW wt = false) :
    Calls Tryd.prog 14 #[.pointer (some ⟨x, 0, none⟩), .int .i64 id, .int .i64 wt] w (Yields w (errV 10)) := by
  have hl1 : l.length ≤ 1000 := by have := h.len; omega
  have HFP : Hid (∀ w', Ext w w' → Calls Tryd.prog 27 #[.pointer (some ⟨x, 0, none⟩), .int .i64 id] w' (Yields w' (nodP W l id))) := fun w' hx => find_at (h.pt.ext hx) h.ids hl1 _
  have HW := hid hw
  rw [errV_pos (by decide)]
  clear h hl1 hw
  generalize nodP W l id = P at *
  go_enter Tryd.func14, Tryd.ntmps14
  go_wp2_with (first | (go_at_call 27; (with_reducible refine (HFP.out _ (by repeat (first | exact Ext.refl _ | assumption | refine Ext.more ?_ _ | refine Ext.drew ?_ | refine Ext.drewN ?_ _ | refine Ext.alloc ?_ _ | refine Ext.setCell ?_ (by simp; try omega) _ | refine Ext.trans ?_ (by assumption)))).yields ?_); intro q1) | (go_at_call 28; (with_reducible refine (isW_to HW.out _).yields ?_); intro q2))
  go_returns
  exact ⟨rfl, (by repeat (first | exact Ext.refl _ | assumption | refine Ext.more ?_ _ | refine Ext.drew ?_ | refine Ext.drewN ?_ _ | refine Ext.alloc ?_ _ | refine Ext.setCell ?_ (by simp; try omega) _ | refine Ext.trans ?_ (by assumption)))⟩
set_option maxRecDepth 100000 in
set_option maxHeartbeats 2000000 in
theorem weightP_13 (h : TOk base x W l w) (id wt : Int) (hw : isW wt = true) (hk : ∀ n, getU l id = some n → n.par < 0) :
    Calls Tryd.prog 14 #[.pointer (some ⟨x, 0, none⟩), .int .i64 id, .int .i64 wt] w (Yields w (errV 13)) := by
  have hl1 : l.length ≤ 1000 := by have := h.len; omega
  have HFP : Hid (∀ w', Ext w w' → Calls Tryd.prog 27 #[.pointer (some ⟨x, 0, none⟩), .int .i64 id] w' (Yields w' (nodP W l id))) := fun w' hx => find_at (h.pt.ext hx) h.ids hl1 _
  have HW := hid hw
  rw [errV_pos (by decide)]
  cases hg : getU l id with
  | none =>
    have HP : Hid (nodP W l id = .pointer none) := if_neg (by simp [hasU, hg])
    rw [HP.out] at HFP
    clear h hl1 hk hg HP hw
    go_enter Tryd.func14, Tryd.ntmps14
    go_wp2_with (first | (go_at_call 27; (with_reducible refine (HFP.out _ (by repeat (first | exact Ext.refl _ | assumption | refine Ext.more ?_ _ | refine Ext.drew ?_ | refine Ext.drewN ?_ _ | refine Ext.alloc ?_ _ | refine Ext.setCell ?_ (by simp; try omega) _ | refine Ext.trans ?_ (by assumption)))).yields ?_); intro q1) | (go_at_call 28; (with_reducible refine (isW_to HW.out _).yields ?_); intro q2))
    go_returns
    exact ⟨rfl, (by repeat (first | exact Ext.refl _ | assumption | refine Ext.more ?_ _ | refine Ext.drew ?_ | refine Ext.drewN ?_ _ | refine Ext.alloc ?_ _ | refine Ext.setCell ?_ (by simp; try omega) _ | refine Ext.trans ?_ (by assumption)))⟩
  | some n =>
    have h0 := hk n hg
    obtain ⟨hn, rfl⟩ := getU_mem hg
    have HP : Hid (nodP W l n.id = .pointer (some ⟨W.nb n.id, 0, none⟩)) := if_pos (hasU_iff.2 ⟨n, hn, rfl⟩)
    rw [HP.out] at HFP
    have m3 := (h.pt.cells hn).2.2.2.1
    rw [grp_top h0] at m3
    have hpl := h.pt.nlt hn
    clear h hl1 hk hg HP hn h0 hw
    go_enter Tryd.func14, Tryd.ntmps14
    go_wp2_with (first | (go_at_call 27; (with_reducible refine (HFP.out _ (by repeat (first | exact Ext.refl _ | assumption | refine Ext.more ?_ _ | refine Ext.drew ?_ | refine Ext.drewN ?_ _ | refine Ext.alloc ?_ _ | refine Ext.setCell ?_ (by simp; try omega) _ | refine Ext.trans ?_ (by assumption)))).yields ?_); intro q1) | (go_at_call 28; (with_reducible refine (isW_to HW.out _).yields ?_); intro q2))
    go_returns
    exact ⟨rfl, (by repeat (first | exact Ext.refl _ | assumption | refine Ext.more ?_ _ | refine Ext.drew ?_ | refine Ext.drewN ?_ _ | refine Ext.alloc ?_ _ | refine Ext.setCell ?_ (by simp; try omega) _ | refine Ext.trans ?_ (by assumption)))⟩
set_option maxRecDepth 100000 in
set_option maxHeartbeats 4000000 in
theorem weightP_any (h : TOk base x W l w) (wt : Int) (hw : isW wt = true) {n p : Nd} (hn : n ∈ l) (h0 : 0 ≤ n.par) (hp : p ∈ l) (he : p.id = n.par) (hnw : isW n.wt = true) (hsc : 0 ≤ scaleW n.pass p.now n.wt wt ∧ scaleW n.pass p.now n.wt wt ≤ 1099511627776) :
    Calls Tryd.prog 14 #[.pointer (some ⟨x, 0, none⟩), .int .i64 n.id, .int .i64 wt] w fun e w' => e = .returned .nilIface ∧ PGo base x W l (upd n.id (wtF p.now wt) l) w w' := by
  have hl1 : l.length ≤ 1000 := by have := h.len; omega
  have HFP : Hid (∀ w', Ext w w' → Calls Tryd.prog 27 #[.pointer (some ⟨x, 0, none⟩), .int .i64 n.id] w' (Yields w' (.pointer (some ⟨W.nb n.id, 0, none⟩)))) := fun w' hx => find_yes (h.pt.ext hx) h.ids hl1 hn
  have HW := hid hw
  obtain ⟨-, m1, -, m3, -, -⟩ := h.pt.cells hn
  rw [grp_up (by omega), ← he] at m3
  have hpl := h.pt.nlt hn
  have hbn := h.bdd n hn
  have hbp := h.bdd p hp
  have HPC : Hid (∀ w', Ext w w' → Calls Tryd.prog 40 #[.pointer (some ⟨W.nb n.id, 0, none⟩)] w' (Yields w' (.int .i64 n.pass))) := fun w' hx => pass_at (h.pt.ext hx) h.bdd hn
  have HNC : Hid (∀ w', Ext w w' → Calls Tryd.prog 41 #[.pointer (some ⟨W.nb p.id, 0, none⟩)] w' (Yields w' (.int .i64 p.now))) := fun w' hx => now_at (h.pt.ext hx) h.bdd hp
  have HSC : Hid (∀ w', Calls Tryd.prog 39 #[.int .i64 n.pass, .int .i64 p.now, .int .i64 n.wt, .int .i64 wt] w' (Yields w' (.int .i64 (scaleW n.pass p.now n.wt wt)))) := fun w' => scaleW_any _ _ _ _ hnw (by omega) (by omega) (by omega) (by omega) w'
  have HMV : Hid (∀ w', Ext w w' → Calls Tryd.prog 38 #[.pointer (some ⟨W.nb n.id, 0, none⟩), .int .i64 (scaleW n.pass p.now n.wt wt)] w' fun e w'' => e = .returned (.tuple #[]) ∧ PGo base x W l (upd n.id (movF (scaleW n.pass p.now n.wt wt)) l) w' w'') := fun w' hx => move_any (h.pt.ext hx) h.qok h.ids h.clo h.len hn h0 _ hsc.1 hsc.2
  have hfin : upd n.id (wsF wt) (upd n.id (movF (scaleW n.pass p.now n.wt wt)) l) = upd n.id (wtF p.now wt) l := by
    rw [upd_upd (f := movF (scaleW n.pass p.now n.wt wt)) (fun _ => rfl)]
    exact upd_congr fun m hm e => by rw [uniqU h.ids hm hn e]; rfl
  have HFIN := hid hfin
  have HIDS : Hid (Ids (upd n.id (movF (scaleW n.pass p.now n.wt wt)) l)) := ids_upd (fun _ => rfl) h.ids
  have HN2 : Hid (movF (scaleW n.pass p.now n.wt wt) n ∈ upd n.id (movF (scaleW n.pass p.now n.wt wt)) l) := mem_upd.2 ⟨n, hn, by rw [if_pos rfl]⟩
  clear h hl1 hn hp he hnw hsc hbn hbp hw h0 hfin
  generalize scaleW n.pass p.now n.wt wt = sc at *
  go_enter Tryd.func14, Tryd.ntmps14
  go_wp2_with (first | (go_at_call 27; (with_reducible refine (HFP.out _ (by repeat (first | exact Ext.refl _ | assumption | refine Ext.more ?_ _ | refine Ext.drew ?_ | refine Ext.drewN ?_ _ | refine Ext.alloc ?_ _ | refine Ext.setCell ?_ (by simp; try omega) _ | refine Ext.trans ?_ (by assumption)))).yields ?_); intro q1) | (go_at_call 28; (with_reducible refine (isW_to HW.out _).yields ?_); intro q2))
  generalize q1.then q2 = qq at *
  refine wp_region_T 14 1 (fun u => Ext w u ∧ True) (by kernel_rfl) (by kernel_rfl) ?_
  have HSS : Ext w (more w qq).drew ∧ True := ⟨Ext.drew (ext_more w qq), trivial⟩
  generalize (more w qq).drew = w2 at *
  refine wpT_take 0 (v := ?v112) rfl (by kernel_rfl) (by kernel_rfl) (by kernel_rfl) (by kernel_rfl) (by intro _ _ _ h; first | exact h | (obtain ⟨h, _⟩ := h; cases h)) (by rfl) HSS ?hy112 ?_
  case hy112 => (intro u hu; obtain ⟨hxu, -⟩ := hu; have k1 := hxu.cell m1; have k3 := hxu.cell m3; go_simp; first | done | (with_reducible rfl))
  (try simp only [Act.put, List.getElem_toArray, List.getElem_cons_zero, List.getElem_cons_succ, List.setIfInBounds_toArray, List.set_cons_zero, List.set_cons_succ])
  refine wpT_take 1 (v := ?v113) rfl (by kernel_rfl) (by kernel_rfl) (by kernel_rfl) (by kernel_rfl) (by intro _ _ _ h; first | exact h | (obtain ⟨h, _⟩ := h; cases h)) (by rfl) HSS ?hy113 ?_
  case hy113 => (intro u hu; obtain ⟨hxu, -⟩ := hu; have k1 := hxu.cell m1; have k3 := hxu.cell m3; go_simp; first | done | (with_reducible rfl))
  (try simp only [Act.put, List.getElem_toArray, List.getElem_cons_zero, List.getElem_cons_succ, List.setIfInBounds_toArray, List.set_cons_zero, List.set_cons_succ])
  refine wpT_take 3 (v := ?v114) rfl (by kernel_rfl) (by kernel_rfl) (by kernel_rfl) (by kernel_rfl) (by intro _ _ _ h; first | exact h | (obtain ⟨h, _⟩ := h; cases h)) (by rfl) HSS ?hy114 ?_
  case hy114 => (intro u hu; obtain ⟨hxu, -⟩ := hu; have k1 := hxu.cell m1; have k3 := hxu.cell m3; go_simp; first | done | (with_reducible rfl))
  (try simp only [Act.put, List.getElem_toArray, List.getElem_cons_zero, List.getElem_cons_succ, List.setIfInBounds_toArray, List.set_cons_zero, List.set_cons_succ])
  refine wpT_take 4 (v := ?v115) rfl (by kernel_rfl) (by kernel_rfl) (by kernel_rfl) (by kernel_rfl) (by intro _ _ _ h; first | exact h | (obtain ⟨h, _⟩ := h; cases h)) (by rfl) HSS ?hy115 ?_
  case hy115 => (intro u hu; obtain ⟨hxu, -⟩ := hu; have k1 := hxu.cell m1; have k3 := hxu.cell m3; go_simp; first | done | (with_reducible rfl))
  (try simp only [Act.put, List.getElem_toArray, List.getElem_cons_zero, List.getElem_cons_succ, List.setIfInBounds_toArray, List.set_cons_zero, List.set_cons_succ])
  refine wpT_take 5 (v := ?v116) rfl (by kernel_rfl) (by kernel_rfl) (by kernel_rfl) (by kernel_rfl) (by intro _ _ _ h; first | exact h | (obtain ⟨h, _⟩ := h; cases h)) (by rfl) HSS ?hy116 ?_
  case hy116 => (intro u hu; obtain ⟨hxu, -⟩ := hu; have k1 := hxu.cell m1; have k3 := hxu.cell m3; go_simp; first | done | (with_reducible rfl))
  (try simp only [Act.put, List.getElem_toArray, List.getElem_cons_zero, List.getElem_cons_succ, List.setIfInBounds_toArray, List.set_cons_zero, List.set_cons_succ])
  refine wpT_take 6 (v := ?v117) rfl (by kernel_rfl) (by kernel_rfl) (by kernel_rfl) (by kernel_rfl) (by intro _ _ _ h; first | exact h | (obtain ⟨h, _⟩ := h; cases h)) (by rfl) HSS ?hy117 ?_
  case hy117 => (intro u hu; obtain ⟨hxu, -⟩ := hu; have k1 := hxu.cell m1; have k3 := hxu.cell m3; go_simp; first | done | (with_reducible rfl))
  (try simp only [Act.put, List.getElem_toArray, List.getElem_cons_zero, List.getElem_cons_succ, List.setIfInBounds_toArray, List.set_cons_zero, List.set_cons_succ])
  refine wpT_take 8 (v := ?v118) rfl (by kernel_rfl) (by kernel_rfl) (by kernel_rfl) (by kernel_rfl) (by intro _ _ _ h; first | exact h | (obtain ⟨h, _⟩ := h; cases h)) (by rfl) HSS ?hy118 ?_
  case hy118 => (intro u hu; obtain ⟨hxu, -⟩ := hu; have k1 := hxu.cell m1; have k3 := hxu.cell m3; go_simp; first | done | (with_reducible rfl))
  (try simp only [Act.put, List.getElem_toArray, List.getElem_cons_zero, List.getElem_cons_succ, List.setIfInBounds_toArray, List.set_cons_zero, List.set_cons_succ])
  refine wpT_take 9 (v := ?v119) rfl (by kernel_rfl) (by kernel_rfl) (by kernel_rfl) (by kernel_rfl) (by intro _ _ _ h; first | exact h | (obtain ⟨h, _⟩ := h; cases h)) (by rfl) HSS ?hy119 ?_
  case hy119 => (intro u hu; obtain ⟨hxu, -⟩ := hu; have k1 := hxu.cell m1; have k3 := hxu.cell m3; go_simp; first | done | (with_reducible rfl))
  (try simp only [Act.put, List.getElem_toArray, List.getElem_cons_zero, List.getElem_cons_succ, List.setIfInBounds_toArray, List.set_cons_zero, List.set_cons_succ])
  refine wpT_take 10 (v := ?v120) rfl (by kernel_rfl) (by kernel_rfl) (by kernel_rfl) (by kernel_rfl) (by intro _ _ _ h; first | exact h | (obtain ⟨h, _⟩ := h; cases h)) (by rfl) HSS ?hy120 ?_
  case hy120 => (intro u hu; obtain ⟨hxu, -⟩ := hu; have k1 := hxu.cell m1; have k3 := hxu.cell m3; go_simp; first | done | (with_reducible rfl))
  (try simp only [Act.put, List.getElem_toArray, List.getElem_cons_zero, List.getElem_cons_succ, List.setIfInBounds_toArray, List.set_cons_zero, List.set_cons_succ])
  refine wpT_take 11 (v := ?v121) rfl (by kernel_rfl) (by kernel_rfl) (by kernel_rfl) (by kernel_rfl) (by intro _ _ _ h; first | exact h | (obtain ⟨h, _⟩ := h; cases h)) (by rfl) HSS ?hy121 ?_
  case hy121 => (intro u hu; obtain ⟨hxu, -⟩ := hu; have k1 := hxu.cell m1; have k3 := hxu.cell m3; go_simp; first | done | (with_reducible rfl))
  (try simp only [Act.put, List.getElem_toArray, List.getElem_cons_zero, List.getElem_cons_succ, List.setIfInBounds_toArray, List.set_cons_zero, List.set_cons_succ])
  refine wpT_take 12 (v := ?v122) rfl (by kernel_rfl) (by kernel_rfl) (by kernel_rfl) (by kernel_rfl) (by intro _ _ _ h; first | exact h | (obtain ⟨h, _⟩ := h; cases h)) (by rfl) HSS ?hy122 ?_
  case hy122 => (intro u hu; obtain ⟨hxu, -⟩ := hu; have k1 := hxu.cell m1; have k3 := hxu.cell m3; go_simp; first | done | (with_reducible rfl))
  (try simp only [Act.put, List.getElem_toArray, List.getElem_cons_zero, List.getElem_cons_succ, List.setIfInBounds_toArray, List.set_cons_zero, List.set_cons_succ])
  refine wpT_one 2 rfl (by kernel_rfl) (by rfl) (fun K' hK => ?_)
  go_simp
  (with_reducible refine (HPC.out _ HSS.1).mono ?_)
  rintro e w3 ⟨rfl, hx3⟩
  have HSS2 : Ext w w3 ∧ True := ⟨HSS.1.trans hx3, trivial⟩
  refine hK.out _ _ HSS2 ?_
  clear HSS hK K' hx3
  have HSS := HSS2
  clear HSS2
  (try simp only [Act.put, List.getElem_toArray, List.getElem_cons_zero, List.getElem_cons_succ, List.setIfInBounds_toArray, List.set_cons_zero, List.set_cons_succ])
  refine wpT_one 7 rfl (by kernel_rfl) (by rfl) (fun K' hK => ?_)
  go_simp
  (with_reducible refine (HNC.out _ HSS.1).mono ?_)
  rintro e w4 ⟨rfl, hx4⟩
  have HSS2 : Ext w w4 ∧ True := ⟨HSS.1.trans hx4, trivial⟩
  refine hK.out _ _ HSS2 ?_
  clear HSS hK K' hx4
  have HSS := HSS2
  clear HSS2
  (try simp only [Act.put, List.getElem_toArray, List.getElem_cons_zero, List.getElem_cons_succ, List.setIfInBounds_toArray, List.set_cons_zero, List.set_cons_succ])
  refine wpT_one 13 rfl (by kernel_rfl) (by rfl) (fun K' hK => ?_)
  go_simp
  (with_reducible refine (HSC.out _).mono ?_)
  rintro e w5 ⟨rfl, hx5⟩
  have HSS2 : Ext w w5 ∧ True := ⟨HSS.1.trans hx5, trivial⟩
  refine hK.out _ _ HSS2 ?_
  clear HSS hK K' hx5
  (try simp only [Act.put, List.getElem_toArray, List.getElem_cons_zero, List.getElem_cons_succ, List.setIfInBounds_toArray, List.set_cons_zero, List.set_cons_succ])
  refine wpT_done (by kernel_rfl) ?_
  refine wpAny_one 14 rfl (by kernel_rfl) (by rfl) (fun K' hK => ?_)
  go_simp
  (with_reducible refine (HMV.out _ HSS2.1).mono ?_)
  rintro e w6 ⟨rfl, W2, a1, a2, a3, a4, a5, a6⟩
  refine hK.out _ _ ?_
  clear hK K'
  (try simp only [Act.put, List.getElem_toArray, List.getElem_cons_zero, List.getElem_cons_succ, List.setIfInBounds_toArray, List.set_cons_zero, List.set_cons_succ])
  refine wpAny_done (by kernel_rfl) ?_ _
  have k1 : w6.cell? ⟨W.nb n.id, 1, none⟩ = some (.int .i64 n.wt) := by rw [← a5]; exact (a1.cells HN2.out).2.1
  have fz : w6.frozen? ⟨W.nb n.id, 1, none⟩ = false := by rw [← a5]; exact a1.free HN2.out 1
  have H7 := a1.setWt HN2.out HIDS.out (wsF wt) fun _ => ⟨rfl, rfl, rfl, rfl, rfl⟩
  have HG : Hid (PGo base x W l (upd n.id (wtF p.now wt) l) w (w6.setCell ⟨W.nb n.id, 1, none⟩ (.int .i64 wt))) := by
    have e1 : (movF sc n).id = n.id := rfl
    rw [e1, HFIN.out, a5] at H7
    refine ⟨W2, H7, ?_, ?_, a4, a5, a6⟩
    · rw [← HFIN.out]
      exact a2.quiet HIDS.out HN2.out (wsF wt) (wsF_same _) fun _ => ⟨rfl, fun _ => rfl⟩
    · rw [← HFIN.out]
      refine fr_upd (wsF_same _) ((Fr.trans (.of_ext HSS2.1) a3).trans (Fr.set ?_ 1 _))
      exact .inr (.inr ⟨_, HN2.out, .inl (by rw [a5]; rfl)⟩)
  clear H7 a1 a2 a3 HSS2 HPC HNC HSC HMV
  go_wp2
  go_returns
  exact ⟨rfl, HG.out⟩
end
end Go.Proofs.YtfccmdmfllicdaaDoor
