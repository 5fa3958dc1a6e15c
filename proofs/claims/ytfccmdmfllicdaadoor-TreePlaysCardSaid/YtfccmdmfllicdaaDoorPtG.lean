/- The program's own tree: Run's way down, and the whole of Run. -/
import Derived.Test.YtfccmdmfllicdaaDoorPtF
namespace Go.Proofs.YtfccmdmfllicdaaDoor
open Go.RowKit
set_option linter.unusedSimpArgs false

section
variable {base x : Nat} {W : Wit} {l : List Nd} {w : World}
def LeafM (x b : Nat) (z : World) (a' : Act) (y : World) : Prop :=
  ∃ (u1 u2 u3 u5 u6 u7 u8 u9 u10 u11 u12 u13 u14 u15 u16 u17 u18 u19 u20 u21 u22 u23 u24 u25 u26 u27 u28 u29 u30 u31 u32 u33 u34 u35 u36 u37 u38 u39 u40 u41 u42 u43 u44 u45 u46 u47 u48 u49 u50 u51 u52 u53 u54 u55 u56 u57 u58 u59 u60 u61 u62 u63 : Value), a' = { tmps := #[.pointer (some ⟨x, 0, none⟩), u1, u2, u3, .pointer (some ⟨b, 0, none⟩), u5, u6, u7, u8, u9, u10, u11, u12, u13, u14, u15, u16, u17, u18, u19, u20, u21, u22, u23, u24, u25, u26, u27, u28, u29, u30, u31, u32, u33, u34, u35, u36, u37, u38, u39, u40, u41, u42, u43, u44, u45, u46, u47, u48, u49, u50, u51, u52, u53, u54, u55, u56, u57, u58, u59, u60, u61, u62, u63], defers := [] } ∧ y = z
set_option maxRecDepth 100000 in
set_option maxHeartbeats 2000000 in
theorem run_leaf {b : Nat} {z : World} (m2 : z.cell? ⟨b, 2, none⟩ = some (.bool true)) (u1 u2 u3 u5 u6 u7 u8 u9 u10 u11 u12 u13 u14 u15 u16 u17 u18 u19 u20 u21 u22 u23 u24 u25 u26 u27 u28 u29 u30 u31 u32 u33 u34 u35 u36 u37 u38 u39 u40 u41 u42 u43 u44 u45 u46 u47 u48 u49 u50 u51 u52 u53 u54 u55 u56 u57 u58 u59 u60 u61 u62 u63 : Value) :
    (bodyAt Tryd.f16 [1, 0, 1, 1, 1, 0]).wp Tryd.prog (Ends (LeafM x b z)) ({ tmps := #[.pointer (some ⟨x, 0, none⟩), u1, u2, u3, .pointer (some ⟨b, 0, none⟩), u5, u6, u7, u8, u9, u10, u11, u12, u13, u14, u15, u16, u17, u18, u19, u20, u21, u22, u23, u24, u25, u26, u27, u28, u29, u30, u31, u32, u33, u34, u35, u36, u37, u38, u39, u40, u41, u42, u43, u44, u45, u46, u47, u48, u49, u50, u51, u52, u53, u54, u55, u56, u57, u58, u59, u60, u61, u62, u63], defers := [] }) z := by
  unfold bodyAt Tryd.f16
  simp only [codeAt]
  go_wp2
  exact ⟨rfl, _, _, _, _, _, _, _, _, _, _, _, _, _, _, _, _, _, _, _, _, _, _, _, _, _, _, _, _, _, _, _, _, _, _, _, _, _, _, _, _, _, _, _, _, _, _, _, _, _, _, _, _, _, _, _, _, _, _, _, _, _, _, rfl, rfl⟩

set_option maxRecDepth 100000 in
set_option maxHeartbeats 4000000 in
/-- One step down. -/
theorem run_step {R : Int × List Nd} {F f : Nat} {w0 : World} {NN : Act → World → Prop} {RR : Ending → World → Prop} {W1 : Wit} {lc : List Nd} {n : Nd} {wc : World} (hF : 20000000 + F * 720720 ≤ 1099511627776) (u1 u2 u3 u5 u6 u7 u8 u9 u10 u11 u12 u13 u14 u15 u16 u17 u18 u19 u20 u21 u22 u23 u24 u25 u26 u27 u28 u29 u30 u31 u32 u33 u34 u35 u36 u37 u38 u39 u40 u41 u42 u43 u44 u45 u46 u47 u48 u49 u50 u51 u52 u53 u54 u55 u56 u57 u58 u59 u60 u61 u62 u63 : Value)
    (h : Pt base x W1 lc wc) (hq : QOk W1 lc) (hs : Ids lc) (hc : Clo lc) (ha : Acy lc) (hfF : f + 1 ≤ F) (hb : BdM (20000000 + (F - (f + 1)) * 720720) lc) (hl : lc.length ≤ 60) (hn : n ∈ lc) (hch : ∀ m ∈ lc, Chain lc F m.id) (hfr : Fr (Own x W l) (Own x W1 lc) w0 wc)
    (hw : W1.v = W.v ∧ W1.nb = W.nb ∧ W1.qb = W.qb) (ht : n.thr = false) (hR : runU (f + 1) lc n.id = some R) :
    (bodyAt Tryd.f16 [1, 0, 1, 1, 1, 0]).wp Tryd.prog (Exit.then NN (Exit.jump 0 (fun a' w' => ∃ f', f' < f + 1 ∧ RunJ base x W l w0 R F f' a' w') (bodyPost Tryd.prog Tryd.f16 RR))) ({ tmps := #[.pointer (some ⟨x, 0, none⟩), u1, u2, u3, .pointer (some ⟨W1.nb n.id, 0, none⟩), u5, u6, u7, u8, u9, u10, u11, u12, u13, u14, u15, u16, u17, u18, u19, u20, u21, u22, u23, u24, u25, u26, u27, u28, u29, u30, u31, u32, u33, u34, u35, u36, u37, u38, u39, u40, u41, u42, u43, u44, u45, u46, u47, u48, u49, u50, u51, u52, u53, u54, u55, u56, u57, u58, u59, u60, u61, u62, u63], defers := [] }) wc := by
  cases hbst : bestU lc n.id with
  | none => rw [runU_none hs hn ht hbst] at hR; cases hR
  | some b =>
  rw [runU_on hs hn ht hbst] at hR
  obtain ⟨hbl, hbp, hbr, -⟩ := bestU_spec hs hbst
  have hn0 := (hc n hn).1
  have hne : b.id ≠ n.id := fun e => ha b hbl (by rw [hbp, e])
  have hbdd := hb.bdd (by omega)
  have hbn := hb n hn
  have hbb := hb b hbl
  have how := ofW_bounds b.wt
  obtain ⟨c0, -, c2, -, c4, -⟩ := h.cells hn
  rw [ht] at c2
  have hnl := h.nlt hn
  have HLS := hid (least_any h hq hs hl hn ht hbst)
  have HAH : Hid (∀ w', Ext wc w' → Calls Tryd.prog 45 #[.pointer (some ⟨W1.nb b.id, 0, none⟩)] w' (Yields w' (.float .f64 (Fz (b.pass - n.now))))) := fun w' hx => ahead_at (h.ext hx) hbdd hbl hn hbp.symm (by omega)
  have hsm := fun t w => run_complex_sum (P := Tryd.prog) w .add (.inl rfl) t .f64 (Fz n.pass) (Fz n.now) (Fz 0) (Fz (b.pass - n.now)) _ _ (sum_Fz (by omega) (by omega) (by decide) (by omega))
  rw [zero_Fz, Int.add_zero, show n.now + (b.pass - n.now) = b.pass by omega] at hsm
  have HH := hid h
  have HQ := hid hq
  have HS := hid hs
  have HC := hid hc
  have HA := hid ha
  have HB := hid hb
  have HL := hid hl
  have HN := hid hn
  have HCH := hid hch
  have HFR := hid hfr
  have HW := hid hw
  have HR := hid hR
  have HBL := hid hbl
  have HBP := hid hbp
  have HBR := hid hbr
  have HNE := hid hne
  have HN0 := hid hn0
  have HBB := hid (And.intro hbn hbb)
  have HOW := hid how
  have HFF := hid hfF
  have HFM := hid hF
  clear h hq hs hc ha hb hl hn hch hfr hw hR hbl hbp hbr hne hn0 hbn hbb how hbst hbdd ht hF hfF
  unfold bodyAt Tryd.f16
  simp only [codeAt]
  go_wp2_with fail
  (with_reducible refine HLS.out.mono ?_)
  rintro e w1 ⟨rfl, hx1⟩
  have k4 := hx1.cell c4
  go_wp2_with fail
  refine wp_region_T 8 3 (fun u => Ext wc u ∧ True) (by kernel_rfl) (by kernel_rfl) ?_
  have HSS : Ext wc w1.drew ∧ True := ⟨Ext.drew hx1, trivial⟩
  clear k4 c0 c2 HLS hx1
  generalize w1.drew = w2 at *
  refine wpT_take 0 (v := ?v97) rfl (by kernel_rfl) (by kernel_rfl) (by kernel_rfl) (by kernel_rfl) (by intro _ _ _ h; first | exact h | (obtain ⟨h, _⟩ := h; cases h)) (by rfl) HSS ?hy97 ?_
  case hy97 => (intro u hu; obtain ⟨hxu, -⟩ := hu; have k4 := hxu.cell c4; go_simp; first | done | (with_reducible rfl))
  (try simp only [Act.put, List.getElem_toArray, List.getElem_cons_zero, List.getElem_cons_succ, List.setIfInBounds_toArray, List.set_cons_zero, List.set_cons_succ])
  refine wpT_take 1 (v := ?v98) rfl (by kernel_rfl) (by kernel_rfl) (by kernel_rfl) (by kernel_rfl) (by intro _ _ _ h; first | exact h | (obtain ⟨h, _⟩ := h; cases h)) (by rfl) HSS ?hy98 ?_
  case hy98 => (intro u hu; obtain ⟨hxu, -⟩ := hu; have k4 := hxu.cell c4; go_simp; first | done | (with_reducible rfl))
  (try simp only [Act.put, List.getElem_toArray, List.getElem_cons_zero, List.getElem_cons_succ, List.setIfInBounds_toArray, List.set_cons_zero, List.set_cons_succ])
  refine wpT_take 2 (v := ?v99) rfl (by kernel_rfl) (by kernel_rfl) (by kernel_rfl) (by kernel_rfl) (by intro _ _ _ h; first | exact h | (obtain ⟨h, _⟩ := h; cases h)) (by rfl) HSS ?hy99 ?_
  case hy99 => (intro u hu; obtain ⟨hxu, -⟩ := hu; have k4 := hxu.cell c4; go_simp; first | done | (with_reducible rfl))
  (try simp only [Act.put, List.getElem_toArray, List.getElem_cons_zero, List.getElem_cons_succ, List.setIfInBounds_toArray, List.set_cons_zero, List.set_cons_succ])
  refine wpT_take 3 (v := ?v100) rfl (by kernel_rfl) (by kernel_rfl) (by kernel_rfl) (by kernel_rfl) (by intro _ _ _ h; first | exact h | (obtain ⟨h, _⟩ := h; cases h)) (by rfl) HSS ?hy100 ?_
  case hy100 => (intro u hu; obtain ⟨hxu, -⟩ := hu; have k4 := hxu.cell c4; go_simp; first | done | (with_reducible rfl))
  (try simp only [Act.put, List.getElem_toArray, List.getElem_cons_zero, List.getElem_cons_succ, List.setIfInBounds_toArray, List.set_cons_zero, List.set_cons_succ])
  refine wpT_take 4 (v := ?v101) rfl (by kernel_rfl) (by kernel_rfl) (by kernel_rfl) (by kernel_rfl) (by intro _ _ _ h; first | exact h | (obtain ⟨h, _⟩ := h; cases h)) (by rfl) HSS ?hy101 ?_
  case hy101 => (intro u hu; obtain ⟨hxu, -⟩ := hu; have k4 := hxu.cell c4; go_simp; first | done | (with_reducible rfl))
  (try simp only [Act.put, List.getElem_toArray, List.getElem_cons_zero, List.getElem_cons_succ, List.setIfInBounds_toArray, List.set_cons_zero, List.set_cons_succ])
  refine wpT_one 5 rfl (by kernel_rfl) (by rfl) (fun K' hK => ?_)
  go_simp
  (with_reducible refine (HAH.out _ HSS.1).mono ?_)
  rintro e w3 ⟨rfl, hx3⟩
  have HSS2 : Ext wc w3 ∧ True := ⟨HSS.1.trans hx3, trivial⟩
  refine hK.out _ _ HSS2 ?_
  clear HSS hK K' hx3
  have HSS := HSS2
  (try simp only [Act.put, List.getElem_toArray, List.getElem_cons_zero, List.getElem_cons_succ, List.setIfInBounds_toArray, List.set_cons_zero, List.set_cons_succ])
  refine wpT_take 6 (v := ?v102) rfl (by kernel_rfl) (by kernel_rfl) (by kernel_rfl) (by kernel_rfl) (by intro _ _ _ h; first | exact h | (obtain ⟨h, _⟩ := h; cases h)) (by rfl) HSS ?hy102 ?_
  case hy102 => (intro u hu; go_simp; first | done | (with_reducible rfl))
  (try simp only [Act.put, List.getElem_toArray, List.getElem_cons_zero, List.getElem_cons_succ, List.setIfInBounds_toArray, List.set_cons_zero, List.set_cons_succ])
  refine wpT_take 7 (v := ?v103) rfl (by kernel_rfl) (by kernel_rfl) (by kernel_rfl) (by kernel_rfl) (by intro _ _ _ h; first | exact h | (obtain ⟨h, _⟩ := h; cases h)) (by rfl) HSS ?hy103 ?_
  case hy103 => (intro u hu; go_simp; first | done | (with_reducible rfl))
  (try simp only [Act.put, List.getElem_toArray, List.getElem_cons_zero, List.getElem_cons_succ, List.setIfInBounds_toArray, List.set_cons_zero, List.set_cons_succ])
  refine wpT_done (by kernel_rfl) ?_
  refine wpAny_take (i := 8) (v := ?w110) rfl (by kernel_rfl) (by kernel_rfl) (by kernel_rfl) (by intro _ _ _ h; first | exact h | (obtain ⟨h, _⟩ := h; cases h)) (Or.inl ⟨by rfl, ?hw110⟩) ?_
  case hw110 => (intro w; go_simp; first | done | (with_reducible rfl))
  (try simp only [Act.put, List.getElem_toArray, List.getElem_cons_zero, List.getElem_cons_succ, List.setIfInBounds_toArray, List.set_cons_zero, List.set_cons_succ])
  refine wpAny_take (i := 9) (v := ?w111) rfl (by kernel_rfl) (by kernel_rfl) (by kernel_rfl) (by intro _ _ _ h; first | exact h | (obtain ⟨h, _⟩ := h; cases h)) (Or.inl ⟨by rfl, ?hw111⟩) ?_
  case hw111 => (intro w; go_simp; first | done | (with_reducible rfl))
  (try simp only [Act.put, List.getElem_toArray, List.getElem_cons_zero, List.getElem_cons_succ, List.setIfInBounds_toArray, List.set_cons_zero, List.set_cons_succ])
  have k4 := HSS.1.cell c4
  have fz3 := (HH.out.ext HSS.1).free HN.out 4
  refine wpAny_one 10 rfl (by kernel_rfl) (by rfl) (fun K' hK => ?_)
  go_simp
  refine hK.out _ _ ?_
  (try simp only [Act.put, List.getElem_toArray, List.getElem_cons_zero, List.getElem_cons_succ, List.setIfInBounds_toArray, List.set_cons_zero, List.set_cons_succ])
  refine wpAny_done (by kernel_rfl) ?_ _
  clear hK K' k4 fz3 hsm HAH
  have H4 := hid ((HH.out.ext HSS.1).setAt HN.out HS.out (nowF b.pass) fun _ => ⟨rfl, rfl, rfl, rfl⟩)
  have HF4 : Hid (Fr (Own x W l) (Own x W1 (upd n.id (nowF b.pass) lc)) w0 (w3.setCell ⟨W1.nb n.id, 4, none⟩ (.complex .f64 (Fz n.pass) (Fz b.pass)))) := fr_upd (nowF_same _) ((HFR.out.ext HSS.1).trans (Fr.set (.inr (.inr ⟨n, HN.out, .inl rfl⟩)) 4 _))
  rw [show (nowF b.pass n).pass = n.pass from rfl, show (nowF b.pass n).now = b.pass from rfl] at H4
  clear HSS HSS2 c4 hnl HFR HH
  generalize w3.setCell ⟨W1.nb n.id, 4, none⟩ (.complex .f64 (Fz n.pass) (Fz b.pass)) = w4 at *
  have HQ4 : Hid (QOk W1 (upd n.id (nowF b.pass) lc)) := HQ.out.quiet HS.out HN.out _ (nowF_same _) fun _ => ⟨rfl, fun _ => rfl⟩
  have HS4 : Hid (Ids (upd n.id (nowF b.pass) lc)) := ids_upd (fun _ => rfl) HS.out
  have HC4 : Hid (Clo (upd n.id (nowF b.pass) lc)) := HC.out.upd (nowF_same _)
  have hb4 : b ∈ upd n.id (nowF b.pass) lc := mem_upd.2 ⟨b, HBL.out, by rw [if_neg HNE.out]⟩
  have HBD4 : Hid (BdM (20000000 + (F - (f + 1)) * 720720) (upd n.id (nowF b.pass) lc)) := fun m' hm' => by
    obtain ⟨m, hm, rfl⟩ := mem_upd.1 hm'
    have h1 := HB.out m hm
    have h2 := HBB.out.2
    split
    · simp only [nowF]; omega
    · exact h1
  have HL4 : Hid ((upd n.id (nowF b.pass) lc).length ≤ 60) := by unfold Hid; rw [upd_length]; exact HL.out
  have d1 := (H4.out.cells hb4).2.1
  have hbl4 := H4.out.nlt hb4
  have hpc : Hid (∀ w', Ext w4 w' → Calls Tryd.prog 40 #[.pointer (some ⟨W1.nb b.id, 0, none⟩)] w' (Yields w' (.int .i64 b.pass))) := fun w' hx => pass_at (H4.out.ext hx) (HBD4.out.bdd (by have := HFM.out; have := HFF.out; omega)) hb4
  have HMV : Hid (∀ w', Ext w4 w' → Calls Tryd.prog 38 #[.pointer (some ⟨W1.nb b.id, 0, none⟩), .int .i64 (b.pass + ofW b.wt)] w' fun e w'' => e = .returned (.tuple #[]) ∧ PGo base x W1 (upd n.id (nowF b.pass) lc) (upd b.id (movF (b.pass + ofW b.wt)) (upd n.id (nowF b.pass) lc)) w' w'') := fun w' hx =>
    move_any (H4.out.ext hx) HQ4.out HS4.out HC4.out HL4.out hb4 (by rw [HBP.out]; exact HN0.out) _ (by have := HBB.out; have := HOW.out; omega) (by have := HBB.out; have := HOW.out; have := HFM.out; have := HFF.out; omega)
  have hcg : upd b.id (movF (b.pass + ofW b.wt)) (upd n.id (nowF b.pass) lc) = upd b.id goF (upd n.id (nowF b.pass) lc) := upd_congr fun m hm e => by
    rw [uniqU HS4.out hm hb4 e]; rfl
  rw [hcg] at HMV
  have HB4 := hid hb4
  clear hb4 hcg
  go_wp2_with fail
  refine wp_region_T 8 1 (fun u => Ext w4 u ∧ True) (by kernel_rfl) (by kernel_rfl) ?_
  have HSS : Ext w4 w4.drew ∧ True := ⟨Ext.drew (Ext.refl _), trivial⟩
  generalize w4.drew = w5 at *
  refine wpT_take 0 (v := ?v104) rfl (by kernel_rfl) (by kernel_rfl) (by kernel_rfl) (by kernel_rfl) (by intro _ _ _ h; first | exact h | (obtain ⟨h, _⟩ := h; cases h)) (by rfl) HSS ?hy104 ?_
  case hy104 => (intro u hu; obtain ⟨hxu, -⟩ := hu; have k1 := hxu.cell d1; go_simp; first | done | (with_reducible rfl))
  (try simp only [Act.put, List.getElem_toArray, List.getElem_cons_zero, List.getElem_cons_succ, List.setIfInBounds_toArray, List.set_cons_zero, List.set_cons_succ])
  refine wpT_take 1 (v := ?v105) rfl (by kernel_rfl) (by kernel_rfl) (by kernel_rfl) (by kernel_rfl) (by intro _ _ _ h; first | exact h | (obtain ⟨h, _⟩ := h; cases h)) (by rfl) HSS ?hy105 ?_
  case hy105 => (intro u hu; obtain ⟨hxu, -⟩ := hu; have k1 := hxu.cell d1; go_simp; first | done | (with_reducible rfl))
  (try simp only [Act.put, List.getElem_toArray, List.getElem_cons_zero, List.getElem_cons_succ, List.setIfInBounds_toArray, List.set_cons_zero, List.set_cons_succ])
  refine wpT_take 3 (v := ?v106) rfl (by kernel_rfl) (by kernel_rfl) (by kernel_rfl) (by kernel_rfl) (by intro _ _ _ h; first | exact h | (obtain ⟨h, _⟩ := h; cases h)) (by rfl) HSS ?hy106 ?_
  case hy106 => (intro u hu; obtain ⟨hxu, -⟩ := hu; have k1 := hxu.cell d1; go_simp; first | done | (with_reducible rfl))
  (try simp only [Act.put, List.getElem_toArray, List.getElem_cons_zero, List.getElem_cons_succ, List.setIfInBounds_toArray, List.set_cons_zero, List.set_cons_succ])
  refine wpT_take 4 (v := ?v107) rfl (by kernel_rfl) (by kernel_rfl) (by kernel_rfl) (by kernel_rfl) (by intro _ _ _ h; first | exact h | (obtain ⟨h, _⟩ := h; cases h)) (by rfl) HSS ?hy107 ?_
  case hy107 => (intro u hu; obtain ⟨hxu, -⟩ := hu; have k1 := hxu.cell d1; go_simp; first | done | (with_reducible rfl))
  (try simp only [Act.put, List.getElem_toArray, List.getElem_cons_zero, List.getElem_cons_succ, List.setIfInBounds_toArray, List.set_cons_zero, List.set_cons_succ])
  refine wpT_take 5 (v := ?v108) rfl (by kernel_rfl) (by kernel_rfl) (by kernel_rfl) (by kernel_rfl) (by intro _ _ _ h; first | exact h | (obtain ⟨h, _⟩ := h; cases h)) (by rfl) HSS ?hy108 ?_
  case hy108 => (intro u hu; obtain ⟨hxu, -⟩ := hu; have k1 := hxu.cell d1; go_simp; first | done | (with_reducible rfl))
  (try simp only [Act.put, List.getElem_toArray, List.getElem_cons_zero, List.getElem_cons_succ, List.setIfInBounds_toArray, List.set_cons_zero, List.set_cons_succ])
  refine wpT_take 6 (v := ?v109) rfl (by kernel_rfl) (by kernel_rfl) (by kernel_rfl) (by kernel_rfl) (by intro _ _ _ h; first | exact h | (obtain ⟨h, _⟩ := h; cases h)) (by rfl) HSS ?hy109 ?_
  case hy109 => (intro u hu; obtain ⟨hxu, -⟩ := hu; have k1 := hxu.cell d1; go_simp; first | done | (with_reducible rfl))
  (try simp only [Act.put, List.getElem_toArray, List.getElem_cons_zero, List.getElem_cons_succ, List.setIfInBounds_toArray, List.set_cons_zero, List.set_cons_succ])
  refine wpT_one 2 rfl (by kernel_rfl) (by rfl) (fun K' hK => ?_)
  go_simp
  (with_reducible refine (hpc.out _ HSS.1).mono ?_)
  rintro e w6 ⟨rfl, hx6⟩
  have HSS2 : Ext w4 w6 ∧ True := ⟨HSS.1.trans hx6, trivial⟩
  refine hK.out _ _ HSS2 ?_
  clear HSS hK K' hx6
  have HSS := HSS2
  clear HSS2
  (try simp only [Act.put, List.getElem_toArray, List.getElem_cons_zero, List.getElem_cons_succ, List.setIfInBounds_toArray, List.set_cons_zero, List.set_cons_succ])
  refine wpT_one 7 rfl (by kernel_rfl) (by rfl) (fun K' hK => ?_)
  go_simp
  (with_reducible refine (nextW_any b.pass b.wt (by have := HBB.out; omega) (by have := HBB.out; have := HFM.out; have := HFF.out; omega) _).mono ?_)
  rintro e w7 ⟨rfl, hx7⟩
  have HSS2 : Ext w4 w7 ∧ True := ⟨HSS.1.trans hx7, trivial⟩
  refine hK.out _ _ HSS2 ?_
  clear HSS hK K' hx7
  (try simp only [Act.put, List.getElem_toArray, List.getElem_cons_zero, List.getElem_cons_succ, List.setIfInBounds_toArray, List.set_cons_zero, List.set_cons_succ])
  refine wpT_done (by kernel_rfl) ?_
  refine wpAny_one 8 rfl (by kernel_rfl) (by rfl) (fun K' hK => ?_)
  go_simp
  (with_reducible refine (HMV.out _ HSS2.1).mono ?_)
  rintro e w8 ⟨rfl, hp⟩
  refine hK.out _ _ ?_
  clear hK K'
  (try simp only [Act.put, List.getElem_toArray, List.getElem_cons_zero, List.getElem_cons_succ, List.setIfInBounds_toArray, List.set_cons_zero, List.set_cons_succ])
  refine wpAny_done (by kernel_rfl) ?_ _
  have HJ : Hid (∀ (u1 u2 u3 u5 u6 u7 u8 u9 u10 u11 u12 u13 u14 u15 u16 u17 u18 u19 u20 u21 u22 u23 u24 u25 u26 u27 u28 u29 u30 u31 u32 u33 u34 u35 u36 u37 u38 u39 u40 u41 u42 u43 u44 u45 u46 u47 u48 u49 u50 u51 u52 u53 u54 u55 u56 u57 u58 u59 u60 u61 u62 u63 : Value), RunJ base x W l w0 R F f ({ tmps := #[.pointer (some ⟨x, 0, none⟩), u1, u2, u3, .pointer (some ⟨W1.nb b.id, 0, none⟩), u5, u6, u7, u8, u9, u10, u11, u12, u13, u14, u15, u16, u17, u18, u19, u20, u21, u22, u23, u24, u25, u26, u27, u28, u29, u30, u31, u32, u33, u34, u35, u36, u37, u38, u39, u40, u41, u42, u43, u44, u45, u46, u47, u48, u49, u50, u51, u52, u53, u54, u55, u56, u57, u58, u59, u60, u61, u62, u63], defers := [] }) w8) := by
    intro u1 u2 u3 u5 u6 u7 u8 u9 u10 u11 u12 u13 u14 u15 u16 u17 u18 u19 u20 u21 u22 u23 u24 u25 u26 u27 u28 u29 u30 u31 u32 u33 u34 u35 u36 u37 u38 u39 u40 u41 u42 u43 u44 u45 u46 u47 u48 u49 u50 u51 u52 u53 u54 u55 u56 u57 u58 u59 u60 u61 u62 u63
    obtain ⟨W2, a1, a2, a3, a4, a5, a6⟩ := hp
    refine ⟨W2, upd b.id goF (upd n.id (nowF b.pass) lc), goF b, _, _, _, _, _, _, _, _, _, _, _, _, _, _, _, _, _, _, _, _, _, _, _, _, _, _, _, _, _, _, _, _, _, _, _, _, _, _, _, _, _, _, _, _, _, _, _, _, _, _, _, _, _, _, _, _, _, _, _, _, _, _, by rw [show (goF b).id = b.id from rfl, a5], a1, a2, ids_upd (fun _ => rfl) HS4.out, HC4.out.upd goF_same, (HA.out.upd (nowF_same _)).upd goF_same, by have := HFF.out; omega, ?_, by rw [upd_length]; exact HL4.out, mem_upd.2 ⟨b, HB4.out, by rw [if_pos rfl]⟩, ?_, (HF4.out.trans (.of_ext HSS2.1)).trans a3, ⟨a4.trans HW.out.1, a5.trans HW.out.2.1, a6.trans HW.out.2.2⟩, HR.out⟩
    · intro m' hm'
      obtain ⟨m, hm, rfl⟩ := mem_upd.1 hm'
      have h1 := HBD4.out m hm
      have h3 := ofW_bounds m.wt
      have h4 := HFF.out
      split
      · simp only [goF]; omega
      · omega
    · intro m' hm'
      obtain ⟨m1, hm1, rfl⟩ := mem_upd.1 hm'
      obtain ⟨m, hm, rfl⟩ := mem_upd.1 hm1
      have hi : (if (if m.id = n.id then nowF b.pass m else m).id = b.id then goF (if m.id = n.id then nowF b.pass m else m) else (if m.id = n.id then nowF b.pass m else m)).id = m.id := by split <;> split <;> rfl
      rw [hi]
      exact Chain.upd goF_same _ _ (Chain.upd (nowF_same _) _ _ (HCH.out m hm))
  clear hp HMV hpc d1 hbl4 HSS2
  go_wp2
  refine Go.wp_goto ?_
  exact ⟨rfl, f, Nat.lt_succ_self f, by apply HJ.out⟩
end
end Go.Proofs.YtfccmdmfllicdaaDoor
