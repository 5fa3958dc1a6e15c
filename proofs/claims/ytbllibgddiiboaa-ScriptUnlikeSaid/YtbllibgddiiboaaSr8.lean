/- The script's reader: the whole script. -/
import Derived.Test.YtbllibgddiiboaaSr7
namespace Go.Proofs.Ytbllibgddiiboaa
open Go.RowKit
set_option linter.unusedSimpArgs false

theorem sets7 {w : World} {n : Nat} {T : TypeId} {z0 z1 z2 z3 z4 z5 z6 : Value} (h : w.heap[n]? = some (.cells #[z0, z1, z2, z3, z4, z5, z6] T (0, 0))) (a0 a1 a2 a3 a4 a5 a6 : Value) :
    (((((((w.setCell ⟨n, 0, none⟩ a0).setCell ⟨n, 1, none⟩ a1).setCell ⟨n, 2, none⟩ a2).setCell ⟨n, 3, none⟩ a3).setCell ⟨n, 4, none⟩ a4).setCell ⟨n, 5, none⟩ a5).setCell ⟨n, 6, none⟩ a6).heap[n]? = some (.cells #[a0, a1, a2, a3, a4, a5, a6] T (0, 0)) := by
  have := blk_set (blk_set (blk_set (blk_set (blk_set (blk_set (blk_set h 0 a0) 1 a1) 2 a2) 3 a3) 4 a4) 5 a5) 6 a6
  simpa using this
/-- The types of what a script holds. -/
abbrev goodS : List TypeId := [54, 48, 3, 35, 38, 36, 40]
/-- A script in the reader's own rows. -/
structure ScrRows (w : World) (q : Scr) (pv dv sv av : Value) : Prop where
  plans : Rowed 48 1 ElR 0 w pv q.conf.plans
  doms : Rowed 54 10 ElD 0 w dv q.conf.doms
  streams : Rowed 35 1 ElS 0 w sv q.streams
  arrivals : Rowed 36 1 ElW 0 w av q.arrivals
theorem plans_kept {w w' : World} {v : Value} {l : List (List Int)} (h : Rowed 48 1 ElR 0 w v l) (k : Kept goodS w w') : Rowed 48 1 ElR 0 w' v l := h.kept k (by simp) (ElR.kept (k.sub (by simp)))
theorem doms_kept {w w' : World} {v : Value} {l : List Dom} (h : Rowed 54 10 ElD 0 w v l) (k : Kept goodS w w') : Rowed 54 10 ElD 0 w' v l := h.kept k (by simp) (ElD.kept (k.sub (by simp)))
theorem streams_kept {w w' : World} {v : Value} {l : List (List Axn)} (h : Rowed 35 1 ElS 0 w v l) (k : Kept goodS w w') : Rowed 35 1 ElS 0 w' v l := h.kept k (by simp) (ElS.kept (k.sub (by simp)))
theorem arrivals_kept {w w' : World} {v : Value} {l : List (List Arv)} (h : Rowed 36 1 ElW 0 w v l) (k : Kept goodS w w') : Rowed 36 1 ElW 0 w' v l := h.kept k (by simp) (ElW.kept (k.sub (by simp)))
theorem ScrRows.kept {w w' : World} {q : Scr} {pv dv sv av : Value} (h : ScrRows w q pv dv sv av) (k : Kept goodS w w') : ScrRows w' q pv dv sv av :=
  ⟨plans_kept h.plans k, doms_kept h.doms k, streams_kept h.streams k, arrivals_kept h.arrivals k⟩
def ReadsScr (b c : Nat) (q : Scr × Rb) (w : World) (e : Ending) (w' : World) : Prop := ∃ pp cp pd cd ps cs pa ca,
  e = .returned (.agg #[.int .i64 q.1.conf.frame, .int .i64 q.1.conf.epoch, .slice pp q.1.conf.plans.length cp, .slice pd q.1.conf.doms.length cd, .int .i64 q.1.horizon, .slice ps q.1.streams.length cs, .slice pa q.1.arrivals.length ca]) ∧
  ScrRows w' q.1 (.slice pp q.1.conf.plans.length cp) (.slice pd q.1.conf.doms.length cd) (.slice ps q.1.streams.length cs) (.slice pa q.1.arrivals.length ca) ∧ Sr b c q.2 w' ∧ Two b c w w'
theorem scrP_of {s s1 s2 s3 s4 : Rb} {x1 : Cnf} {x2 : Int} {x3 : List (List Axn)} {x4 : List (List Arv)} (e1 : confP s = (x1, s1)) (e2 : numP s1 = (x2, s2)) (e3 : manyP (rowP axnP) x1.doms.length s2 = (x3, s3)) (e4 : manyP (rowP arvP) x1.doms.length s3 = (x4, s4)) : scrP s = (⟨x1, x2, x3, x4⟩, s4) := by
  simp only [scrP, e1, e2, e3, e4]
theorem confP_doms (s : Rb) : (confP s).1.doms.length ≤ 40000 := by
  have h1 := manyP_len domP (cntP (cntP (numP (numP s).2).2).2).1.toNat (manyP (manyP numP (cntP (cntP (numP (numP s).2).2).2).1.toNat) (cntP (numP (numP s).2).2).1.toNat (cntP (cntP (numP (numP s).2).2).2).2).2
  have h2 := cntP_le (cntP (numP (numP s).2).2).2
  show (manyP domP _ _).1.length ≤ 40000
  omega

set_option maxRecDepth 100000 in
set_option maxHeartbeats 4000000 in
theorem script_any (b c : Nat) (s : Rb) (w : World) (h : Sr b c s w) : Calls Try.prog 25 #[.pointer (some ⟨b, 0, none⟩)] w (ReadsScr b c (scrP s) w) := by
  have H := hid h
  clear h
  obtain ⟨x1, s1, e1⟩ : ∃ x t, confP s = (x, t) := ⟨_, _, rfl⟩
  obtain ⟨x2, s2, e2⟩ : ∃ x t, numP s1 = (x, t) := ⟨_, _, rfl⟩
  obtain ⟨x3, s3, e3⟩ : ∃ x t, manyP (rowP axnP) x1.doms.length s2 = (x, t) := ⟨_, _, rfl⟩
  obtain ⟨x4, s4, e4⟩ : ∃ x t, manyP (rowP arvP) x1.doms.length s3 = (x, t) := ⟨_, _, rfl⟩
  have hd : x1.doms.length ≤ 40000 := by have := confP_doms s; rw [e1] at this; exact this
  have HDL := hid hd
  rw [scrP_of e1 e2 e3 e4]
  have E2 := hid e2
  have E3 := hid e3
  have E4 := hid e4
  have hcf := conf_any b c s
  rw [e1] at hcf
  have HCF := hid hcf
  clear e1 e2 e3 e4 hcf hd
  go_enter Try.func25, Try.ntmps25
  go_upto_region 2 with (go_at_call 40; refine (HCF.out _ (H.out.ext (Ext.alloc (Ext.refl w) _))).mono ?_; rintro e w1 ⟨pp, cp, pd, cd, rfl, hp, hd, hs, ht⟩; have HP := hid hp; have HD := hid hd; have HS := hid hs; have HT := hid ht; clear hp hd hs ht)
  have hlt := H.out.lt
  have hR1 := HT.out.blk (heap_alloc_new w (.cells #[.int .i64 0, .int .i64 0, .slice none 0 0, .slice none 0 0, .int .i64 0, .slice none 0 0, .slice none 0 0] 30 (0, 0))) (by omega) (by omega)
  have hz := HT.out.size
  rw [World.size_alloc] at hz
  refine wp_forget (fun v => Sr b c s1 v ∧ Two b c w v ∧ v.heap[w1.heap.size]? = some (confO (.int .i64 x1.frame) (.int .i64 x1.epoch) (.slice pp x1.plans.length cp) (.slice pd x1.doms.length cd)) ∧ v.heap[w.heap.size]? = some (.cells #[.int .i64 0, .int .i64 0, .slice none 0 0, .slice none 0 0, .int .i64 0, .slice none 0 0, .slice none 0 0] 30 (0, 0)) ∧ Rowed 48 1 ElR 0 v (.slice pp x1.plans.length cp) x1.plans ∧ Rowed 54 10 ElD 0 v (.slice pd x1.doms.length cd) x1.doms)
    ⟨HS.out.ext (by repeat (first | exact Ext.refl _ | assumption | refine Ext.more ?_ _ | refine Ext.drew ?_ | refine Ext.drewN ?_ _ | refine Ext.alloc ?_ _ | refine Ext.setCell ?_ (by simp; try omega) _ | refine Ext.trans ?_ (by assumption))), (Two.of_ext (Ext.alloc (Ext.refl w) (.cells #[.int .i64 0, .int .i64 0, .slice none 0 0, .slice none 0 0, .int .i64 0, .slice none 0 0, .slice none 0 0] 30 (0, 0)))).trans (HT.out.ext (by repeat (first | exact Ext.refl _ | assumption | refine Ext.more ?_ _ | refine Ext.drew ?_ | refine Ext.drewN ?_ _ | refine Ext.alloc ?_ _ | refine Ext.setCell ?_ (by simp; try omega) _ | refine Ext.trans ?_ (by assumption)))), heap_alloc_new w1 _, block_ext (by repeat (first | exact Ext.refl _ | assumption | refine Ext.more ?_ _ | refine Ext.drew ?_ | refine Ext.drewN ?_ _ | refine Ext.alloc ?_ _ | refine Ext.setCell ?_ (by simp; try omega) _ | refine Ext.trans ?_ (by assumption))) hR1, plans_kept HP.out (Kept.of_ext (by repeat (first | exact Ext.refl _ | assumption | refine Ext.more ?_ _ | refine Ext.drew ?_ | refine Ext.drewN ?_ _ | refine Ext.alloc ?_ _ | refine Ext.setCell ?_ (by simp; try omega) _ | refine Ext.trans ?_ (by assumption)))), doms_kept HD.out (Kept.of_ext (by repeat (first | exact Ext.refl _ | assumption | refine Ext.more ?_ _ | refine Ext.drew ?_ | refine Ext.drewN ?_ _ | refine Ext.alloc ?_ _ | refine Ext.setCell ?_ (by simp; try omega) _ | refine Ext.trans ?_ (by assumption))))⟩ ?_
  have HLT : Hid (b < w.heap.size ∧ c < w.heap.size ∧ w.heap.size < w1.heap.size) := ⟨hlt.1, hlt.2, by omega⟩
  clear HS HT HP HD hlt hR1 hz
  obtain ⟨C, hC⟩ : ∃ C, C = w1.heap.size := ⟨_, rfl⟩
  rw [← hC] at HLT ⊢
  clear hC
  clear w1
  rintro v ⟨hs0, ht0, hC, hR, hp, hd⟩
  have HS0 := hid (hs0.ext (Ext.drew (Ext.refl v)))
  have HT0 := hid (ht0.ext (Ext.drew (Ext.refl v)))
  have HC0 : Hid (v.drew.heap[C]? = some (confO (.int .i64 x1.frame) (.int .i64 x1.epoch) (.slice pp x1.plans.length cp) (.slice pd x1.doms.length cd))) := hC
  have HR0 : Hid (v.drew.heap[w.heap.size]? = some (.cells #[.int .i64 0, .int .i64 0, .slice none 0 0, .slice none 0 0, .int .i64 0, .slice none 0 0, .slice none 0 0] 30 (0, 0))) := hR
  have HP0 := hid (plans_kept hp (Kept.of_ext (Ext.drew (Ext.refl v))))
  have HD0 := hid (doms_kept hd (Kept.of_ext (Ext.drew (Ext.refl v))))
  clear hs0 ht0 hC hR hp hd
  refine wp_region_T 18 1 (fun u => u.cell? ⟨C, 0, none⟩ = some (.int .i64 x1.frame) ∧ u.cell? ⟨C, 1, none⟩ = some (.int .i64 x1.epoch) ∧ u.cell? ⟨C, 2, none⟩ = some (.slice pp x1.plans.length cp) ∧ u.cell? ⟨C, 3, none⟩ = some (.slice pd x1.doms.length cd)) (by kernel_rfl) (by kernel_rfl) ?_
  generalize v.drew = v0 at *
  have HSS : v0.cell? ⟨C, 0, none⟩ = some (.int .i64 x1.frame) ∧ v0.cell? ⟨C, 1, none⟩ = some (.int .i64 x1.epoch) ∧ v0.cell? ⟨C, 2, none⟩ = some (.slice pp x1.plans.length cp) ∧ v0.cell? ⟨C, 3, none⟩ = some (.slice pd x1.doms.length cd) := ⟨blk_cell HC0.out 0, blk_cell HC0.out 1, blk_cell HC0.out 2, blk_cell HC0.out 3⟩
  have HV0 := hid (Two.refl b c v0)
  refine wpT_take 0 (v := ?v39) rfl (by kernel_rfl) (by kernel_rfl) (by kernel_rfl) (by kernel_rfl) (by intro _ _ _ h; first | exact h | (obtain ⟨h, _⟩ := h; cases h)) (by rfl) HSS ?hy39 ?_
  case hy39 => (intro u hu; obtain ⟨hu0, hu1, hu2, hu3⟩ := hu; go_simp; first | done | (with_reducible rfl))
  (try simp only [Act.put, List.setIfInBounds_toArray, List.set_cons_zero, List.set_cons_succ])
  refine wpT_take 1 (v := ?v40) rfl (by kernel_rfl) (by kernel_rfl) (by kernel_rfl) (by kernel_rfl) (by intro _ _ _ h; first | exact h | (obtain ⟨h, _⟩ := h; cases h)) (by rfl) HSS ?hy40 ?_
  case hy40 => (intro u hu; obtain ⟨hu0, hu1, hu2, hu3⟩ := hu; go_simp; first | done | (with_reducible rfl))
  (try simp only [Act.put, List.setIfInBounds_toArray, List.set_cons_zero, List.set_cons_succ])
  refine wpT_take 3 (v := ?v41) rfl (by kernel_rfl) (by kernel_rfl) (by kernel_rfl) (by kernel_rfl) (by intro _ _ _ h; first | exact h | (obtain ⟨h, _⟩ := h; cases h)) (by rfl) HSS ?hy41 ?_
  case hy41 => (intro u hu; obtain ⟨hu0, hu1, hu2, hu3⟩ := hu; go_simp; first | done | (with_reducible rfl))
  (try simp only [Act.put, List.setIfInBounds_toArray, List.set_cons_zero, List.set_cons_succ])
  refine wpT_take 4 (v := ?v42) rfl (by kernel_rfl) (by kernel_rfl) (by kernel_rfl) (by kernel_rfl) (by intro _ _ _ h; first | exact h | (obtain ⟨h, _⟩ := h; cases h)) (by rfl) HSS ?hy42 ?_
  case hy42 => (intro u hu; obtain ⟨hu0, hu1, hu2, hu3⟩ := hu; go_simp; first | done | (with_reducible rfl))
  (try simp only [Act.put, List.setIfInBounds_toArray, List.set_cons_zero, List.set_cons_succ])
  refine wpT_take 5 (v := ?v43) rfl (by kernel_rfl) (by kernel_rfl) (by kernel_rfl) (by kernel_rfl) (by intro _ _ _ h; first | exact h | (obtain ⟨h, _⟩ := h; cases h)) (by rfl) HSS ?hy43 ?_
  case hy43 => (intro u hu; obtain ⟨hu0, hu1, hu2, hu3⟩ := hu; go_simp; first | done | (with_reducible rfl))
  (try simp only [Act.put, List.setIfInBounds_toArray, List.set_cons_zero, List.set_cons_succ])
  refine wpT_take 6 (v := ?v44) rfl (by kernel_rfl) (by kernel_rfl) (by kernel_rfl) (by kernel_rfl) (by intro _ _ _ h; first | exact h | (obtain ⟨h, _⟩ := h; cases h)) (by rfl) HSS ?hy44 ?_
  case hy44 => (intro u hu; obtain ⟨hu0, hu1, hu2, hu3⟩ := hu; go_simp; first | done | (with_reducible rfl))
  (try simp only [Act.put, List.setIfInBounds_toArray, List.set_cons_zero, List.set_cons_succ])
  refine wpT_take 7 (v := ?v45) rfl (by kernel_rfl) (by kernel_rfl) (by kernel_rfl) (by kernel_rfl) (by intro _ _ _ h; first | exact h | (obtain ⟨h, _⟩ := h; cases h)) (by rfl) HSS ?hy45 ?_
  case hy45 => (intro u hu; obtain ⟨hu0, hu1, hu2, hu3⟩ := hu; go_simp; first | done | (with_reducible rfl))
  (try simp only [Act.put, List.setIfInBounds_toArray, List.set_cons_zero, List.set_cons_succ])
  refine wpT_take 8 (v := ?v46) rfl (by kernel_rfl) (by kernel_rfl) (by kernel_rfl) (by kernel_rfl) (by intro _ _ _ h; first | exact h | (obtain ⟨h, _⟩ := h; cases h)) (by rfl) HSS ?hy46 ?_
  case hy46 => (intro u hu; obtain ⟨hu0, hu1, hu2, hu3⟩ := hu; go_simp; first | done | (with_reducible rfl))
  (try simp only [Act.put, List.setIfInBounds_toArray, List.set_cons_zero, List.set_cons_succ])
  refine wpT_take 10 (v := ?v47) rfl (by kernel_rfl) (by kernel_rfl) (by kernel_rfl) (by kernel_rfl) (by intro _ _ _ h; first | exact h | (obtain ⟨h, _⟩ := h; cases h)) (by rfl) HSS ?hy47 ?_
  case hy47 => (intro u hu; obtain ⟨hu0, hu1, hu2, hu3⟩ := hu; go_simp; first | done | (with_reducible rfl))
  (try simp only [Act.put, List.setIfInBounds_toArray, List.set_cons_zero, List.set_cons_succ])
  refine wpT_take 11 (v := ?v48) rfl (by kernel_rfl) (by kernel_rfl) (by kernel_rfl) (by kernel_rfl) (by intro _ _ _ h; first | exact h | (obtain ⟨h, _⟩ := h; cases h)) (by rfl) HSS ?hy48 ?_
  case hy48 => (intro u hu; obtain ⟨hu0, hu1, hu2, hu3⟩ := hu; go_simp; first | done | (with_reducible rfl))
  (try simp only [Act.put, List.setIfInBounds_toArray, List.set_cons_zero, List.set_cons_succ])
  refine wpT_take 12 (v := ?v49) rfl (by kernel_rfl) (by kernel_rfl) (by kernel_rfl) (by kernel_rfl) (by intro _ _ _ h; first | exact h | (obtain ⟨h, _⟩ := h; cases h)) (by rfl) HSS ?hy49 ?_
  case hy49 => (intro u hu; obtain ⟨hu0, hu1, hu2, hu3⟩ := hu; go_simp; first | done | (with_reducible rfl))
  (try simp only [Act.put, List.setIfInBounds_toArray, List.set_cons_zero, List.set_cons_succ])
  refine wpT_take 13 (v := ?v50) rfl (by kernel_rfl) (by kernel_rfl) (by kernel_rfl) (by kernel_rfl) (by intro _ _ _ h; first | exact h | (obtain ⟨h, _⟩ := h; cases h)) (by rfl) HSS ?hy50 ?_
  case hy50 => (intro u hu; obtain ⟨hu0, hu1, hu2, hu3⟩ := hu; go_simp; first | done | (with_reducible rfl))
  (try simp only [Act.put, List.setIfInBounds_toArray, List.set_cons_zero, List.set_cons_succ])
  refine wpT_take 14 (v := ?v51) rfl (by kernel_rfl) (by kernel_rfl) (by kernel_rfl) (by kernel_rfl) (by intro _ _ _ h; first | exact h | (obtain ⟨h, _⟩ := h; cases h)) (by rfl) HSS ?hy51 ?_
  case hy51 => (intro u hu; obtain ⟨hu0, hu1, hu2, hu3⟩ := hu; go_simp; first | done | (with_reducible rfl))
  (try simp only [Act.put, List.setIfInBounds_toArray, List.set_cons_zero, List.set_cons_succ])
  refine wpT_take 15 (v := ?v52) rfl (by kernel_rfl) (by kernel_rfl) (by kernel_rfl) (by kernel_rfl) (by intro _ _ _ h; first | exact h | (obtain ⟨h, _⟩ := h; cases h)) (by rfl) HSS ?hy52 ?_
  case hy52 => (intro u hu; obtain ⟨hu0, hu1, hu2, hu3⟩ := hu; go_simp; first | done | (with_reducible rfl))
  (try simp only [Act.put, List.setIfInBounds_toArray, List.set_cons_zero, List.set_cons_succ])
  refine wpT_one 2 rfl (by kernel_rfl) (by rfl) (fun K' hK => ?_)
  go_simp
  refine (srNum_to E2.out HS0.out).mono ?_
  rintro e v1 ⟨rfl, hs, ht⟩
  have HS1 := hid hs
  have HV1 := hid (HV0.out.trans ht)
  have HKK := hid (HS0.out.kept (good := goodS) ht (by decide))
  have HP1 := hid (plans_kept HP0.out HKK.out)
  have HD1 := hid (doms_kept HD0.out HKK.out)
  have HX : Hid (v1.cell? ⟨C, 0, none⟩ = some (.int .i64 x1.frame) ∧ v1.cell? ⟨C, 1, none⟩ = some (.int .i64 x1.epoch) ∧ v1.cell? ⟨C, 2, none⟩ = some (.slice pp x1.plans.length cp) ∧ v1.cell? ⟨C, 3, none⟩ = some (.slice pd x1.doms.length cd)) := by
    have hl := HLT.out
    exact ⟨ht.cell HSS.1 (by simp; omega) (by simp; omega), ht.cell HSS.2.1 (by simp; omega) (by simp; omega), ht.cell HSS.2.2.1 (by simp; omega) (by simp; omega), ht.cell HSS.2.2.2 (by simp; omega) (by simp; omega)⟩
  clear hs ht HKK HP0 HD0
  refine hK.out _ _ HX.out ?_
  clear HSS hK K' HV0
  have HSS := HX.out
  clear HX
  (try simp only [Act.put, List.setIfInBounds_toArray, List.set_cons_zero, List.set_cons_succ])
  have hmS := manyS_any b c s2 (x1.doms.length : Int) v1 HS1.out (fun _ => by omega) (by have := HDL.out; omega)
  rw [Int.toNat_natCast, E3.out] at hmS
  have HMS := hid hmS
  clear hmS
  refine wpT_one 9 rfl (by kernel_rfl) (by rfl) (fun K' hK => ?_)
  go_simp
  refine (HMS.out).mono ?_
  rintro e v2 ⟨vs, rfl, hr, hs, ht⟩
  obtain ⟨ps, cs, rfl, -, -⟩ := hr.shape
  have HS2 := hid hs
  have HV2 := hid (HV1.out.trans ht)
  have HKK := hid (HS1.out.kept (good := goodS) ht (by decide))
  have HP2 := hid (plans_kept HP1.out HKK.out)
  have HD2 := hid (doms_kept HD1.out HKK.out)
  have HX : Hid (v2.cell? ⟨C, 0, none⟩ = some (.int .i64 x1.frame) ∧ v2.cell? ⟨C, 1, none⟩ = some (.int .i64 x1.epoch) ∧ v2.cell? ⟨C, 2, none⟩ = some (.slice pp x1.plans.length cp) ∧ v2.cell? ⟨C, 3, none⟩ = some (.slice pd x1.doms.length cd)) := by
    have hl := HLT.out
    exact ⟨ht.cell HSS.1 (by simp; omega) (by simp; omega), ht.cell HSS.2.1 (by simp; omega) (by simp; omega), ht.cell HSS.2.2.1 (by simp; omega) (by simp; omega), ht.cell HSS.2.2.2 (by simp; omega) (by simp; omega)⟩
  have HQ2 := hid (hr.weak (base' := 0) (Nat.zero_le _))
  clear hr
  clear hs ht HKK HP1 HD1
  refine hK.out _ _ HX.out ?_
  clear HSS hK K' HV1
  have HSS := HX.out
  clear HX
  (try simp only [Act.put, List.setIfInBounds_toArray, List.set_cons_zero, List.set_cons_succ])
  have hmW := manyW_any b c s3 (x1.doms.length : Int) v2 HS2.out (fun _ => by omega) (by have := HDL.out; omega)
  rw [Int.toNat_natCast, E4.out] at hmW
  have HMW := hid hmW
  clear hmW
  refine wpT_one 16 rfl (by kernel_rfl) (by rfl) (fun K' hK => ?_)
  go_simp
  refine (HMW.out).mono ?_
  rintro e v3 ⟨va, rfl, hr, hs, ht⟩
  obtain ⟨pa, ca, rfl, -, -⟩ := hr.shape
  have HS3 := hid hs
  have HV3 := hid (HV2.out.trans ht)
  have HKK := hid (HS2.out.kept (good := goodS) ht (by decide))
  have HP3 := hid (plans_kept HP2.out HKK.out)
  have HD3 := hid (doms_kept HD2.out HKK.out)
  have HX : Hid (v3.cell? ⟨C, 0, none⟩ = some (.int .i64 x1.frame) ∧ v3.cell? ⟨C, 1, none⟩ = some (.int .i64 x1.epoch) ∧ v3.cell? ⟨C, 2, none⟩ = some (.slice pp x1.plans.length cp) ∧ v3.cell? ⟨C, 3, none⟩ = some (.slice pd x1.doms.length cd)) := by
    have hl := HLT.out
    exact ⟨ht.cell HSS.1 (by simp; omega) (by simp; omega), ht.cell HSS.2.1 (by simp; omega) (by simp; omega), ht.cell HSS.2.2.1 (by simp; omega) (by simp; omega), ht.cell HSS.2.2.2 (by simp; omega) (by simp; omega)⟩
  have HW3 := hid (hr.weak (base' := 0) (Nat.zero_le _))
  have HQ3 := hid (streams_kept HQ2.out HKK.out)
  clear hr HQ2
  clear hs ht HKK HP2 HD2
  refine hK.out _ _ HX.out ?_
  clear HSS hK K' HV2
  have HSS := HX.out
  clear HX
  (try simp only [Act.put, List.setIfInBounds_toArray, List.set_cons_zero, List.set_cons_succ])
  refine wpT_take 17 (v := ?v53) rfl (by kernel_rfl) (by kernel_rfl) (by kernel_rfl) (by kernel_rfl) (by intro _ _ _ h; first | exact h | (obtain ⟨h, _⟩ := h; cases h)) (by rfl) HSS ?hy53 ?_
  case hy53 => (intro u hu; obtain ⟨hu0, hu1, hu2, hu3⟩ := hu; go_simp; first | done | (with_reducible rfl))
  (try simp only [Act.put, List.setIfInBounds_toArray, List.set_cons_zero, List.set_cons_succ])
  refine wpT_done (by kernel_rfl) ?_
  refine wpAny_one 18 rfl (by kernel_rfl) (by rfl) (fun K' hK => ?_)
  have hl := HLT.out
  have hn := HV3.out.blk HR0.out (by omega) (by omega)
  have k0 := blk_cell hn 0
  have k1 := blk_cell hn 1
  have k2 := blk_cell hn 2
  have k3 := blk_cell hn 3
  have k4 := blk_cell hn 4
  have k5 := blk_cell hn 5
  have k6 := blk_cell hn 6
  have f0 := blk_free hn 0
  have f1 := blk_free hn 1
  have f2 := blk_free hn 2
  have f3 := blk_free hn 3
  have f4 := blk_free hn 4
  have f5 := blk_free hn 5
  have f6 := blk_free hn 6
  clear HSS
  go_simp
  refine hK.out _ _ ?_
  (try simp only [Act.put, List.setIfInBounds_toArray, List.set_cons_zero, List.set_cons_succ])
  refine wpAny_done (by kernel_rfl) ?_ _
  refine ‹∀ (a : Act) (w : World), Code.wp _ _ _ a w → _› _ _ ?_
  refine wp_forget (fun y => y.heap[w.heap.size]? = some (.cells #[.int .i64 x1.frame, .int .i64 x1.epoch, .slice pp x1.plans.length cp, .slice pd x1.doms.length cd, .int .i64 x2, .slice ps x3.length cs, .slice pa x4.length ca] 30 (0, 0)) ∧ Only w.heap.size v3 y)
    ⟨sets7 hn _ _ _ _ _ _ _, (((((((Only.refl _ _).setCell _).setCell _).setCell _).setCell _).setCell _).setCell _).setCell _⟩ ?_
  rintro y ⟨hy, hO⟩
  have hk := hO.kept hn (good := goodS) (by decide)
  have HF : Hid (ScrRows y ⟨x1, x2, x3, x4⟩ (.slice pp x1.plans.length cp) (.slice pd x1.doms.length cd) (.slice ps x3.length cs) (.slice pa x4.length ca) ∧ Sr b c s4 y ∧ Two b c w y) :=
    ⟨⟨plans_kept HP3.out hk, doms_kept HD3.out hk, streams_kept HQ3.out hk, arrivals_kept HW3.out hk⟩, HS3.out.only hO (by omega) (by omega), (HT0.out.trans HV3.out).only hO (Nat.le_refl _)⟩
  clear k0 k1 k2 k3 k4 k5 k6 f0 f1 f2 f3 f4 f5 f6 hO hn hk hl
  have k0 := blk_cell hy 0
  have k1 := blk_cell hy 1
  have k2 := blk_cell hy 2
  have k3 := blk_cell hy 3
  have k4 := blk_cell hy 4
  have k5 := blk_cell hy 5
  have k6 := blk_cell hy 6
  simp only [List.getElem?_toArray, List.getElem?_cons_zero, List.getElem?_cons_succ] at k0 k1 k2 k3 k4 k5 k6
  go_wp2
  exact bodyPost_ret (v := .agg #[.int .i64 x1.frame, .int .i64 x1.epoch, .slice pp x1.plans.length cp, .slice pd x1.doms.length cd, .int .i64 x2, .slice ps x3.length cs, .slice pa x4.length ca]) (by simp [results, Try.results25, go_sem, k0, k1, k2, k3, k4, k5, k6]) rfl ⟨pp, cp, pd, cd, ps, cs, pa, ca, rfl, HF.out⟩
  end Go.Proofs.Ytbllibgddiiboaa
