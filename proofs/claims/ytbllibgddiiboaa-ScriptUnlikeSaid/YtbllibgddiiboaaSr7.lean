/- The script's reader: actions and arrivals, rows of these. -/
import Derived.Test.YtbllibgddiiboaaSr6
namespace Go.Proofs.Ytbllibgddiiboaa
open Go.RowKit
set_option linter.unusedSimpArgs false

def ElA (_ : World) (cs : List Value) (x : Axn) : Prop := cs = [.int .i64 x.op, .int .i64 x.a, .int .i64 x.b]
def ElV (_ : World) (cs : List Value) (x : Arv) : Prop := cs = [.int .i64 x.tick, .int .i64 x.obj]
theorem ElA.kept {w w' : World} (_ : Kept [] w w') (cs : List Value) (x : Axn) (h : ElA w cs x) : ElA w' cs x := h
theorem ElV.kept {w w' : World} (_ : Kept [] w w') (cs : List Value) (x : Arv) (h : ElV w cs x) : ElV w' cs x := h
/-- An element that is a row of actions; of arrivals. -/
def ElS (w : World) (cs : List Value) (l : List Axn) : Prop := ∃ v, cs = [v] ∧ Rowed 38 3 ElA 0 w v l
def ElW (w : World) (cs : List Value) (l : List Arv) : Prop := ∃ v, cs = [v] ∧ Rowed 40 2 ElV 0 w v l
theorem ElS.kept {w w' : World} (k : Kept [38] w w') (cs : List Value) (l : List Axn) (h : ElS w cs l) : ElS w' cs l := by
  obtain ⟨v, e, hr⟩ := h
  exact ⟨v, e, hr.kept k (by simp) fun _ _ h => h⟩
theorem ElW.kept {w w' : World} (k : Kept [40] w w') (cs : List Value) (l : List Arv) (h : ElW w cs l) : ElW w' cs l := by
  obtain ⟨v, e, hr⟩ := h
  exact ⟨v, e, hr.kept k (by simp) fun _ _ h => h⟩
theorem infoA : (Try.prog.info? 38).map (fun i => (i.zero, i.size, i.bytes)) = some (some (.agg #[.int .i64 0, .int .i64 0, .int .i64 0]), 3, 24) := by kernel_rfl
theorem infoV : (Try.prog.info? 40).map (fun i => (i.zero, i.size, i.bytes)) = some (some (.agg #[.int .i64 0, .int .i64 0]), 2, 16) := by kernel_rfl
theorem infoAs : (Try.prog.info? 35).map (fun i => (i.zero, i.size, i.bytes)) = some (some (.slice none 0 0), 1, 24) := by kernel_rfl
theorem infoVs : (Try.prog.info? 36).map (fun i => (i.zero, i.size, i.bytes)) = some (some (.slice none 0 0), 1, 24) := by kernel_rfl
theorem sets3 {w : World} {n : Nat} {T : TypeId} {z0 z1 z2 : Value} (h : w.heap[n]? = some (.cells #[z0, z1, z2] T (0, 0))) (a0 a1 a2 : Value) :
    (((w.setCell ⟨n, 0, none⟩ a0).setCell ⟨n, 1, none⟩ a1).setCell ⟨n, 2, none⟩ a2).heap[n]? = some (.cells #[a0, a1, a2] T (0, 0)) := by
  have := blk_set (blk_set (blk_set h 0 a0) 1 a1) 2 a2
  simpa using this
theorem sets2 {w : World} {n : Nat} {T : TypeId} {z0 z1 : Value} (h : w.heap[n]? = some (.cells #[z0, z1] T (0, 0))) (a0 a1 : Value) :
    ((w.setCell ⟨n, 0, none⟩ a0).setCell ⟨n, 1, none⟩ a1).heap[n]? = some (.cells #[a0, a1] T (0, 0)) := by
  have := blk_set (blk_set h 0 a0) 1 a1
  simpa using this
theorem axnP_of {s s1 s2 s3 : Rb} {x1 x2 x3 : Int} (e1 : numP s = (x1, s1)) (e2 : numP s1 = (x2, s2)) (e3 : numP s2 = (x3, s3)) : axnP s = (⟨x1, x2, x3⟩, s3) := by simp only [axnP, e1, e2, e3]
theorem arvP_of {s s1 s2 : Rb} {x1 x2 : Int} (e1 : numP s = (x1, s1)) (e2 : numP s1 = (x2, s2)) : arvP s = (⟨x1, x2⟩, s2) := by simp only [arvP, e1, e2]

set_option maxRecDepth 100000 in
set_option maxHeartbeats 4000000 in
theorem axn_any (b c A : Nat) (s : Rb) (w : World) (h : Sr b c s w) (hA : w.cell? ⟨A, 0, none⟩ = some (.pointer (some ⟨b, 0, none⟩))) (hne : A ≠ b ∧ A ≠ c) : Calls Try.prog 69 #[.pointer (some ⟨A, 0, none⟩)] w
    (Reads b c (.agg #[.int .i64 (axnP s).1.op, .int .i64 (axnP s).1.a, .int .i64 (axnP s).1.b]) (axnP s).2 w) := by
  have H := hid h
  have HA := hid hA
  have HNE := hid hne
  have HLA := hid (World.block_lt_of_cell? _ _ hA)
  clear h hA hne
  obtain ⟨x1, s1, e1⟩ : ∃ x t, numP s = (x, t) := ⟨_, _, rfl⟩
  obtain ⟨x2, s2, e2⟩ : ∃ x t, numP s1 = (x, t) := ⟨_, _, rfl⟩
  obtain ⟨x3, s3, e3⟩ : ∃ x t, numP s2 = (x, t) := ⟨_, _, rfl⟩
  rw [axnP_of e1 e2 e3]
  have E1 := hid e1
  have E2 := hid e2
  have E3 := hid e3
  clear e1 e2 e3
  go_enter Try.func69, Try.ntmps69
  go_upto_region 1 with (fail)
  refine wp_forget (fun v => Sr b c s v ∧ Two b c w v ∧ v.heap[w.heap.size]? = some (.cells #[.int .i64 0, .int .i64 0, .int .i64 0] 38 (0, 0)) ∧ v.cell? ⟨A, 0, none⟩ = some (.pointer (some ⟨b, 0, none⟩))) ⟨H.out.ext (by repeat (first | exact Ext.refl _ | assumption | refine Ext.more ?_ _ | refine Ext.drew ?_ | refine Ext.drewN ?_ _ | refine Ext.alloc ?_ _ | refine Ext.setCell ?_ (by simp; try omega) _ | refine Ext.trans ?_ (by assumption))), Two.of_ext (by repeat (first | exact Ext.refl _ | assumption | refine Ext.more ?_ _ | refine Ext.drew ?_ | refine Ext.drewN ?_ _ | refine Ext.alloc ?_ _ | refine Ext.setCell ?_ (by simp; try omega) _ | refine Ext.trans ?_ (by assumption))), heap_alloc_new w _, cell_alloc _ HA.out⟩ ?_
  rintro v ⟨hs0, ht0, hn0, hc0⟩
  have HS0 := hid (hs0.ext (Ext.drew (Ext.refl v)))
  have HT0 := hid (ht0.ext (Ext.drew (Ext.refl v)))
  have HN0 : Hid (v.drew.heap[w.heap.size]? = some (.cells #[.int .i64 0, .int .i64 0, .int .i64 0] 38 (0, 0))) := hn0
  have HSS : v.drew.cell? ⟨A, 0, none⟩ = some (.pointer (some ⟨b, 0, none⟩)) := cell_drew hc0
  clear hs0 ht0 hn0 hc0
  refine wp_region_T 7 1 (fun u => u.cell? ⟨A, 0, none⟩ = some (.pointer (some ⟨b, 0, none⟩))) (by kernel_rfl) (by kernel_rfl) ?_
  generalize v.drew = v0 at *
  have HV0 := hid (Two.refl b c v0)
  refine wpT_take 0 (v := ?v26) rfl (by kernel_rfl) (by kernel_rfl) (by kernel_rfl) (by kernel_rfl) (by intro _ _ _ h; first | exact h | (obtain ⟨h, _⟩ := h; cases h)) (by rfl) HSS ?hy26 ?_
  case hy26 => (intro u hu; go_simp; first | done | (with_reducible rfl))
  (try simp only [Act.put, List.setIfInBounds_toArray, List.set_cons_zero, List.set_cons_succ])
  refine wpT_take 2 (v := ?v27) rfl (by kernel_rfl) (by kernel_rfl) (by kernel_rfl) (by kernel_rfl) (by intro _ _ _ h; first | exact h | (obtain ⟨h, _⟩ := h; cases h)) (by rfl) HSS ?hy27 ?_
  case hy27 => (intro u hu; go_simp; first | done | (with_reducible rfl))
  (try simp only [Act.put, List.setIfInBounds_toArray, List.set_cons_zero, List.set_cons_succ])
  refine wpT_take 4 (v := ?v28) rfl (by kernel_rfl) (by kernel_rfl) (by kernel_rfl) (by kernel_rfl) (by intro _ _ _ h; first | exact h | (obtain ⟨h, _⟩ := h; cases h)) (by rfl) HSS ?hy28 ?_
  case hy28 => (intro u hu; go_simp; first | done | (with_reducible rfl))
  (try simp only [Act.put, List.setIfInBounds_toArray, List.set_cons_zero, List.set_cons_succ])
  refine wpT_one 1 rfl (by kernel_rfl) (by rfl) (fun K' hK => ?_)
  go_simp
  refine (srNum_to E1.out HS0.out).mono ?_
  rintro e v1 ⟨rfl, hs, ht⟩
  have HS1 := hid hs
  have HV1 := hid (HV0.out.trans ht)
  have HX := hid (ht.cell HSS HNE.out.1 HNE.out.2)
  clear hs ht
  refine hK.out _ _ HX.out ?_
  clear HSS hK K' HV0
  have HSS := HX.out
  clear HX
  (try simp only [Act.put, List.setIfInBounds_toArray, List.set_cons_zero, List.set_cons_succ])
  refine wpT_one 3 rfl (by kernel_rfl) (by rfl) (fun K' hK => ?_)
  go_simp
  refine (srNum_to E2.out HS1.out).mono ?_
  rintro e v2 ⟨rfl, hs, ht⟩
  have HS2 := hid hs
  have HV2 := hid (HV1.out.trans ht)
  have HX := hid (ht.cell HSS HNE.out.1 HNE.out.2)
  clear hs ht
  refine hK.out _ _ HX.out ?_
  clear HSS hK K' HV1
  have HSS := HX.out
  clear HX
  (try simp only [Act.put, List.setIfInBounds_toArray, List.set_cons_zero, List.set_cons_succ])
  refine wpT_one 5 rfl (by kernel_rfl) (by rfl) (fun K' hK => ?_)
  go_simp
  refine (srNum_to E3.out HS2.out).mono ?_
  rintro e v3 ⟨rfl, hs, ht⟩
  have HS3 := hid hs
  have HV3 := hid (HV2.out.trans ht)
  have HX := hid (ht.cell HSS HNE.out.1 HNE.out.2)
  clear hs ht
  refine hK.out _ _ HX.out ?_
  clear HSS hK K' HV2
  have HSS := HX.out
  clear HX
  (try simp only [Act.put, List.setIfInBounds_toArray, List.set_cons_zero, List.set_cons_succ])
  refine wpT_take 6 (v := ?v29) rfl (by kernel_rfl) (by kernel_rfl) (by kernel_rfl) (by kernel_rfl) (by intro _ _ _ h; first | exact h | (obtain ⟨h, _⟩ := h; cases h)) (by rfl) HSS ?hy29 ?_
  case hy29 => (intro u hu; go_simp; first | done | (with_reducible rfl))
  (try simp only [Act.put, List.setIfInBounds_toArray, List.set_cons_zero, List.set_cons_succ])
  refine wpT_done (by kernel_rfl) ?_
  refine wpAny_one 7 rfl (by kernel_rfl) (by rfl) (fun K' hK => ?_)
  have hlt := H.out.lt
  have hn := HV3.out.blk HN0.out (by omega) (by omega)
  have k0 := blk_cell hn 0
  have k1 := blk_cell hn 1
  have k2 := blk_cell hn 2
  have f0 := blk_free hn 0
  have f1 := blk_free hn 1
  have f2 := blk_free hn 2
  go_simp
  refine hK.out _ _ ?_
  (try simp only [Act.put, List.setIfInBounds_toArray, List.set_cons_zero, List.set_cons_succ])
  refine wpAny_done (by kernel_rfl) ?_ _
  refine ‹∀ (a : Act) (w : World), Code.wp _ _ _ a w → _› _ _ ?_
  refine wp_forget (fun y => y.heap[w.heap.size]? = some (.cells #[.int .i64 x1, .int .i64 x2, .int .i64 x3] 38 (0, 0)) ∧ Only w.heap.size v3 y)
    ⟨sets3 hn _ _ _, (((Only.refl _ _).setCell _).setCell _).setCell _⟩ ?_
  rintro y ⟨hy, hO⟩
  have HF : Hid (Sr b c s3 y ∧ Two b c w y) := ⟨HS3.out.only hO (by omega) (by omega), (HT0.out.trans HV3.out).only hO (Nat.le_refl _)⟩
  clear k0 k1 k2 f0 f1 f2 hO hn
  have k0 := blk_cell hy 0
  have k1 := blk_cell hy 1
  have k2 := blk_cell hy 2
  simp only [List.getElem?_toArray, List.getElem?_cons_zero, List.getElem?_cons_succ] at k0 k1 k2
  go_wp2
  exact bodyPost_ret (v := .agg #[.int .i64 x1, .int .i64 x2, .int .i64 x3]) (by simp [results, Try.results69, go_sem, k0, k1, k2]) rfl ⟨rfl, HF.out⟩
set_option maxRecDepth 100000 in
set_option maxHeartbeats 4000000 in
theorem arv_any (b c A : Nat) (s : Rb) (w : World) (h : Sr b c s w) (hA : w.cell? ⟨A, 0, none⟩ = some (.pointer (some ⟨b, 0, none⟩))) (hne : A ≠ b ∧ A ≠ c) : Calls Try.prog 71 #[.pointer (some ⟨A, 0, none⟩)] w
    (Reads b c (.agg #[.int .i64 (arvP s).1.tick, .int .i64 (arvP s).1.obj]) (arvP s).2 w) := by
  have H := hid h
  have HA := hid hA
  have HNE := hid hne
  have HLA := hid (World.block_lt_of_cell? _ _ hA)
  clear h hA hne
  obtain ⟨x1, s1, e1⟩ : ∃ x t, numP s = (x, t) := ⟨_, _, rfl⟩
  obtain ⟨x2, s2, e2⟩ : ∃ x t, numP s1 = (x, t) := ⟨_, _, rfl⟩
  rw [arvP_of e1 e2]
  have E1 := hid e1
  have E2 := hid e2
  clear e1 e2
  go_enter Try.func71, Try.ntmps71
  go_upto_region 1 with (fail)
  refine wp_forget (fun v => Sr b c s v ∧ Two b c w v ∧ v.heap[w.heap.size]? = some (.cells #[.int .i64 0, .int .i64 0] 40 (0, 0)) ∧ v.cell? ⟨A, 0, none⟩ = some (.pointer (some ⟨b, 0, none⟩))) ⟨H.out.ext (by repeat (first | exact Ext.refl _ | assumption | refine Ext.more ?_ _ | refine Ext.drew ?_ | refine Ext.drewN ?_ _ | refine Ext.alloc ?_ _ | refine Ext.setCell ?_ (by simp; try omega) _ | refine Ext.trans ?_ (by assumption))), Two.of_ext (by repeat (first | exact Ext.refl _ | assumption | refine Ext.more ?_ _ | refine Ext.drew ?_ | refine Ext.drewN ?_ _ | refine Ext.alloc ?_ _ | refine Ext.setCell ?_ (by simp; try omega) _ | refine Ext.trans ?_ (by assumption))), heap_alloc_new w _, cell_alloc _ HA.out⟩ ?_
  rintro v ⟨hs0, ht0, hn0, hc0⟩
  have HS0 := hid (hs0.ext (Ext.drew (Ext.refl v)))
  have HT0 := hid (ht0.ext (Ext.drew (Ext.refl v)))
  have HN0 : Hid (v.drew.heap[w.heap.size]? = some (.cells #[.int .i64 0, .int .i64 0] 40 (0, 0))) := hn0
  have HSS : v.drew.cell? ⟨A, 0, none⟩ = some (.pointer (some ⟨b, 0, none⟩)) := cell_drew hc0
  clear hs0 ht0 hn0 hc0
  refine wp_region_T 5 1 (fun u => u.cell? ⟨A, 0, none⟩ = some (.pointer (some ⟨b, 0, none⟩))) (by kernel_rfl) (by kernel_rfl) ?_
  generalize v.drew = v0 at *
  have HV0 := hid (Two.refl b c v0)
  refine wpT_take 0 (v := ?v30) rfl (by kernel_rfl) (by kernel_rfl) (by kernel_rfl) (by kernel_rfl) (by intro _ _ _ h; first | exact h | (obtain ⟨h, _⟩ := h; cases h)) (by rfl) HSS ?hy30 ?_
  case hy30 => (intro u hu; go_simp; first | done | (with_reducible rfl))
  (try simp only [Act.put, List.setIfInBounds_toArray, List.set_cons_zero, List.set_cons_succ])
  refine wpT_take 2 (v := ?v31) rfl (by kernel_rfl) (by kernel_rfl) (by kernel_rfl) (by kernel_rfl) (by intro _ _ _ h; first | exact h | (obtain ⟨h, _⟩ := h; cases h)) (by rfl) HSS ?hy31 ?_
  case hy31 => (intro u hu; go_simp; first | done | (with_reducible rfl))
  (try simp only [Act.put, List.setIfInBounds_toArray, List.set_cons_zero, List.set_cons_succ])
  refine wpT_one 1 rfl (by kernel_rfl) (by rfl) (fun K' hK => ?_)
  go_simp
  refine (srNum_to E1.out HS0.out).mono ?_
  rintro e v1 ⟨rfl, hs, ht⟩
  have HS1 := hid hs
  have HV1 := hid (HV0.out.trans ht)
  have HX := hid (ht.cell HSS HNE.out.1 HNE.out.2)
  clear hs ht
  refine hK.out _ _ HX.out ?_
  clear HSS hK K' HV0
  have HSS := HX.out
  clear HX
  (try simp only [Act.put, List.setIfInBounds_toArray, List.set_cons_zero, List.set_cons_succ])
  refine wpT_one 3 rfl (by kernel_rfl) (by rfl) (fun K' hK => ?_)
  go_simp
  refine (srNum_to E2.out HS1.out).mono ?_
  rintro e v2 ⟨rfl, hs, ht⟩
  have HS2 := hid hs
  have HV2 := hid (HV1.out.trans ht)
  have HX := hid (ht.cell HSS HNE.out.1 HNE.out.2)
  clear hs ht
  refine hK.out _ _ HX.out ?_
  clear HSS hK K' HV1
  have HSS := HX.out
  clear HX
  (try simp only [Act.put, List.setIfInBounds_toArray, List.set_cons_zero, List.set_cons_succ])
  refine wpT_take 4 (v := ?v32) rfl (by kernel_rfl) (by kernel_rfl) (by kernel_rfl) (by kernel_rfl) (by intro _ _ _ h; first | exact h | (obtain ⟨h, _⟩ := h; cases h)) (by rfl) HSS ?hy32 ?_
  case hy32 => (intro u hu; go_simp; first | done | (with_reducible rfl))
  (try simp only [Act.put, List.setIfInBounds_toArray, List.set_cons_zero, List.set_cons_succ])
  refine wpT_done (by kernel_rfl) ?_
  refine wpAny_one 5 rfl (by kernel_rfl) (by rfl) (fun K' hK => ?_)
  have hlt := H.out.lt
  have hn := HV2.out.blk HN0.out (by omega) (by omega)
  have k0 := blk_cell hn 0
  have k1 := blk_cell hn 1
  have f0 := blk_free hn 0
  have f1 := blk_free hn 1
  go_simp
  refine hK.out _ _ ?_
  (try simp only [Act.put, List.setIfInBounds_toArray, List.set_cons_zero, List.set_cons_succ])
  refine wpAny_done (by kernel_rfl) ?_ _
  refine ‹∀ (a : Act) (w : World), Code.wp _ _ _ a w → _› _ _ ?_
  refine wp_forget (fun y => y.heap[w.heap.size]? = some (.cells #[.int .i64 x1, .int .i64 x2] 40 (0, 0)) ∧ Only w.heap.size v2 y)
    ⟨sets2 hn _ _, ((Only.refl _ _).setCell _).setCell _⟩ ?_
  rintro y ⟨hy, hO⟩
  have HF : Hid (Sr b c s2 y ∧ Two b c w y) := ⟨HS2.out.only hO (by omega) (by omega), (HT0.out.trans HV2.out).only hO (Nat.le_refl _)⟩
  clear k0 k1 f0 f1 hO hn
  have k0 := blk_cell hy 0
  have k1 := blk_cell hy 1
  simp only [List.getElem?_toArray, List.getElem?_cons_zero, List.getElem?_cons_succ] at k0 k1
  go_wp2
  exact bodyPost_ret (v := .agg #[.int .i64 x1, .int .i64 x2]) (by simp [results, Try.results71, go_sem, k0, k1]) rfl ⟨rfl, HF.out⟩
set_option maxRecDepth 100000 in
set_option maxHeartbeats 4000000 in
theorem manyA_any (b c A : Nat) (s : Rb) (cnt : Int) (w : World) (h : Sr b c s w) (hA : w.cell? ⟨A, 0, none⟩ = some (.pointer (some ⟨b, 0, none⟩))) (hne : A ≠ b ∧ A ≠ c) (h0 : s.wrong = false → 0 ≤ cnt) (hc : cnt ≤ 40000) :
    Calls Try.prog 68 #[.pointer (some ⟨b, 0, none⟩), .int .i64 cnt, .func (.func 69) #[] #[.pointer (some ⟨A, 0, none⟩)]] w
      (ReadsRow 38 3 ElA b c (manyP axnP cnt.toNat s) w) := by
  have HS0 := hid h
  have H0 := hid h0
  clear h h0
  have HA := hid hA
  have HNE := hid hne
  clear hA hne
  have hne := fun v w => run_neq_iface_nil (P := Try.prog) w 34 v Try.underlying33
  have hnn := fun w => run_neq_nil_nil' (P := Try.prog) w Try.underlying33
  go_enter Try.func68, Try.ntmps68
  go_wp2
  refine wp_goto 0 (ManyJ 38 3 ElA b c axnP s cnt (.func (.func 69) #[] #[.pointer (some ⟨A, 0, none⟩)]) w) (fun a' _ => cnt.toNat - lenOf (a'.tmps.getD 7 undef)) rfl ?_ ?_
  · refine fun a' w' => ex_elim fun k => ex_elim fun p => ex_elim fun cap => ex_elim fun u3 => ex_elim fun u4 => ex_elim fun u5 => ex_elim fun u8 => ex_elim fun u9 => ex_elim fun u10 => ex_elim fun u11 => ex_elim fun u12 => ex_elim fun u13 => ex_elim fun u14 => ex_elim fun u15 => ex_elim fun u16 => ex_elim fun u17 => ex_elim fun u18 => ex_elim fun u19 => ex_elim fun u20 => ex_elim fun u21 => ex_elim fun u22 => ?_
    rintro ⟨rfl, hT, hS, hR, hlen, hk⟩
    have HT := hid hT
    have HS := hid hS
    have HR := hid hR
    have HL := hid hlen
    clear hT hS hR hlen
    cases hw : (manyP axnP k s).2.wrong
    case true =>
      have HW := hid hw
      have HE := hid (manyP_stays axnP k s hw cnt.toNat hk)
      clear hw
      go_wp2_with (go_at_call 26; refine (srWrong_bad HS.out HW.out).mono ?_; rintro e w1 ⟨rfl, rfl⟩)
      simp only [Exit.jump]
      go_returns
      rw [HE.out]
      exact ⟨_, rfl, HR.out, HS.out, HT.out⟩
    have HW := hid hw
    clear hw
    have hc0 : 0 ≤ cnt := H0.out (manyP_right HW.out)
    by_cases hkc : (k : Int) = cnt
    · have l1 : ((k : Int) == cnt) = true := by simp [hkc]
      have HK : Hid (cnt.toNat = k) := by unfold Hid; omega
      clear hkc
      go_wp2_with (go_at_call 26; refine (srWrong_ok HS.out HW.out).mono ?_; rintro e w1 ⟨rfl, rfl⟩)
      simp only [Exit.jump]
      go_returns
      rw [HK.out]
      exact ⟨_, rfl, HR.out, HS.out, HT.out⟩
    · have l1 : ((k : Int) == cnt) = false := by simp [hkc]
      have hk1 : k + 1 ≤ cnt.toNat := by omega
      have HK1 : Hid (k + 1 ≤ cnt.toNat) := hk1
      have HC := hid hc
      have HQ := hid (manyP_snoc axnP k s HW.out)
      clear hkc hk1 hc hc0 hk
      go_wp2_with (first
        | (go_at_call 26; refine (srWrong_ok HS.out HW.out).mono ?_; rintro e w1 ⟨rfl, rfl⟩)
        | (go_at_call 69; refine (axn_any b c A _ _ HS.out (HT.out.cell HA.out HNE.out.1 HNE.out.2) HNE.out).mono ?_; rintro e w1 ⟨rfl, hs1, ht1⟩; have HS1 := hid hs1; have HT1 := hid ht1; have HKp := hid (HS.out.kept (good := [38]) ht1 (by decide)); clear hs1 ht1)
        | (at_builtin; refine wpList_push_row rfl (.tmp 18) (.tmp 21) 35 38 (.agg #[.int .i64 0, .int .i64 0, .int .i64 0]) 3 24 rfl Try.underlying35 infoA rfl (by decide) [] (axnP (manyP axnP k s).2).1 (HR.out.kept HKp.out (by simp) (ElA.kept (HKp.out.sub (by simp)))) rfl (by intro u hu; simp only [List.mem_cons, List.not_mem_nil, or_false] at hu; rcases hu with rfl | rfl | rfl <;> rfl) (by have := HL.out; have := HK1.out; have := HC.out; omega) (by decide) HS1.out (by decide) (HT.out.trans HT1.out) rfl (by decide) rfl (fun _ hk => ElA.kept hk) rfl rfl rfl ?_; intro p1 cap1 w2 hr2 hs2 ht2))
      go_step3
      rename_i Qz
      simp only [Qz, Exit.jump]
      rw [HL.out] at hr2
      rw [HL.out]
      refine ⟨trivial, ⟨k + 1, p1, cap1, _, _, _, _, _, _, _, _, _, _, _, _, _, _, _, _, _, _, rfl, ht2, by rw [HQ.out]; exact hs2, by rw [HQ.out]; exact hr2, by rw [HQ.out, List.length_append, HL.out]; rfl, HK1.out⟩, ?_⟩
      have := HK1.out
      simp [lenOf]
      omega
  · intro start
    have Start := hid start
    clear start
    go_wp2
    go_step3
    simp only [Exit.then]
    refine ‹∀ (a : Act) (w : World), Code.wp _ _ _ a w → _› _ _ ?_
    exact Start.out _ _ ⟨0, none, 0, _, _, _, _, _, _, _, _, _, _, _, _, _, _, _, _, _, _, rfl, Two.refl _ _ _, HS0.out, Rowed.nil _ _ _ _ _, rfl, Nat.zero_le _⟩

set_option maxRecDepth 100000 in
set_option maxHeartbeats 4000000 in
theorem manyV_any (b c A : Nat) (s : Rb) (cnt : Int) (w : World) (h : Sr b c s w) (hA : w.cell? ⟨A, 0, none⟩ = some (.pointer (some ⟨b, 0, none⟩))) (hne : A ≠ b ∧ A ≠ c) (h0 : s.wrong = false → 0 ≤ cnt) (hc : cnt ≤ 40000) :
    Calls Try.prog 70 #[.pointer (some ⟨b, 0, none⟩), .int .i64 cnt, .func (.func 71) #[] #[.pointer (some ⟨A, 0, none⟩)]] w
      (ReadsRow 40 2 ElV b c (manyP arvP cnt.toNat s) w) := by
  have HS0 := hid h
  have H0 := hid h0
  clear h h0
  have HA := hid hA
  have HNE := hid hne
  clear hA hne
  have hne := fun v w => run_neq_iface_nil (P := Try.prog) w 34 v Try.underlying33
  have hnn := fun w => run_neq_nil_nil' (P := Try.prog) w Try.underlying33
  go_enter Try.func70, Try.ntmps70
  go_wp2
  refine wp_goto 0 (ManyJ 40 2 ElV b c arvP s cnt (.func (.func 71) #[] #[.pointer (some ⟨A, 0, none⟩)]) w) (fun a' _ => cnt.toNat - lenOf (a'.tmps.getD 7 undef)) rfl ?_ ?_
  · refine fun a' w' => ex_elim fun k => ex_elim fun p => ex_elim fun cap => ex_elim fun u3 => ex_elim fun u4 => ex_elim fun u5 => ex_elim fun u8 => ex_elim fun u9 => ex_elim fun u10 => ex_elim fun u11 => ex_elim fun u12 => ex_elim fun u13 => ex_elim fun u14 => ex_elim fun u15 => ex_elim fun u16 => ex_elim fun u17 => ex_elim fun u18 => ex_elim fun u19 => ex_elim fun u20 => ex_elim fun u21 => ex_elim fun u22 => ?_
    rintro ⟨rfl, hT, hS, hR, hlen, hk⟩
    have HT := hid hT
    have HS := hid hS
    have HR := hid hR
    have HL := hid hlen
    clear hT hS hR hlen
    cases hw : (manyP arvP k s).2.wrong
    case true =>
      have HW := hid hw
      have HE := hid (manyP_stays arvP k s hw cnt.toNat hk)
      clear hw
      go_wp2_with (go_at_call 26; refine (srWrong_bad HS.out HW.out).mono ?_; rintro e w1 ⟨rfl, rfl⟩)
      simp only [Exit.jump]
      go_returns
      rw [HE.out]
      exact ⟨_, rfl, HR.out, HS.out, HT.out⟩
    have HW := hid hw
    clear hw
    have hc0 : 0 ≤ cnt := H0.out (manyP_right HW.out)
    by_cases hkc : (k : Int) = cnt
    · have l1 : ((k : Int) == cnt) = true := by simp [hkc]
      have HK : Hid (cnt.toNat = k) := by unfold Hid; omega
      clear hkc
      go_wp2_with (go_at_call 26; refine (srWrong_ok HS.out HW.out).mono ?_; rintro e w1 ⟨rfl, rfl⟩)
      simp only [Exit.jump]
      go_returns
      rw [HK.out]
      exact ⟨_, rfl, HR.out, HS.out, HT.out⟩
    · have l1 : ((k : Int) == cnt) = false := by simp [hkc]
      have hk1 : k + 1 ≤ cnt.toNat := by omega
      have HK1 : Hid (k + 1 ≤ cnt.toNat) := hk1
      have HC := hid hc
      have HQ := hid (manyP_snoc arvP k s HW.out)
      clear hkc hk1 hc hc0 hk
      go_wp2_with (first
        | (go_at_call 26; refine (srWrong_ok HS.out HW.out).mono ?_; rintro e w1 ⟨rfl, rfl⟩)
        | (go_at_call 71; refine (arv_any b c A _ _ HS.out (HT.out.cell HA.out HNE.out.1 HNE.out.2) HNE.out).mono ?_; rintro e w1 ⟨rfl, hs1, ht1⟩; have HS1 := hid hs1; have HT1 := hid ht1; have HKp := hid (HS.out.kept (good := [40]) ht1 (by decide)); clear hs1 ht1)
        | (at_builtin; refine wpList_push_row rfl (.tmp 18) (.tmp 21) 36 40 (.agg #[.int .i64 0, .int .i64 0]) 2 16 rfl Try.underlying36 infoV rfl (by decide) [] (arvP (manyP arvP k s).2).1 (HR.out.kept HKp.out (by simp) (ElV.kept (HKp.out.sub (by simp)))) rfl (by intro u hu; simp only [List.mem_cons, List.not_mem_nil, or_false] at hu; rcases hu with rfl | rfl <;> rfl) (by have := HL.out; have := HK1.out; have := HC.out; omega) (by decide) HS1.out (by decide) (HT.out.trans HT1.out) rfl (by decide) rfl (fun _ hk => ElV.kept hk) rfl rfl rfl ?_; intro p1 cap1 w2 hr2 hs2 ht2))
      go_step3
      rename_i Qz
      simp only [Qz, Exit.jump]
      rw [HL.out] at hr2
      rw [HL.out]
      refine ⟨trivial, ⟨k + 1, p1, cap1, _, _, _, _, _, _, _, _, _, _, _, _, _, _, _, _, _, _, rfl, ht2, by rw [HQ.out]; exact hs2, by rw [HQ.out]; exact hr2, by rw [HQ.out, List.length_append, HL.out]; rfl, HK1.out⟩, ?_⟩
      have := HK1.out
      simp [lenOf]
      omega
  · intro start
    have Start := hid start
    clear start
    go_wp2
    go_step3
    simp only [Exit.then]
    refine ‹∀ (a : Act) (w : World), Code.wp _ _ _ a w → _› _ _ ?_
    exact Start.out _ _ ⟨0, none, 0, _, _, _, _, _, _, _, _, _, _, _, _, _, _, _, _, _, _, rfl, Two.refl _ _ _, HS0.out, Rowed.nil _ _ _ _ _, rfl, Nat.zero_le _⟩

set_option maxRecDepth 100000 in
set_option maxHeartbeats 4000000 in
theorem stream_any (b c : Nat) (s : Rb) (w : World) (h : Sr b c s w) : Calls Try.prog 43 #[.pointer (some ⟨b, 0, none⟩)] w (ReadsRow 38 3 ElA b c (rowP axnP s) w) := by
  have H := hid h
  clear h
  go_enter Try.func43, Try.ntmps43
  go_upto_region 1 with (fail)
  refine wp_forget (fun v => Sr b c s v ∧ Two b c w v ∧ v.cell? ⟨w.heap.size, 0, none⟩ = some (.pointer (some ⟨b, 0, none⟩))) ⟨H.out.ext (by repeat (first | exact Ext.refl _ | assumption | refine Ext.more ?_ _ | refine Ext.drew ?_ | refine Ext.drewN ?_ _ | refine Ext.alloc ?_ _ | refine Ext.setCell ?_ (by simp; try omega) _ | refine Ext.trans ?_ (by assumption))), Two.of_ext (by repeat (first | exact Ext.refl _ | assumption | refine Ext.more ?_ _ | refine Ext.drew ?_ | refine Ext.drewN ?_ _ | refine Ext.alloc ?_ _ | refine Ext.setCell ?_ (by simp; try omega) _ | refine Ext.trans ?_ (by assumption))), blk_cell (heap_alloc_new w _) 0⟩ ?_
  rintro v ⟨hs0, ht0, hc0⟩
  have HS0 := hid (hs0.ext (Ext.drew (Ext.refl v)))
  have HT0 := hid (ht0.ext (Ext.drew (Ext.refl v)))
  have HSS : v.drew.cell? ⟨w.heap.size, 0, none⟩ = some (.pointer (some ⟨b, 0, none⟩)) := cell_drew hc0
  clear hs0 ht0 hc0
  refine wp_region_T 5 1 (fun u => u.cell? ⟨w.heap.size, 0, none⟩ = some (.pointer (some ⟨b, 0, none⟩))) (by kernel_rfl) (by kernel_rfl) ?_
  generalize v.drew = v0 at *
  have hlt := H.out.lt
  have HNE : Hid (w.heap.size ≠ b ∧ w.heap.size ≠ c) := ⟨by omega, by omega⟩
  refine wpT_take 0 (v := ?v33) rfl (by kernel_rfl) (by kernel_rfl) (by kernel_rfl) (by kernel_rfl) (by intro _ _ _ h; first | exact h | (obtain ⟨h, _⟩ := h; cases h)) (by rfl) HSS ?hy33 ?_
  case hy33 => (intro u hu; go_simp; first | done | (with_reducible rfl))
  (try simp only [Act.put, List.setIfInBounds_toArray, List.set_cons_zero, List.set_cons_succ])
  refine wpT_take 1 (v := ?v34) rfl (by kernel_rfl) (by kernel_rfl) (by kernel_rfl) (by kernel_rfl) (by intro _ _ _ h; first | exact h | (obtain ⟨h, _⟩ := h; cases h)) (by rfl) HSS ?hy34 ?_
  case hy34 => (intro u hu; go_simp; first | done | (with_reducible rfl))
  (try simp only [Act.put, List.setIfInBounds_toArray, List.set_cons_zero, List.set_cons_succ])
  refine wpT_take 3 (v := ?v35) rfl (by kernel_rfl) (by kernel_rfl) (by kernel_rfl) (by kernel_rfl) (by intro _ _ _ h; first | exact h | (obtain ⟨h, _⟩ := h; cases h)) (by rfl) HSS ?hy35 ?_
  case hy35 => (intro u hu; go_simp; first | done | (with_reducible rfl))
  (try simp only [Act.put, List.setIfInBounds_toArray, List.set_cons_zero, List.set_cons_succ])
  refine wpT_one 2 rfl (by kernel_rfl) (by rfl) (fun K' hK => ?_)
  go_simp
  refine (srCount_any b c _ _ HS0.out).mono ?_
  rintro e v1 ⟨rfl, hs, ht⟩
  have HS1 := hid hs
  have HT1 := hid (HT0.out.trans ht)
  have HX := hid (ht.cell HSS HNE.out.1 HNE.out.2)
  clear hs ht
  refine hK.out _ _ HX.out ?_
  clear HSS hK K'
  have HSS := HX.out
  clear HX
  (try simp only [Act.put, List.setIfInBounds_toArray, List.set_cons_zero, List.set_cons_succ])
  refine wpT_one 4 rfl (by kernel_rfl) (by rfl) (fun K' hK => ?_)
  go_simp
  refine (manyA_any b c w.heap.size (cntP s).2 (cntP s).1 v1 HS1.out HSS HNE.out cnt_nonneg (cntP_le s)).mono ?_
  rintro e v2 ⟨v', rfl, hr, hs, ht⟩
  have HS2 := hid hs
  have HT2 := hid (HT1.out.trans ht)
  have HR2 := hid (hr.weak HT1.out.size)
  have HX := hid (ht.cell HSS HNE.out.1 HNE.out.2)
  clear hs ht hr
  refine hK.out _ _ HX.out ?_
  clear HSS hK K' HX
  (try simp only [Act.put, List.setIfInBounds_toArray, List.set_cons_zero, List.set_cons_succ])
  refine wpT_done (by kernel_rfl) ?_
  refine wpAny_one 5 rfl (by kernel_rfl) (by rfl) (fun K' hK => ?_)
  go_simp
  refine hK.out _ _ ?_
  (try simp only [Act.put, List.setIfInBounds_toArray, List.set_cons_zero, List.set_cons_succ])
  refine wpAny_done (by kernel_rfl) ?_ _
  go_wp2
  go_returns
  exact ⟨v', rfl, HR2.out, HS2.out, HT2.out⟩
set_option maxRecDepth 100000 in
set_option maxHeartbeats 4000000 in
theorem arrivals_any (b c : Nat) (s : Rb) (w : World) (h : Sr b c s w) : Calls Try.prog 45 #[.pointer (some ⟨b, 0, none⟩)] w (ReadsRow 40 2 ElV b c (rowP arvP s) w) := by
  have H := hid h
  clear h
  go_enter Try.func45, Try.ntmps45
  go_upto_region 1 with (fail)
  refine wp_forget (fun v => Sr b c s v ∧ Two b c w v ∧ v.cell? ⟨w.heap.size, 0, none⟩ = some (.pointer (some ⟨b, 0, none⟩))) ⟨H.out.ext (by repeat (first | exact Ext.refl _ | assumption | refine Ext.more ?_ _ | refine Ext.drew ?_ | refine Ext.drewN ?_ _ | refine Ext.alloc ?_ _ | refine Ext.setCell ?_ (by simp; try omega) _ | refine Ext.trans ?_ (by assumption))), Two.of_ext (by repeat (first | exact Ext.refl _ | assumption | refine Ext.more ?_ _ | refine Ext.drew ?_ | refine Ext.drewN ?_ _ | refine Ext.alloc ?_ _ | refine Ext.setCell ?_ (by simp; try omega) _ | refine Ext.trans ?_ (by assumption))), blk_cell (heap_alloc_new w _) 0⟩ ?_
  rintro v ⟨hs0, ht0, hc0⟩
  have HS0 := hid (hs0.ext (Ext.drew (Ext.refl v)))
  have HT0 := hid (ht0.ext (Ext.drew (Ext.refl v)))
  have HSS : v.drew.cell? ⟨w.heap.size, 0, none⟩ = some (.pointer (some ⟨b, 0, none⟩)) := cell_drew hc0
  clear hs0 ht0 hc0
  refine wp_region_T 5 1 (fun u => u.cell? ⟨w.heap.size, 0, none⟩ = some (.pointer (some ⟨b, 0, none⟩))) (by kernel_rfl) (by kernel_rfl) ?_
  generalize v.drew = v0 at *
  have hlt := H.out.lt
  have HNE : Hid (w.heap.size ≠ b ∧ w.heap.size ≠ c) := ⟨by omega, by omega⟩
  refine wpT_take 0 (v := ?v36) rfl (by kernel_rfl) (by kernel_rfl) (by kernel_rfl) (by kernel_rfl) (by intro _ _ _ h; first | exact h | (obtain ⟨h, _⟩ := h; cases h)) (by rfl) HSS ?hy36 ?_
  case hy36 => (intro u hu; go_simp; first | done | (with_reducible rfl))
  (try simp only [Act.put, List.setIfInBounds_toArray, List.set_cons_zero, List.set_cons_succ])
  refine wpT_take 1 (v := ?v37) rfl (by kernel_rfl) (by kernel_rfl) (by kernel_rfl) (by kernel_rfl) (by intro _ _ _ h; first | exact h | (obtain ⟨h, _⟩ := h; cases h)) (by rfl) HSS ?hy37 ?_
  case hy37 => (intro u hu; go_simp; first | done | (with_reducible rfl))
  (try simp only [Act.put, List.setIfInBounds_toArray, List.set_cons_zero, List.set_cons_succ])
  refine wpT_take 3 (v := ?v38) rfl (by kernel_rfl) (by kernel_rfl) (by kernel_rfl) (by kernel_rfl) (by intro _ _ _ h; first | exact h | (obtain ⟨h, _⟩ := h; cases h)) (by rfl) HSS ?hy38 ?_
  case hy38 => (intro u hu; go_simp; first | done | (with_reducible rfl))
  (try simp only [Act.put, List.setIfInBounds_toArray, List.set_cons_zero, List.set_cons_succ])
  refine wpT_one 2 rfl (by kernel_rfl) (by rfl) (fun K' hK => ?_)
  go_simp
  refine (srCount_any b c _ _ HS0.out).mono ?_
  rintro e v1 ⟨rfl, hs, ht⟩
  have HS1 := hid hs
  have HT1 := hid (HT0.out.trans ht)
  have HX := hid (ht.cell HSS HNE.out.1 HNE.out.2)
  clear hs ht
  refine hK.out _ _ HX.out ?_
  clear HSS hK K'
  have HSS := HX.out
  clear HX
  (try simp only [Act.put, List.setIfInBounds_toArray, List.set_cons_zero, List.set_cons_succ])
  refine wpT_one 4 rfl (by kernel_rfl) (by rfl) (fun K' hK => ?_)
  go_simp
  refine (manyV_any b c w.heap.size (cntP s).2 (cntP s).1 v1 HS1.out HSS HNE.out cnt_nonneg (cntP_le s)).mono ?_
  rintro e v2 ⟨v', rfl, hr, hs, ht⟩
  have HS2 := hid hs
  have HT2 := hid (HT1.out.trans ht)
  have HR2 := hid (hr.weak HT1.out.size)
  have HX := hid (ht.cell HSS HNE.out.1 HNE.out.2)
  clear hs ht hr
  refine hK.out _ _ HX.out ?_
  clear HSS hK K' HX
  (try simp only [Act.put, List.setIfInBounds_toArray, List.set_cons_zero, List.set_cons_succ])
  refine wpT_done (by kernel_rfl) ?_
  refine wpAny_one 5 rfl (by kernel_rfl) (by rfl) (fun K' hK => ?_)
  go_simp
  refine hK.out _ _ ?_
  (try simp only [Act.put, List.setIfInBounds_toArray, List.set_cons_zero, List.set_cons_succ])
  refine wpAny_done (by kernel_rfl) ?_ _
  go_wp2
  go_returns
  exact ⟨v', rfl, HR2.out, HS2.out, HT2.out⟩
set_option maxRecDepth 100000 in
set_option maxHeartbeats 4000000 in
theorem manyS_any (b c : Nat) (s : Rb) (cnt : Int) (w : World) (h : Sr b c s w) (h0 : s.wrong = false → 0 ≤ cnt) (hc : cnt ≤ 40000) :
    Calls Try.prog 42 #[.pointer (some ⟨b, 0, none⟩), .int .i64 cnt, .func (.func 43) #[.pointer (some ⟨b, 0, none⟩)] #[]] w
      (ReadsRow 35 1 ElS b c (manyP (rowP axnP) cnt.toNat s) w) := by
  have HS0 := hid h
  have H0 := hid h0
  clear h h0
  have hne := fun v w => run_neq_iface_nil (P := Try.prog) w 34 v Try.underlying33
  have hnn := fun w => run_neq_nil_nil' (P := Try.prog) w Try.underlying33
  go_enter Try.func42, Try.ntmps42
  go_wp2
  refine wp_goto 0 (ManyJ 35 1 ElS b c (rowP axnP) s cnt (.func (.func 43) #[.pointer (some ⟨b, 0, none⟩)] #[]) w) (fun a' _ => cnt.toNat - lenOf (a'.tmps.getD 7 undef)) rfl ?_ ?_
  · refine fun a' w' => ex_elim fun k => ex_elim fun p => ex_elim fun cap => ex_elim fun u3 => ex_elim fun u4 => ex_elim fun u5 => ex_elim fun u8 => ex_elim fun u9 => ex_elim fun u10 => ex_elim fun u11 => ex_elim fun u12 => ex_elim fun u13 => ex_elim fun u14 => ex_elim fun u15 => ex_elim fun u16 => ex_elim fun u17 => ex_elim fun u18 => ex_elim fun u19 => ex_elim fun u20 => ex_elim fun u21 => ex_elim fun u22 => ?_
    rintro ⟨rfl, hT, hS, hR, hlen, hk⟩
    have HT := hid hT
    have HS := hid hS
    have HR := hid hR
    have HL := hid hlen
    clear hT hS hR hlen
    cases hw : (manyP (rowP axnP) k s).2.wrong
    case true =>
      have HW := hid hw
      have HE := hid (manyP_stays (rowP axnP) k s hw cnt.toNat hk)
      clear hw
      go_wp2_with (go_at_call 26; refine (srWrong_bad HS.out HW.out).mono ?_; rintro e w1 ⟨rfl, rfl⟩)
      simp only [Exit.jump]
      go_returns
      rw [HE.out]
      exact ⟨_, rfl, HR.out, HS.out, HT.out⟩
    have HW := hid hw
    clear hw
    have hc0 : 0 ≤ cnt := H0.out (manyP_right HW.out)
    by_cases hkc : (k : Int) = cnt
    · have l1 : ((k : Int) == cnt) = true := by simp [hkc]
      have HK : Hid (cnt.toNat = k) := by unfold Hid; omega
      clear hkc
      go_wp2_with (go_at_call 26; refine (srWrong_ok HS.out HW.out).mono ?_; rintro e w1 ⟨rfl, rfl⟩)
      simp only [Exit.jump]
      go_returns
      rw [HK.out]
      exact ⟨_, rfl, HR.out, HS.out, HT.out⟩
    · have l1 : ((k : Int) == cnt) = false := by simp [hkc]
      have hk1 : k + 1 ≤ cnt.toNat := by omega
      have HK1 : Hid (k + 1 ≤ cnt.toNat) := hk1
      have HC := hid hc
      have HQ := hid (manyP_snoc (rowP axnP) k s HW.out)
      clear hkc hk1 hc hc0 hk
      go_wp2_with (first
        | (go_at_call 26; refine (srWrong_ok HS.out HW.out).mono ?_; rintro e w1 ⟨rfl, rfl⟩)
        | (go_at_call 43; refine (stream_any _ _ _ _ HS.out).mono ?_; rintro e w1 ⟨v1, rfl, hr1, hs1, ht1⟩; obtain ⟨q1, c1, rfl, -, -⟩ := hr1.shape; have HR1 := hid (hr1.weak (Nat.zero_le _)); clear hr1; have HS1 := hid hs1; have HT1 := hid ht1; have HKp := hid (HS.out.kept (good := [35, 38]) ht1 (by decide)); clear hs1 ht1)
        | (at_builtin; refine wpList_push_row rfl (.tmp 18) (.tmp 21) 27 35 (.slice none 0 0) 1 24 rfl Try.underlying27 infoAs rfl (by decide) [38] ((rowP axnP) (manyP (rowP axnP) k s).2).1 (HR.out.kept HKp.out (by simp) (ElS.kept (HKp.out.sub (by simp)))) rfl (by intro u hu; simp only [List.mem_cons, List.not_mem_nil, or_false] at hu; subst hu; rfl) (by have := HL.out; have := HK1.out; have := HC.out; omega) (by decide) HS1.out (by decide) (HT.out.trans HT1.out) rfl (by decide) ⟨_, rfl, HR1.out⟩ (fun _ hk => ElS.kept hk) rfl rfl rfl ?_; intro p1 cap1 w2 hr2 hs2 ht2))
      go_step3
      rename_i Qz
      simp only [Qz, Exit.jump]
      rw [HL.out] at hr2
      rw [HL.out]
      refine ⟨trivial, ⟨k + 1, p1, cap1, _, _, _, _, _, _, _, _, _, _, _, _, _, _, _, _, _, _, rfl, ht2, by rw [HQ.out]; exact hs2, by rw [HQ.out]; exact hr2, by rw [HQ.out, List.length_append, HL.out]; rfl, HK1.out⟩, ?_⟩
      have := HK1.out
      simp [lenOf]
      omega
  · intro start
    have Start := hid start
    clear start
    go_wp2
    go_step3
    simp only [Exit.then]
    refine ‹∀ (a : Act) (w : World), Code.wp _ _ _ a w → _› _ _ ?_
    exact Start.out _ _ ⟨0, none, 0, _, _, _, _, _, _, _, _, _, _, _, _, _, _, _, _, _, _, rfl, Two.refl _ _ _, HS0.out, Rowed.nil _ _ _ _ _, rfl, Nat.zero_le _⟩

set_option maxRecDepth 100000 in
set_option maxHeartbeats 4000000 in
theorem manyW_any (b c : Nat) (s : Rb) (cnt : Int) (w : World) (h : Sr b c s w) (h0 : s.wrong = false → 0 ≤ cnt) (hc : cnt ≤ 40000) :
    Calls Try.prog 44 #[.pointer (some ⟨b, 0, none⟩), .int .i64 cnt, .func (.func 45) #[.pointer (some ⟨b, 0, none⟩)] #[]] w
      (ReadsRow 36 1 ElW b c (manyP (rowP arvP) cnt.toNat s) w) := by
  have HS0 := hid h
  have H0 := hid h0
  clear h h0
  have hne := fun v w => run_neq_iface_nil (P := Try.prog) w 34 v Try.underlying33
  have hnn := fun w => run_neq_nil_nil' (P := Try.prog) w Try.underlying33
  go_enter Try.func44, Try.ntmps44
  go_wp2
  refine wp_goto 0 (ManyJ 36 1 ElW b c (rowP arvP) s cnt (.func (.func 45) #[.pointer (some ⟨b, 0, none⟩)] #[]) w) (fun a' _ => cnt.toNat - lenOf (a'.tmps.getD 7 undef)) rfl ?_ ?_
  · refine fun a' w' => ex_elim fun k => ex_elim fun p => ex_elim fun cap => ex_elim fun u3 => ex_elim fun u4 => ex_elim fun u5 => ex_elim fun u8 => ex_elim fun u9 => ex_elim fun u10 => ex_elim fun u11 => ex_elim fun u12 => ex_elim fun u13 => ex_elim fun u14 => ex_elim fun u15 => ex_elim fun u16 => ex_elim fun u17 => ex_elim fun u18 => ex_elim fun u19 => ex_elim fun u20 => ex_elim fun u21 => ex_elim fun u22 => ?_
    rintro ⟨rfl, hT, hS, hR, hlen, hk⟩
    have HT := hid hT
    have HS := hid hS
    have HR := hid hR
    have HL := hid hlen
    clear hT hS hR hlen
    cases hw : (manyP (rowP arvP) k s).2.wrong
    case true =>
      have HW := hid hw
      have HE := hid (manyP_stays (rowP arvP) k s hw cnt.toNat hk)
      clear hw
      go_wp2_with (go_at_call 26; refine (srWrong_bad HS.out HW.out).mono ?_; rintro e w1 ⟨rfl, rfl⟩)
      simp only [Exit.jump]
      go_returns
      rw [HE.out]
      exact ⟨_, rfl, HR.out, HS.out, HT.out⟩
    have HW := hid hw
    clear hw
    have hc0 : 0 ≤ cnt := H0.out (manyP_right HW.out)
    by_cases hkc : (k : Int) = cnt
    · have l1 : ((k : Int) == cnt) = true := by simp [hkc]
      have HK : Hid (cnt.toNat = k) := by unfold Hid; omega
      clear hkc
      go_wp2_with (go_at_call 26; refine (srWrong_ok HS.out HW.out).mono ?_; rintro e w1 ⟨rfl, rfl⟩)
      simp only [Exit.jump]
      go_returns
      rw [HK.out]
      exact ⟨_, rfl, HR.out, HS.out, HT.out⟩
    · have l1 : ((k : Int) == cnt) = false := by simp [hkc]
      have hk1 : k + 1 ≤ cnt.toNat := by omega
      have HK1 : Hid (k + 1 ≤ cnt.toNat) := hk1
      have HC := hid hc
      have HQ := hid (manyP_snoc (rowP arvP) k s HW.out)
      clear hkc hk1 hc hc0 hk
      go_wp2_with (first
        | (go_at_call 26; refine (srWrong_ok HS.out HW.out).mono ?_; rintro e w1 ⟨rfl, rfl⟩)
        | (go_at_call 45; refine (arrivals_any _ _ _ _ HS.out).mono ?_; rintro e w1 ⟨v1, rfl, hr1, hs1, ht1⟩; obtain ⟨q1, c1, rfl, -, -⟩ := hr1.shape; have HR1 := hid (hr1.weak (Nat.zero_le _)); clear hr1; have HS1 := hid hs1; have HT1 := hid ht1; have HKp := hid (HS.out.kept (good := [36, 40]) ht1 (by decide)); clear hs1 ht1)
        | (at_builtin; refine wpList_push_row rfl (.tmp 18) (.tmp 21) 28 36 (.slice none 0 0) 1 24 rfl Try.underlying28 infoVs rfl (by decide) [40] ((rowP arvP) (manyP (rowP arvP) k s).2).1 (HR.out.kept HKp.out (by simp) (ElW.kept (HKp.out.sub (by simp)))) rfl (by intro u hu; simp only [List.mem_cons, List.not_mem_nil, or_false] at hu; subst hu; rfl) (by have := HL.out; have := HK1.out; have := HC.out; omega) (by decide) HS1.out (by decide) (HT.out.trans HT1.out) rfl (by decide) ⟨_, rfl, HR1.out⟩ (fun _ hk => ElW.kept hk) rfl rfl rfl ?_; intro p1 cap1 w2 hr2 hs2 ht2))
      go_step3
      rename_i Qz
      simp only [Qz, Exit.jump]
      rw [HL.out] at hr2
      rw [HL.out]
      refine ⟨trivial, ⟨k + 1, p1, cap1, _, _, _, _, _, _, _, _, _, _, _, _, _, _, _, _, _, _, rfl, ht2, by rw [HQ.out]; exact hs2, by rw [HQ.out]; exact hr2, by rw [HQ.out, List.length_append, HL.out]; rfl, HK1.out⟩, ?_⟩
      have := HK1.out
      simp [lenOf]
      omega
  · intro start
    have Start := hid start
    clear start
    go_wp2
    go_step3
    simp only [Exit.then]
    refine ‹∀ (a : Act) (w : World), Code.wp _ _ _ a w → _› _ _ ?_
    exact Start.out _ _ ⟨0, none, 0, _, _, _, _, _, _, _, _, _, _, _, _, _, _, _, _, _, _, rfl, Two.refl _ _ _, HS0.out, Rowed.nil _ _ _ _ _, rfl, Nat.zero_le _⟩

end Go.Proofs.Ytbllibgddiiboaa
