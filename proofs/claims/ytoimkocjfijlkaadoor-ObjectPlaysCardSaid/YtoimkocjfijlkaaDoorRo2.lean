/- The document's own objects: Wait. -/
import Derived.Test.YtoimkocjfijlkaaDoorRo1
namespace Go.Proofs.YtoimkocjfijlkaaDoor
open Go.RowKit
set_option maxRecDepth 100000
set_option linter.unusedSimpArgs false
namespace Ro
open Ob (upd upd_same upd_other four flat)
theorem blk_cell {w : World} {b : Nat} {cs : Array Value} {T : TypeId} (h : w.heap[b]? = some (.cells cs T (0, 0))) (j : Nat) : w.cell? ⟨b, j, none⟩ = cs[j]? := by simp [World.cell?, h]
section
variable {base y : Nat} {c : Nat → Int} {V : Nat → Value} {W : Nat → List Int} {w w' : World}
set_option maxHeartbeats 1000000 in
theorem wait_form (w : World) {o : Int} (h : o < 0 ∨ 4 ≤ o) (id : Int) : Calls Tryd.prog 7 #[.pointer (some ⟨y, 0, none⟩), .int .i64 id, .int .i64 o] w fun e w' => e = .returned (.tuple #[.bool false, .int .i64 10]) ∧ w' = w := by
  have CF := hid (obj_out w h)
  clear h
  go_enter Tryd.func7, Tryd.ntmps7
  go_wp2_with (go_at_call 19; (with_reducible refine CF.out.mono ?_); rintro e w2 ⟨rfl, hw2⟩; rw [hw2]; clear hw2; clear w2)
  go_returns
  exact ⟨rfl, rfl⟩
set_option maxHeartbeats 4000000 in
theorem wait_clash (h : RO base y c V W w) {i : Nat} (hi : i < 4) {id : Int} (hl : ∀ j, j < 4 → (W j).length ≤ 1000000) (hcl : ∃ j, j < 4 ∧ (W j).contains id = true) :
    Calls Tryd.prog 7 #[.pointer (some ⟨y, 0, none⟩), .int .i64 id, .int .i64 i] w fun e w' => e = .returned (.tuple #[.bool false, .int .i64 20]) ∧ Ext w w' := by
  have CF := hid (obj_in w hi)
  have HH := hid h
  have HL := hid hl
  have HC := hid hcl
  have hy0 := h.lt
  clear h hl hcl hi
  go_enter Tryd.func7, Tryd.ntmps7
  go_wp2_with (go_at_call 19; (with_reducible refine CF.out.mono ?_); rintro e w2 ⟨rfl, hw2⟩; rw [hw2]; clear hw2; clear w2)
  go_loopw [8] (fun s wr => ∃ j : Nat, s = .int .i64 j ∧ j ≤ 4 ∧ Ext w wr ∧ Hid (∀ t, t < j → (W t).contains id = false)) (fun s _ => (4 - intOf s).toNat)
  case atStart => exact ⟨0, rfl, by omega, Ext.refl _, fun t ht => by omega⟩
  case round =>
    obtain ⟨j, rfl, hj, hx, hno⟩ := hrel
    by_cases hlt : j < 4
    · have i1 : (j : Int) < 4 := by omega
      have hR := HH.out.ext hx
      obtain ⟨-, c1⟩ := hR.cell hlt
      have hy := hR.lt
      have HI := hid (hR.rows j hlt).ints
      obtain ⟨p, cap, hv, -, -⟩ := (hR.rows j hlt).shape
      rw [hv] at c1 HI
      have HLJ := hid (HL.out j hlt)
      clear hR hv
      cases hq : (W j).contains id with
      | true =>
        have HQ := hid hq
        clear hq
        go_wp2_with (go_at_call 20; (with_reducible refine (has_to HI.out HLJ.out HQ.out).yields ?_); intro p1)
        go_returns
        exact ⟨rfl, hx.trans (ext_more _ _)⟩
      | false =>
        have HQ := hid hq
        have HNO : Hid (∀ t, t < j + 1 → (W t).contains id = false) := fun t ht => by
          rcases Nat.lt_or_ge t j with h1 | h1
          · exact hno.out t h1
          · obtain rfl : t = j := by omega
            exact HQ.out
        clear hq hno
        go_wp2_with (go_at_call 20; (with_reducible refine (has_to HI.out HLJ.out HQ.out).yields ?_); intro p1)
        go_roundw
        case rel => exact ⟨j + 1, by go_num, by omega, hx.trans (ext_more _ _), HNO⟩
        case measure => simp [intOf]; omega
    · obtain rfl : j = 4 := by omega
      obtain ⟨t, h1, h2⟩ := HC.out
      have := hno.out t h1
      rw [h2] at this
      cases this
/-- A row made since, laid in it. -/
theorem ro_push {z0 v3 : World} (h : RO base y c V W z0) (hb : base ≤ z0.heap.size) {i : Nat} (hi : i < 4) (hx : Ext z0 v3) {u : Value} {l : List Int} (ho : v3.ownsRow z0.heap.size 3 1 u l.length (l.map fun k => .int .i64 k)) :
    RO base y c (upd V i u) (upd W i l) (v3.setCell ⟨y, 4 + i, none⟩ u) ∧ Mvp (ROwn y V) (ROwn y (upd V i u)) z0 (v3.setCell ⟨y, 4 + i, none⟩ u) := by
  refine ⟨(h.ext hx).setW hi (RW.of_owns ho hb h.lt), ro_mv ((Mvp.of_ext hx).set (g := y) (.inl rfl) _ _) fun j hj k hk => ?_⟩
  by_cases e : j = i
  · subst e
    rw [upd_same] at hk
    rcases ho.2 with ⟨rfl, _⟩ | ⟨g, cap, cur, rfl, e2, _⟩
    · cases hk
    · cases hk
      exact .inr e2
  · rw [upd_other e] at hk
    exact .inl (.inr ⟨j, hj, hk⟩)
set_option maxHeartbeats 4000000 in
theorem wait_on (h : RO base y c V W w) {i : Nat} (hi : i < 4) {id : Int} (hl : ∀ j, j < 4 → (W j).length ≤ 1000000) (hno0 : ∀ j, j < 4 → (W j).contains id = false) (hc : 0 < c i) (hc' : c i ≤ 255) :
    Calls Tryd.prog 7 #[.pointer (some ⟨y, 0, none⟩), .int .i64 id, .int .i64 i] w fun e w' => e = .returned (.tuple #[.bool true, .int .i64 0]) ∧ RO base y (upd c i (c i - 1)) V W w' ∧ Mvp (ROwn y V) (ROwn y V) w w' := by
  have CF := hid (obj_in w hi)
  have HH := hid h
  have HL := hid hl
  have HNO := hid hno0
  have HI0 := hid hi
  have HC0 := hid hc
  have hy0 := h.lt
  have hwr : IntKind.i64.wrap (c i - 1) = c i - 1 := IntWalk.i64_in _ (by omega)
  have i0 : (i : Int) < 4 := by omega
  clear h hl hno0 hi
  go_enter Tryd.func7, Tryd.ntmps7
  go_wp2_with (go_at_call 19; (with_reducible refine CF.out.mono ?_); rintro e w2 ⟨rfl, hw2⟩; rw [hw2]; clear hw2; clear w2)
  go_loopw [8] (fun s wr => ∃ j : Nat, s = .int .i64 j ∧ j ≤ 4 ∧ Ext w wr) (fun s _ => (4 - intOf s).toNat)
  case atStart => exact ⟨0, rfl, by omega, Ext.refl _⟩
  case round =>
    obtain ⟨j, rfl, hj, hx⟩ := hrel
    have hR := HH.out.ext hx
    have hy := hR.lt
    by_cases hlt : j < 4
    · have i1 : (j : Int) < 4 := by omega
      obtain ⟨-, c1⟩ := hR.cell hlt
      have HI := hid (hR.rows j hlt).ints
      obtain ⟨p, cap, hv, -, -⟩ := (hR.rows j hlt).shape
      rw [hv] at c1 HI
      have HLJ := hid (HL.out j hlt)
      have HQ := hid (HNO.out j hlt)
      clear hR hv
      go_wp2_with (go_at_call 20; (with_reducible refine (has_to HI.out HLJ.out HQ.out).yields ?_); intro p1)
      go_roundw
      case rel => exact ⟨j + 1, by go_num, by omega, hx.trans (ext_more _ _)⟩
      case measure => simp [intOf]; omega
    · obtain rfl : j = 4 := by omega
      obtain ⟨c0, -⟩ := hR.cell HI0.out
      have f0 := hR.free i
      have HF := hid (hR.setC HI0.out (c i - 1))
      have HX := hid hx
      clear hR hx
      go_wp2_with fail
      go_region
      go_wp2
      go_returns
      exact ⟨rfl, HF.out.ext (Ext.drew (Ext.refl _)), Mvp.ahead HX.out (((Mvp.refl _ wr).set (g := y) (.inl rfl) _ _).ext (Ext.drew (Ext.refl _)))⟩
set_option maxHeartbeats 4000000 in
theorem wait_wait (h : RO base y c V W w) (hb : base ≤ w.heap.size) {i : Nat} (hi : i < 4) {id : Int} (hl : ∀ j, j < 4 → (W j).length ≤ 1000000) (hno0 : ∀ j, j < 4 → (W j).contains id = false) (hc : c i = 0) :
    Calls Tryd.prog 7 #[.pointer (some ⟨y, 0, none⟩), .int .i64 id, .int .i64 i] w fun e w' => e = .returned (.tuple #[.bool false, .int .i64 0]) ∧ ∃ V', RO base y c V' (upd W i (W i ++ [id])) w' ∧ Mvp (ROwn y V) (ROwn y V') w w' := by
  have CF := hid (obj_in w hi)
  have HH := hid h
  have HL := hid hl
  have HNO := hid hno0
  have HI0 := hid hi
  have HB := hid hb
  have HC0 := hid hc
  have hy0 := h.lt
  have i0 : (i : Int) < 4 := by omega
  clear h hl hno0 hi hc hb
  go_enter Tryd.func7, Tryd.ntmps7
  go_wp2_with (go_at_call 19; (with_reducible refine CF.out.mono ?_); rintro e w2 ⟨rfl, hw2⟩; rw [hw2]; clear hw2; clear w2)
  go_loopw [8] (fun s wr => ∃ j : Nat, s = .int .i64 j ∧ j ≤ 4 ∧ Ext w wr) (fun s _ => (4 - intOf s).toNat)
  case atStart => exact ⟨0, rfl, by omega, Ext.refl _⟩
  case round =>
    obtain ⟨j, rfl, hj, hx⟩ := hrel
    have hR := HH.out.ext hx
    have hy := hR.lt
    by_cases hlt : j < 4
    · have i1 : (j : Int) < 4 := by omega
      obtain ⟨-, c1⟩ := hR.cell hlt
      have HI := hid (hR.rows j hlt).ints
      obtain ⟨p, cap, hv, -, -⟩ := (hR.rows j hlt).shape
      rw [hv] at c1 HI
      have HLJ := hid (HL.out j hlt)
      have HQ := hid (HNO.out j hlt)
      clear hR hv
      go_wp2_with (go_at_call 20; (with_reducible refine (has_to HI.out HLJ.out HQ.out).yields ?_); intro p1)
      go_roundw
      case rel => exact ⟨j + 1, by go_num, by omega, hx.trans (ext_more _ _)⟩
      case measure => simp [intOf]; omega
    · obtain rfl : j = 4 := by omega
      obtain ⟨c0, c1⟩ := hR.cell HI0.out
      rw [HC0.out] at c0
      obtain ⟨p, cap, hv, hcap, -⟩ := (hR.rows i HI0.out).shape
      have SR := hid (hR.rows i HI0.out).src
      have HR := hid hR
      have HX := hid hx
      have HLI := hid (HL.out i HI0.out)
      rw [hv] at c1
      have HV := hid hv
      clear hR hx hv hcap
      obtain ⟨n, hn⟩ : ∃ n, n = (W i).length := ⟨_, rfl⟩
      have HN : Hid ((W i).length = n) := hn.symm
      rw [← hn] at c1 SR HLI HV
      have HNL : Hid (n ≤ 1000000) := HLI.out
      clear hn
      go_wp2_with fail
      refine wp_region_T 15 1 (fun u => u.cell? ⟨y, 4 + i, none⟩ = some (.slice p n cap)) (by kernel_rfl) (by kernel_rfl) ?_
      have HZ : Hid (Ext wr wr.drew) := Ext.drew (Ext.refl wr)
      have HR0 := hid (HR.out.ext HZ.out)
      have SR0 := hid (SR.out.ext HZ.out)
      rw [HV.out] at SR0
      have HSF : Hid (∀ u, Ext wr.drew u → u.cell? ⟨y, 4 + i, none⟩ = some (.slice p n cap)) := fun u hu => by
        have := ((HR0.out.ext hu).cell HI0.out).2
        rw [HV.out] at this
        exact this
      clear c0 c1 SR HR
      generalize wr.drew = z0 at *
      have HSS := HSF.out z0 (Ext.refl _)
      refine wpT_take 0 (v := ?v1) rfl (by kernel_rfl) (by kernel_rfl) (by kernel_rfl) (by kernel_rfl) (by intro _ _ _ h; first | exact h | (obtain ⟨h, _⟩ := h; cases h)) (by rfl) HSS ?hy1 ?_
      case hy1 => (intro u hu; obtain hu := hu; go_simp; first | done | (with_reducible rfl))
      (try simp only [Act.put, List.getElem_toArray, List.getElem_cons_zero, List.setIfInBounds_toArray, List.set_cons_zero, List.set_cons_succ])
      refine wpT_take 1 (v := ?v2) rfl (by kernel_rfl) (by kernel_rfl) (by kernel_rfl) (by kernel_rfl) (by intro _ _ _ h; first | exact h | (obtain ⟨h, _⟩ := h; cases h)) (by rfl) HSS ?hy2 ?_
      case hy2 => (intro u hu; obtain hu := hu; go_simp; first | done | (with_reducible rfl))
      (try simp only [Act.put, List.getElem_toArray, List.getElem_cons_zero, List.getElem_cons_succ, List.setIfInBounds_toArray, List.set_cons_zero, List.set_cons_succ])
      refine wpT_take 2 (v := ?v3) rfl (by kernel_rfl) (by kernel_rfl) (by kernel_rfl) (by kernel_rfl) (by intro _ _ _ h; first | exact h | (obtain ⟨h, _⟩ := h; cases h)) (by rfl) HSS ?hy3 ?_
      case hy3 => (intro u hu; obtain hu := hu; go_simp; first | done | (with_reducible rfl))
      (try simp only [Act.put, List.getElem_toArray, List.getElem_cons_zero, List.getElem_cons_succ, List.setIfInBounds_toArray, List.set_cons_zero, List.set_cons_succ])
      refine wpT_take 3 (v := ?v4) rfl (by kernel_rfl) (by kernel_rfl) (by kernel_rfl) (by kernel_rfl) (by intro _ _ _ h; first | exact h | (obtain ⟨h, _⟩ := h; cases h)) (by rfl) HSS ?hy4 ?_
      case hy4 => (intro u hu; obtain hu := hu; go_simp; first | done | (with_reducible rfl))
      (try simp only [Act.put, List.getElem_toArray, List.getElem_cons_zero, List.getElem_cons_succ, List.setIfInBounds_toArray, List.set_cons_zero, List.set_cons_succ])
      refine wpT_take 4 (v := ?v5) rfl (by kernel_rfl) (by kernel_rfl) (by kernel_rfl) (by kernel_rfl) (by intro _ _ _ h; first | exact h | (obtain ⟨h, _⟩ := h; cases h)) (by rfl) HSS ?hy5 ?_
      case hy5 => (intro u hu; obtain hu := hu; go_simp; first | done | (with_reducible rfl))
      (try simp only [Act.put, List.getElem_toArray, List.getElem_cons_zero, List.getElem_cons_succ, List.setIfInBounds_toArray, List.set_cons_zero, List.set_cons_succ])
      refine wpT_take 5 (v := ?v6) rfl (by kernel_rfl) (by kernel_rfl) (by kernel_rfl) (by kernel_rfl) (by intro _ _ _ h; first | exact h | (obtain ⟨h, _⟩ := h; cases h)) (by rfl) HSS ?hy6 ?_
      case hy6 => (intro u hu; obtain hu := hu; go_simp; first | done | (with_reducible rfl))
      (try simp only [Act.put, List.getElem_toArray, List.getElem_cons_zero, List.getElem_cons_succ, List.setIfInBounds_toArray, List.set_cons_zero, List.set_cons_succ])
      refine wpT_take 6 (v := ?v7) rfl (by kernel_rfl) (by kernel_rfl) (by kernel_rfl) (by kernel_rfl) (by intro _ _ _ h; first | exact h | (obtain ⟨h, _⟩ := h; cases h)) (by rfl) HSS ?hy7 ?_
      case hy7 => (intro u hu; obtain hu := hu; go_simp; first | done | (with_reducible rfl))
      (try simp only [Act.put, List.getElem_toArray, List.getElem_cons_zero, List.getElem_cons_succ, List.setIfInBounds_toArray, List.set_cons_zero, List.set_cons_succ])
      refine wpT_take 7 (v := ?v8) rfl (by kernel_rfl) (by kernel_rfl) (by kernel_rfl) (by kernel_rfl) (by intro _ _ _ h; first | exact h | (obtain ⟨h, _⟩ := h; cases h)) (by rfl) HSS ?hy8 ?_
      case hy8 => (intro u hu; obtain hu := hu; go_simp; first | done | (with_reducible rfl))
      (try simp only [Act.put, List.getElem_toArray, List.getElem_cons_zero, List.getElem_cons_succ, List.setIfInBounds_toArray, List.set_cons_zero, List.set_cons_succ])
      refine wpT_take 9 (v := ?v9) rfl (by kernel_rfl) (by kernel_rfl) (by kernel_rfl) (by kernel_rfl) (by intro _ _ _ h; first | exact h | (obtain ⟨h, _⟩ := h; cases h)) (by rfl) HSS ?hy9 ?_
      case hy9 => (intro u hu; obtain hu := hu; go_simp; first | done | (with_reducible rfl))
      (try simp only [Act.put, List.getElem_toArray, List.getElem_cons_zero, List.getElem_cons_succ, List.setIfInBounds_toArray, List.set_cons_zero, List.set_cons_succ])
      refine wpT_take 12 (v := ?v10) rfl (by kernel_rfl) (by kernel_rfl) (by kernel_rfl) (by kernel_rfl) (by intro _ _ _ h; first | exact h | (obtain ⟨h, _⟩ := h; cases h)) (by rfl) HSS ?hy10 ?_
      case hy10 => (intro u hu; obtain hu := hu; go_simp; first | done | (with_reducible rfl))
      (try simp only [Act.put, List.getElem_toArray, List.getElem_cons_zero, List.getElem_cons_succ, List.setIfInBounds_toArray, List.set_cons_zero, List.set_cons_succ])
      refine wpT_take 13 (v := ?v11) rfl (by kernel_rfl) (by kernel_rfl) (by kernel_rfl) (by kernel_rfl) (by intro _ _ _ h; first | exact h | (obtain ⟨h, _⟩ := h; cases h)) (by rfl) HSS ?hy11 ?_
      case hy11 => (intro u hu; obtain hu := hu; go_simp; first | done | (with_reducible rfl))
      (try simp only [Act.put, List.getElem_toArray, List.getElem_cons_zero, List.getElem_cons_succ, List.setIfInBounds_toArray, List.set_cons_zero, List.set_cons_succ])
      refine wpT_two 8 10 rfl rfl (by kernel_rfl) (by rfl) (by rfl) (fun K' hK => ?_) (fun K' hK => ?_)
      · skip
        have HXa : Hid (Ext z0 z0) := Ext.refl z0
        refine Rw.wp_append_src (.const (.slice none 0 0)) (.tmp 50) 28 3 (.int .i64 0) 1 8 rfl Tryd.underlying28 infoI rfl (by decide) (World.ownsRow_nil _ z0.heap.size _ _) rfl rfl (SR0.out.ext HXa.out) (ints_oneCell .i64 _) (by have := HNL.out; unfold maxLen; omega) (by have := HNL.out; omega) (Nat.le_refl _) ?_
        intro r1 v1 ho1 hb1
        have HX1 : Hid (Ext z0 v1) := HXa.out.trans ⟨hb1⟩
        simp only [List.nil_append, Nat.zero_add] at ho1
        have HO1 := hid ho1
        clear ho1 hb1 HXa
        refine hK.out _ _ (HSF.out _ HX1.out) ?_
        clear hK K' HSS
        have HSS := HSF.out _ HX1.out
        (try simp only [Act.put, List.getElem_toArray, List.getElem_cons_zero, List.getElem_cons_succ, List.setIfInBounds_toArray, List.set_cons_zero, List.set_cons_succ])
        refine wpT_one 10 rfl (by kernel_rfl) (by rfl) (fun K' hK => ?_)
        go_simp
        have HX2 : Hid (Ext z0 (v1.alloc (.cells #[.int .i64 id] 3 (0, 0)))) := HX1.out.alloc _
        have HO2 := hid (owns_ext HO1.out (Ext.alloc (Ext.refl v1) (.cells #[.int .i64 id] 3 (0, 0))))
        have HB2 : Hid ((v1.alloc (.cells #[.int .i64 id] 3 (0, 0))).heap[v1.heap.size]? = some (.cells #[.int .i64 id] 3 (0, 0))) := heap_alloc_new v1 _
        refine hK.out _ _ (HSF.out _ HX2.out) ?_
        clear hK K' HSS HO1 HX1
        have HSS := HSF.out _ HX2.out
        (try simp only [Act.put, List.getElem_toArray, List.getElem_cons_zero, List.getElem_cons_succ, List.setIfInBounds_toArray, List.set_cons_zero, List.set_cons_succ])
        generalize v1.alloc (.cells #[.int .i64 id] 3 (0, 0)) = v2 at *
        generalize v1.heap.size = B at *
        clear v1
        refine wpT_one 11 rfl (by kernel_rfl) (by rfl) (fun K' hK => ?_)
        refine Rw.wp_append_src (.tmp 51) (.tmp 53) 28 3 (.int .i64 0) 1 8 rfl Tryd.underlying28 infoI rfl (by decide) HO2.out (m2 := 1) (news := [.int .i64 id]) rfl rfl (.inr ⟨⟨B, 0, none⟩, 1, rfl, rfl, by intro j u hj; rw [add_add, Nat.zero_add, blk_cell HB2.out j]; simpa using hj⟩) (ints_oneCell .i64 [id]) (by have := HNL.out; unfold maxLen; omega) (by have := HNL.out; omega) HX2.out.size ?_
        intro r3 v3 ho3 hb3
        obtain ⟨p4, c4, rfl⟩ := Rw.owns_shape ho3
        have HO3 := hid ho3
        have HX3 : Hid (Ext z0 v3) := ⟨Below.trans HX2.out.below hb3⟩
        clear ho3 hb3
        refine hK.out _ _ (HSF.out _ HX3.out) ?_
        clear hK K' HSS HX2 HO2 HB2
        have HSS := HSF.out _ HX3.out
        (try simp only [Act.put, List.getElem_toArray, List.getElem_cons_zero, List.getElem_cons_succ, List.setIfInBounds_toArray, List.set_cons_zero, List.set_cons_succ])
        refine wpT_take 14 (v := ?v12) rfl (by kernel_rfl) (by kernel_rfl) (by kernel_rfl) (by kernel_rfl) (by intro _ _ _ h; first | exact h | (obtain ⟨h, _⟩ := h; cases h)) (by rfl) HSS ?hy12 ?_
        case hy12 => (intro u hu; obtain hu := hu; go_simp; first | done | (with_reducible rfl))
        (try simp only [Act.put, List.getElem_toArray, List.getElem_cons_zero, List.getElem_cons_succ, List.setIfInBounds_toArray, List.set_cons_zero, List.set_cons_succ])
        refine wpT_done (by kernel_rfl) ?_
        refine wpAny_one 15 rfl (by kernel_rfl) (by rfl) (fun K' hK => ?_)
        have g0 := HSS
        have f0 := (HR0.out.ext HX3.out).free (4 + i)
        clear HSS
        go_simp
        refine hK.out _ _ ?_
        clear hK K' g0 f0
        (try simp only [Act.put, List.getElem_toArray, List.getElem_cons_zero, List.getElem_cons_succ, List.setIfInBounds_toArray, List.set_cons_zero, List.set_cons_succ])
        refine wpAny_done (by kernel_rfl) ?_ _
        have hrow : v3.ownsRow z0.heap.size 3 1 (.slice p4 (n + 1) c4) (W i ++ [id]).length ((W i ++ [id]).map fun k => .int .i64 k) := by
          rw [List.length_append, HN.out, List.map_append]
          exact HO3.out
        have FIN := hid (ro_push HR0.out (Nat.le_trans HB.out (Nat.le_trans HX.out.size HZ.out.size)) HI0.out HX3.out hrow)
        clear hrow HO3
        simp only [Exit.then]
        refine ‹∀ (a : Act) (w : World), Code.wp _ _ _ a w → _› _ _ ?_
        go_wp2
        go_returns
        exact ⟨rfl, _, FIN.out.1, Mvp.ahead (HX.out.trans HZ.out) FIN.out.2⟩
      · skip
        go_simp
        have HXa : Hid (Ext z0 (z0.alloc (.cells #[.int .i64 id] 3 (0, 0)))) := (Ext.refl z0).alloc _
        have HBa : Hid ((z0.alloc (.cells #[.int .i64 id] 3 (0, 0))).heap[z0.heap.size]? = some (.cells #[.int .i64 id] 3 (0, 0))) := heap_alloc_new z0 _
        refine hK.out _ _ (HSF.out _ HXa.out) ?_
        clear hK K' HSS
        have HSS := HSF.out _ HXa.out
        (try simp only [Act.put, List.getElem_toArray, List.getElem_cons_zero, List.getElem_cons_succ, List.setIfInBounds_toArray, List.set_cons_zero, List.set_cons_succ])
        obtain ⟨B, hB⟩ : ∃ B, B = z0.heap.size := ⟨_, rfl⟩
        rw [← hB] at HBa
        rw [← hB]
        clear hB
        generalize z0.alloc (.cells #[.int .i64 id] 3 (0, 0)) = y1 at *
        refine wpT_one 8 rfl (by kernel_rfl) (by rfl) (fun K' hK => ?_)
        refine Rw.wp_append_src (.const (.slice none 0 0)) (.tmp 50) 28 3 (.int .i64 0) 1 8 rfl Tryd.underlying28 infoI rfl (by decide) (World.ownsRow_nil _ y1.heap.size _ _) rfl rfl (SR0.out.ext HXa.out) (ints_oneCell .i64 _) (by have := HNL.out; unfold maxLen; omega) (by have := HNL.out; omega) (Nat.le_refl _) ?_
        intro r1 v2 ho1 hb1
        have HX1 : Hid (Ext y1 v2) := ⟨hb1⟩
        have HX2 : Hid (Ext z0 v2) := HXa.out.trans HX1.out
        simp only [List.nil_append, Nat.zero_add] at ho1
        have HO2 := hid (owns_base ho1 HXa.out.size)
        have HB2 : Hid (v2.heap[B]? = some (.cells #[.int .i64 id] 3 (0, 0))) := by
          show _ = _
          rw [HX1.out.below.block B (lt_blk HBa.out)]; exact HBa.out
        clear ho1 hb1 HXa HBa HX1
        refine hK.out _ _ (HSF.out _ HX2.out) ?_
        clear hK K' HSS
        have HSS := HSF.out _ HX2.out
        (try simp only [Act.put, List.getElem_toArray, List.getElem_cons_zero, List.getElem_cons_succ, List.setIfInBounds_toArray, List.set_cons_zero, List.set_cons_succ])
        refine wpT_one 11 rfl (by kernel_rfl) (by rfl) (fun K' hK => ?_)
        refine Rw.wp_append_src (.tmp 51) (.tmp 53) 28 3 (.int .i64 0) 1 8 rfl Tryd.underlying28 infoI rfl (by decide) HO2.out (m2 := 1) (news := [.int .i64 id]) rfl rfl (.inr ⟨⟨B, 0, none⟩, 1, rfl, rfl, by intro j u hj; rw [add_add, Nat.zero_add, blk_cell HB2.out j]; simpa using hj⟩) (ints_oneCell .i64 [id]) (by have := HNL.out; unfold maxLen; omega) (by have := HNL.out; omega) HX2.out.size ?_
        intro r3 v3 ho3 hb3
        obtain ⟨p4, c4, rfl⟩ := Rw.owns_shape ho3
        have HO3 := hid ho3
        have HX3 : Hid (Ext z0 v3) := ⟨Below.trans HX2.out.below hb3⟩
        clear ho3 hb3
        refine hK.out _ _ (HSF.out _ HX3.out) ?_
        clear hK K' HSS HX2 HO2 HB2
        have HSS := HSF.out _ HX3.out
        (try simp only [Act.put, List.getElem_toArray, List.getElem_cons_zero, List.getElem_cons_succ, List.setIfInBounds_toArray, List.set_cons_zero, List.set_cons_succ])
        refine wpT_take 14 (v := ?v13) rfl (by kernel_rfl) (by kernel_rfl) (by kernel_rfl) (by kernel_rfl) (by intro _ _ _ h; first | exact h | (obtain ⟨h, _⟩ := h; cases h)) (by rfl) HSS ?hy13 ?_
        case hy13 => (intro u hu; obtain hu := hu; go_simp; first | done | (with_reducible rfl))
        (try simp only [Act.put, List.getElem_toArray, List.getElem_cons_zero, List.getElem_cons_succ, List.setIfInBounds_toArray, List.set_cons_zero, List.set_cons_succ])
        refine wpT_done (by kernel_rfl) ?_
        refine wpAny_one 15 rfl (by kernel_rfl) (by rfl) (fun K' hK => ?_)
        have g0 := HSS
        have f0 := (HR0.out.ext HX3.out).free (4 + i)
        clear HSS
        go_simp
        refine hK.out _ _ ?_
        clear hK K' g0 f0
        (try simp only [Act.put, List.getElem_toArray, List.getElem_cons_zero, List.getElem_cons_succ, List.setIfInBounds_toArray, List.set_cons_zero, List.set_cons_succ])
        refine wpAny_done (by kernel_rfl) ?_ _
        have hrow : v3.ownsRow z0.heap.size 3 1 (.slice p4 (n + 1) c4) (W i ++ [id]).length ((W i ++ [id]).map fun k => .int .i64 k) := by
          rw [List.length_append, HN.out, List.map_append]
          exact HO3.out
        have FIN := hid (ro_push HR0.out (Nat.le_trans HB.out (Nat.le_trans HX.out.size HZ.out.size)) HI0.out HX3.out hrow)
        clear hrow HO3
        simp only [Exit.then]
        refine ‹∀ (a : Act) (w : World), Code.wp _ _ _ a w → _› _ _ ?_
        go_wp2
        go_returns
        exact ⟨rfl, _, FIN.out.1, Mvp.ahead (HX.out.trans HZ.out) FIN.out.2⟩
end
end Ro
end Go.Proofs.YtoimkocjfijlkaaDoor
