/- The statements' own script, as it lies in memory. -/
import Derived.Test.YtbllibgddiiboaaBase
import Derived.Test.YtbllibgddiiboaaScr
import Derived.Test.YtbllibgddiiboaaSr8
import Derived.Test.YtbllibgddiiboaaSr9
namespace Go.Proofs.Ytbllibgddiiboaa
open Go.RowKit
set_option linter.unusedSimpArgs false

abbrev zero7 : Obj := .cells #[.int .i64 0, .int .i64 0, .slice none 0 0, .slice none 0 0, .int .i64 0, .slice none 0 0, .slice none 0 0] 30 (0, 0)
/-- A script's value: the configuration from block N on, the streams in block S, the arrivals in block V. -/
abbrev helpV (N S V : Nat) (h : Int) : Value := .agg #[.int .i64 8, .int .i64 2, .slice (some ⟨N + 3, 0, none⟩) 2 2, .slice (some ⟨N + 13, 0, none⟩) 4 4, .int .i64 h, .slice (some ⟨S, 0, none⟩) 4 4, .slice (some ⟨V, 0, none⟩) 4 4]
/-- These blocks lie so. -/
structure HelpS (base N S V : Nat) (os : List RO) (ss vs : List Value) (w : World) : Prop where
  lies : Lies N os w
  sb : w.heap[S]? = some (.cells ss.toArray 35 (0, 0))
  vb : w.heap[V]? = some (.cells vs.toArray 36 (0, 0))
  hN : base ≤ N
  hS : base ≤ S
  hV : base ≤ V
  sv : S ≠ V
  sn : S < N ∨ N + os.length ≤ S
  vn : V < N ∨ N + os.length ≤ V
theorem HelpS.ext {base N S V : Nat} {os : List RO} {ss vs : List Value} {w w' : World} (h : HelpS base N S V os ss vs w) (x : Ext w w') : HelpS base N S V os ss vs w' :=
  ⟨h.lies.ext x, block_ext x h.sb, block_ext x h.vb, h.hN, h.hS, h.hV, h.sv, h.sn, h.vn⟩
theorem HelpS.other {base N S V : Nat} {os : List RO} {ss vs : List Value} {w : World} (h : HelpS base N S V os ss vs w) {b j : Nat} (v : Value) (hb : b < base ∨ (b ≠ S ∧ b ≠ V ∧ (b < N ∨ N + os.length ≤ b))) : HelpS base N S V os ss vs (w.setCell ⟨b, j, none⟩ v) := by
  have h1 := h.hN
  have h2 := h.hS
  have h3 := h.hV
  exact ⟨h.lies.other v (by omega), (Below.heap_setCell _ _ _ _ (by simp; omega)).trans h.sb, (Below.heap_setCell _ _ _ _ (by simp; omega)).trans h.vb, h1, h2, h3, h.sv, h.sn, h.vn⟩
def nil4 : List Value := [.slice none 0 0, .slice none 0 0, .slice none 0 0, .slice none 0 0]
theorem mkStreams (w : World) : (Instr.makeSlice 27 (.int .i64 4) (.int .i64 4)).run Try.prog w = .ok (.slice (some ⟨w.heap.size, 0, none⟩) 4 4) (w.alloc (.cells #[.slice none 0 0, .slice none 0 0, .slice none 0 0, .slice none 0 0] 35 (0, 0))) := by kernel_rfl
theorem mkArrivals (w : World) : (Instr.makeSlice 28 (.int .i64 4) (.int .i64 4)).run Try.prog w = .ok (.slice (some ⟨w.heap.size, 0, none⟩) 4 4) (w.alloc (.cells #[.slice none 0 0, .slice none 0 0, .slice none 0 0, .slice none 0 0] 36 (0, 0))) := by kernel_rfl
def MeetQ (M : Act → World → Prop) : Exit → Act → World → Prop
  | .normal, a, w => M a w
  | _, _, _ => False
theorem wp_meetq {P : Program} {c : Code} {a : Act} {w : World} {Q : Exit → Act → World → Prop} (M : Act → World → Prop) (first : c.wp P (MeetQ M) a w) (rest : ∀ a w, M a w → Q .normal a w) : c.wp P Q a w :=
  Code.wp_mono (fun e a w h => by cases e <;> first | exact rest a w h | exact h.elim) first
section
variable {P : Program} {ops : Array Oper} {Q : Exit → Act → World → Prop} {md : Region.Mode} {S : World → Prop}
/-- One of the three that may come up. -/
theorem wpT_three (i j l : Nat) {n k : Nat} {oi oj ol : Oper} {fuel : Nat} {listed : Array Bool} {a : Act} {w : World} (hoi : ops[i]? = some oi) (hoj : ops[j]? = some oj) (hol : ops[l]? = some ol) (hr : Region.ready md ops listed = [i, j, l])
    (hwi : Region.wanted oi (yielded ops a.tmps) = true) (hwj : Region.wanted oj (yielded ops a.tmps) = true) (hwl : Region.wanted ol (yielded ops a.tmps) = true)
    (hi : ∀ K' : Act → World → Prop, Shut (∀ a w, S w → wpT P md ops Q S n k fuel (listed.setIfInBounds i true) a w → K' a w) → Oper.wp P oi a w K' Q)
    (hj : ∀ K' : Act → World → Prop, Shut (∀ a w, S w → wpT P md ops Q S n k fuel (listed.setIfInBounds j true) a w → K' a w) → Oper.wp P oj a w K' Q)
    (hl : ∀ K' : Act → World → Prop, Shut (∀ a w, S w → wpT P md ops Q S n k fuel (listed.setIfInBounds l true) a w → K' a w) → Oper.wp P ol a w K' Q) : wpT P md ops Q S n k (fuel + 1) listed a w := fun hc => by
  refine ⟨by rw [hr]; simp, fun x hx => ?_⟩
  have hx' := hx
  rw [hr] at hx
  rcases List.mem_cons.1 hx with rfl | hx
  · refine wpOp_step hoi (fun K' hK => ?_)
    rw [if_pos hwi]
    exact hi K' (fun a' w' h1 h2 => hK _ _ ⟨h1, h2 (hc.add hx')⟩)
  · rcases List.mem_cons.1 hx with rfl | hx
    · refine wpOp_step hoj (fun K' hK => ?_)
      rw [if_pos hwj]
      exact hj K' (fun a' w' h1 h2 => hK _ _ ⟨h1, h2 (hc.add hx')⟩)
    · obtain rfl := List.mem_singleton.1 hx
      refine wpOp_step hol (fun K' hK => ?_)
      rw [if_pos hwl]
      exact hl K' (fun a' w' h1 h2 => hK _ _ ⟨h1, h2 (hc.add hx')⟩)
end
/-- Behind the region. -/
def HelpM (R : Nat) (h : Int) (w : World) (a' : Act) (y : World) : Prop :=
  ∃ (N S V : Nat) (u0 u1 u3 u4 u5 u6 u7 : Value), a' = { tmps := #[u0, u1, .pointer (some ⟨R, 0, none⟩), u3, u4, u5, u6, u7], defers := [] } ∧ y.heap[R]? = some (.cells #[.int .i64 8, .int .i64 2, .slice (some ⟨N + 3, 0, none⟩) 2 2, .slice (some ⟨N + 13, 0, none⟩) 4 4, .int .i64 h, .slice (some ⟨S, 0, none⟩) 4 4, .slice (some ⟨V, 0, none⟩) 4 4] 30 (0, 0)) ∧
    HelpS w.heap.size N S V baseRO nil4 nil4 y ∧ Ext w y

theorem lies_only {N n : Nat} {os : List RO} {w w' : World} (l : Lies N os w) (h : Only n w w') (hn : n < N ∨ N + os.length ≤ n) : Lies N os w' := by
  refine ⟨fun i x hx => ?_, l.2⟩
  have hi : i < os.length := by
    apply Decidable.byContradiction
    intro hc
    rw [List.getElem?_eq_none (by simp; omega)] at hx; cases hx
  exact h.blk (l.1 i x hx) (by omega)
set_option maxRecDepth 100000 in
set_option maxHeartbeats 8000000 in
theorem help_any (w : World) (h : Int) : Calls Try.prog 6 #[.int .i64 h] w fun e w' => ∃ N S V, e = .returned (helpV N S V h) ∧ HelpS w.heap.size N S V baseRO nil4 nil4 w' ∧ Ext w w' := by
  go_enter Try.func6, Try.ntmps6
  go_upto_region 1 with (fail)
  refine wp_meetq (HelpM w.heap.size h w) ?_ ?_
  · refine wp_forget (fun v => Ext w v ∧ v.heap[w.heap.size]? = some zero7) ⟨(by repeat (first | exact Ext.refl _ | assumption | refine Ext.more ?_ _ | refine Ext.drew ?_ | refine Ext.drewN ?_ _ | refine Ext.alloc ?_ _ | refine Ext.setCell ?_ (by simp; try omega) _ | refine Ext.trans ?_ (by assumption))), heap_alloc_new w _⟩ ?_
    rintro v ⟨hx, hR⟩
    have HRL := hid (lt_of_block hR)
    have HX := hid (hx.drew)
    have HRV := hid (fun u (hu : Ext v.drew u) => block_ext hu (show v.drew.heap[w.heap.size]? = some zero7 from hR))
    clear hR hx
    have e1 := mkStreams
    have e2 := mkArrivals
    refine wp_region_T 5 1 (fun _ => True) (by kernel_rfl) (by kernel_rfl) ?_
    have HRL' : Hid (w.heap.size < v.drew.heap.size) := HRL.out
    clear HRL
    have HRL := HRL'
    clear HRL'
    generalize v.drew = v0 at *
    have HX0 := hid (Ext.refl v0)
    have HR0 := hid (HRV.out v0 HX0.out)
    have HSS : True := trivial
    refine wpT_take 1 (v := ?v54) rfl (by kernel_rfl) (by kernel_rfl) (by kernel_rfl) (by kernel_rfl) (by intro _ _ _ h; first | exact h | (obtain ⟨h, _⟩ := h; cases h)) (by rfl) HSS ?hy54 ?_
    case hy54 => (intro u hu; go_simp; first | done | (with_reducible rfl))
    (try simp only [Act.put, List.setIfInBounds_toArray, List.set_cons_zero, List.set_cons_succ])
    clear HSS
    refine wpT_three 0 2 3 rfl rfl rfl (by kernel_rfl) (by rfl) (by rfl) (by rfl) (fun K' hK => ?_) (fun K' hK => ?_) (fun K' hK => ?_)
    · go_simp
      refine (base_to _).mono ?_
      rintro e v1 ⟨N, rfl, hN, hl, hx, hs⟩
      have HX1 := hid (HX0.out.trans hx)
      have HLN := hid hl
      have HN := hid (And.intro hN.out hs)
      clear hN hl hx hs
      have HR1 := hid (HRV.out v1 HX1.out)
      refine hK.out _ _ trivial ?_
      clear hK K' HR0
      (try simp only [Act.put, List.setIfInBounds_toArray, List.set_cons_zero, List.set_cons_succ])
      refine wpT_two 2 3 rfl rfl (by kernel_rfl) (by rfl) (by rfl) (fun K' hK => ?_) (fun K' hK => ?_)
      · go_simp
        have hx := Ext.alloc (Ext.refl v1) (.cells #[.slice none 0 0, .slice none 0 0, .slice none 0 0, .slice none 0 0] 35 (0, 0))
        have HX2 := hid (HX1.out.trans hx)
        have HS2 := hid (heap_alloc_new v1 (.cells #[.slice none 0 0, .slice none 0 0, .slice none 0 0, .slice none 0 0] 35 (0, 0)))
        obtain ⟨S, hSe⟩ : ∃ z, z = v1.heap.size := ⟨_, rfl⟩
        have HSN : Hid (S = v1.heap.size ∧ (v1.alloc (.cells #[.slice none 0 0, .slice none 0 0, .slice none 0 0, .slice none 0 0] 35 (0, 0))).heap.size = S + 1) := ⟨hSe, by rw [World.size_alloc, hSe]⟩
        rw [← hSe] at HS2
        have HLN' := hid (HLN.out.ext hx)
        clear HLN
        have HLN := HLN'
        clear HLN'
        rw [← hSe]
        generalize v1.alloc (.cells #[.slice none 0 0, .slice none 0 0, .slice none 0 0, .slice none 0 0] 35 (0, 0)) = v2 at *
        clear hx hSe
        have HR2 := hid (HRV.out v2 HX2.out)
        refine hK.out _ _ trivial ?_
        clear hK K' HR1
        (try simp only [Act.put, List.setIfInBounds_toArray, List.set_cons_zero, List.set_cons_succ])
        refine wpT_one 3 rfl (by kernel_rfl) (by rfl) (fun K' hK => ?_)
        go_simp
        have hx := Ext.alloc (Ext.refl v2) (.cells #[.slice none 0 0, .slice none 0 0, .slice none 0 0, .slice none 0 0] 36 (0, 0))
        have HX3 := hid (HX2.out.trans hx)
        have HV3 := hid (heap_alloc_new v2 (.cells #[.slice none 0 0, .slice none 0 0, .slice none 0 0, .slice none 0 0] 36 (0, 0)))
        obtain ⟨V, hVe⟩ : ∃ z, z = v2.heap.size := ⟨_, rfl⟩
        have HVN : Hid (V = v2.heap.size ∧ (v2.alloc (.cells #[.slice none 0 0, .slice none 0 0, .slice none 0 0, .slice none 0 0] 36 (0, 0))).heap.size = V + 1) := ⟨hVe, by rw [World.size_alloc, hVe]⟩
        rw [← hVe] at HV3
        have HLN' := hid (HLN.out.ext hx)
        clear HLN
        have HLN := HLN'
        clear HLN'
        have HS3 := hid (block_ext hx HS2.out)
        clear HS2
        rw [← hVe]
        generalize v2.alloc (.cells #[.slice none 0 0, .slice none 0 0, .slice none 0 0, .slice none 0 0] 36 (0, 0)) = v3 at *
        clear hx hVe
        have HR3 := hid (HRV.out v3 HX3.out)
        refine hK.out _ _ trivial ?_
        clear hK K' HR2
        (try simp only [Act.put, List.setIfInBounds_toArray, List.set_cons_zero, List.set_cons_succ])
        have HSS : True := trivial
        refine wpT_take 4 (v := ?v55) rfl (by kernel_rfl) (by kernel_rfl) (by kernel_rfl) (by kernel_rfl) (by intro _ _ _ h; first | exact h | (obtain ⟨h, _⟩ := h; cases h)) (by rfl) HSS ?hy55 ?_
        case hy55 => (intro u hu; go_simp; first | done | (with_reducible rfl))
        (try simp only [Act.put, List.setIfInBounds_toArray, List.set_cons_zero, List.set_cons_succ])
        clear HSS
        refine wpT_done (by kernel_rfl) ?_
        refine wpAny_one 5 rfl (by kernel_rfl) (by rfl) (fun K' hK => ?_)
        have m0 := blk_cell HR3.out 0
        have f0 := blk_free HR3.out 0
        have m1 := blk_cell HR3.out 1
        have f1 := blk_free HR3.out 1
        have m2 := blk_cell HR3.out 2
        have f2 := blk_free HR3.out 2
        have m3 := blk_cell HR3.out 3
        have f3 := blk_free HR3.out 3
        have m4 := blk_cell HR3.out 4
        have f4 := blk_free HR3.out 4
        have m5 := blk_cell HR3.out 5
        have f5 := blk_free HR3.out 5
        have m6 := blk_cell HR3.out 6
        have f6 := blk_free HR3.out 6
        go_simp
        refine hK.out _ _ ?_
        (try simp only [Act.put, List.setIfInBounds_toArray, List.set_cons_zero, List.set_cons_succ])
        refine wpAny_done (by kernel_rfl) ?_ _
        have hz := HX1.out.size
        have hz2 := HX2.out.size
        have hz3 := HX3.out.size
        have hn := HN.out
        have hsn := HSN.out
        have hvn := HVN.out
        have hrl := HRL.out
        have hO : ∀ a0 a1 a2 a3 a4 a5 a6, Only w.heap.size v3 (((((((v3.setCell ⟨w.heap.size, 0, none⟩ a0).setCell ⟨w.heap.size, 1, none⟩ a1).setCell ⟨w.heap.size, 2, none⟩ a2).setCell ⟨w.heap.size, 3, none⟩ a3).setCell ⟨w.heap.size, 4, none⟩ a4).setCell ⟨w.heap.size, 5, none⟩ a5).setCell ⟨w.heap.size, 6, none⟩ a6) := fun _ _ _ _ _ _ _ => (((((((Only.refl _ _).setCell _).setCell _).setCell _).setCell _).setCell _).setCell _).setCell _
        exact ⟨N, S, V, _, _, _, _, _, _, _, rfl, sets7 HR3.out _ _ _ _ _ _ _, ⟨lies_only HLN.out (hO _ _ _ _ _ _ _) (by omega), (hO _ _ _ _ _ _ _).blk HS3.out (by omega), (hO _ _ _ _ _ _ _).blk HV3.out (by omega), by omega, by omega, by omega, by omega, by simp only [baseRO, List.length_cons, List.length_nil]; omega, by simp only [baseRO, List.length_cons, List.length_nil]; omega⟩, ⟨HX.out.below.trans (HX3.out.below.mono HX.out.size) |>.trans ((hO _ _ _ _ _ _ _).below (Nat.le_refl _) (by omega))⟩⟩
      · go_simp
        have hx := Ext.alloc (Ext.refl v1) (.cells #[.slice none 0 0, .slice none 0 0, .slice none 0 0, .slice none 0 0] 36 (0, 0))
        have HX2 := hid (HX1.out.trans hx)
        have HV2 := hid (heap_alloc_new v1 (.cells #[.slice none 0 0, .slice none 0 0, .slice none 0 0, .slice none 0 0] 36 (0, 0)))
        obtain ⟨V, hVe⟩ : ∃ z, z = v1.heap.size := ⟨_, rfl⟩
        have HVN : Hid (V = v1.heap.size ∧ (v1.alloc (.cells #[.slice none 0 0, .slice none 0 0, .slice none 0 0, .slice none 0 0] 36 (0, 0))).heap.size = V + 1) := ⟨hVe, by rw [World.size_alloc, hVe]⟩
        rw [← hVe] at HV2
        have HLN' := hid (HLN.out.ext hx)
        clear HLN
        have HLN := HLN'
        clear HLN'
        rw [← hVe]
        generalize v1.alloc (.cells #[.slice none 0 0, .slice none 0 0, .slice none 0 0, .slice none 0 0] 36 (0, 0)) = v2 at *
        clear hx hVe
        have HR2 := hid (HRV.out v2 HX2.out)
        refine hK.out _ _ trivial ?_
        clear hK K' HR1
        (try simp only [Act.put, List.setIfInBounds_toArray, List.set_cons_zero, List.set_cons_succ])
        refine wpT_one 2 rfl (by kernel_rfl) (by rfl) (fun K' hK => ?_)
        go_simp
        have hx := Ext.alloc (Ext.refl v2) (.cells #[.slice none 0 0, .slice none 0 0, .slice none 0 0, .slice none 0 0] 35 (0, 0))
        have HX3 := hid (HX2.out.trans hx)
        have HS3 := hid (heap_alloc_new v2 (.cells #[.slice none 0 0, .slice none 0 0, .slice none 0 0, .slice none 0 0] 35 (0, 0)))
        obtain ⟨S, hSe⟩ : ∃ z, z = v2.heap.size := ⟨_, rfl⟩
        have HSN : Hid (S = v2.heap.size ∧ (v2.alloc (.cells #[.slice none 0 0, .slice none 0 0, .slice none 0 0, .slice none 0 0] 35 (0, 0))).heap.size = S + 1) := ⟨hSe, by rw [World.size_alloc, hSe]⟩
        rw [← hSe] at HS3
        have HLN' := hid (HLN.out.ext hx)
        clear HLN
        have HLN := HLN'
        clear HLN'
        have HV3 := hid (block_ext hx HV2.out)
        clear HV2
        rw [← hSe]
        generalize v2.alloc (.cells #[.slice none 0 0, .slice none 0 0, .slice none 0 0, .slice none 0 0] 35 (0, 0)) = v3 at *
        clear hx hSe
        have HR3 := hid (HRV.out v3 HX3.out)
        refine hK.out _ _ trivial ?_
        clear hK K' HR2
        (try simp only [Act.put, List.setIfInBounds_toArray, List.set_cons_zero, List.set_cons_succ])
        have HSS : True := trivial
        refine wpT_take 4 (v := ?v56) rfl (by kernel_rfl) (by kernel_rfl) (by kernel_rfl) (by kernel_rfl) (by intro _ _ _ h; first | exact h | (obtain ⟨h, _⟩ := h; cases h)) (by rfl) HSS ?hy56 ?_
        case hy56 => (intro u hu; go_simp; first | done | (with_reducible rfl))
        (try simp only [Act.put, List.setIfInBounds_toArray, List.set_cons_zero, List.set_cons_succ])
        clear HSS
        refine wpT_done (by kernel_rfl) ?_
        refine wpAny_one 5 rfl (by kernel_rfl) (by rfl) (fun K' hK => ?_)
        have m0 := blk_cell HR3.out 0
        have f0 := blk_free HR3.out 0
        have m1 := blk_cell HR3.out 1
        have f1 := blk_free HR3.out 1
        have m2 := blk_cell HR3.out 2
        have f2 := blk_free HR3.out 2
        have m3 := blk_cell HR3.out 3
        have f3 := blk_free HR3.out 3
        have m4 := blk_cell HR3.out 4
        have f4 := blk_free HR3.out 4
        have m5 := blk_cell HR3.out 5
        have f5 := blk_free HR3.out 5
        have m6 := blk_cell HR3.out 6
        have f6 := blk_free HR3.out 6
        go_simp
        refine hK.out _ _ ?_
        (try simp only [Act.put, List.setIfInBounds_toArray, List.set_cons_zero, List.set_cons_succ])
        refine wpAny_done (by kernel_rfl) ?_ _
        have hz := HX1.out.size
        have hz2 := HX2.out.size
        have hz3 := HX3.out.size
        have hn := HN.out
        have hsn := HSN.out
        have hvn := HVN.out
        have hrl := HRL.out
        have hO : ∀ a0 a1 a2 a3 a4 a5 a6, Only w.heap.size v3 (((((((v3.setCell ⟨w.heap.size, 0, none⟩ a0).setCell ⟨w.heap.size, 1, none⟩ a1).setCell ⟨w.heap.size, 2, none⟩ a2).setCell ⟨w.heap.size, 3, none⟩ a3).setCell ⟨w.heap.size, 4, none⟩ a4).setCell ⟨w.heap.size, 5, none⟩ a5).setCell ⟨w.heap.size, 6, none⟩ a6) := fun _ _ _ _ _ _ _ => (((((((Only.refl _ _).setCell _).setCell _).setCell _).setCell _).setCell _).setCell _).setCell _
        exact ⟨N, S, V, _, _, _, _, _, _, _, rfl, sets7 HR3.out _ _ _ _ _ _ _, ⟨lies_only HLN.out (hO _ _ _ _ _ _ _) (by omega), (hO _ _ _ _ _ _ _).blk HS3.out (by omega), (hO _ _ _ _ _ _ _).blk HV3.out (by omega), by omega, by omega, by omega, by omega, by simp only [baseRO, List.length_cons, List.length_nil]; omega, by simp only [baseRO, List.length_cons, List.length_nil]; omega⟩, ⟨HX.out.below.trans (HX3.out.below.mono HX.out.size) |>.trans ((hO _ _ _ _ _ _ _).below (Nat.le_refl _) (by omega))⟩⟩
    · go_simp
      have hx := Ext.alloc (Ext.refl v0) (.cells #[.slice none 0 0, .slice none 0 0, .slice none 0 0, .slice none 0 0] 35 (0, 0))
      have HX1 := hid (HX0.out.trans hx)
      have HS1 := hid (heap_alloc_new v0 (.cells #[.slice none 0 0, .slice none 0 0, .slice none 0 0, .slice none 0 0] 35 (0, 0)))
      obtain ⟨S, hSe⟩ : ∃ z, z = v0.heap.size := ⟨_, rfl⟩
      have HSN : Hid (S = v0.heap.size ∧ (v0.alloc (.cells #[.slice none 0 0, .slice none 0 0, .slice none 0 0, .slice none 0 0] 35 (0, 0))).heap.size = S + 1) := ⟨hSe, by rw [World.size_alloc, hSe]⟩
      rw [← hSe] at HS1
      rw [← hSe]
      generalize v0.alloc (.cells #[.slice none 0 0, .slice none 0 0, .slice none 0 0, .slice none 0 0] 35 (0, 0)) = v1 at *
      clear hx hSe
      have HR1 := hid (HRV.out v1 HX1.out)
      refine hK.out _ _ trivial ?_
      clear hK K' HR0
      (try simp only [Act.put, List.setIfInBounds_toArray, List.set_cons_zero, List.set_cons_succ])
      refine wpT_two 0 3 rfl rfl (by kernel_rfl) (by rfl) (by rfl) (fun K' hK => ?_) (fun K' hK => ?_)
      · go_simp
        refine (base_to _).mono ?_
        rintro e v2 ⟨N, rfl, hN, hl, hx, hs⟩
        have HX2 := hid (HX1.out.trans hx)
        have HLN := hid hl
        have HN := hid (And.intro hN.out hs)
        have HS2 := hid (block_ext hx HS1.out)
        clear HS1
        clear hN hl hx hs
        have HR2 := hid (HRV.out v2 HX2.out)
        refine hK.out _ _ trivial ?_
        clear hK K' HR1
        (try simp only [Act.put, List.setIfInBounds_toArray, List.set_cons_zero, List.set_cons_succ])
        refine wpT_one 3 rfl (by kernel_rfl) (by rfl) (fun K' hK => ?_)
        go_simp
        have hx := Ext.alloc (Ext.refl v2) (.cells #[.slice none 0 0, .slice none 0 0, .slice none 0 0, .slice none 0 0] 36 (0, 0))
        have HX3 := hid (HX2.out.trans hx)
        have HV3 := hid (heap_alloc_new v2 (.cells #[.slice none 0 0, .slice none 0 0, .slice none 0 0, .slice none 0 0] 36 (0, 0)))
        obtain ⟨V, hVe⟩ : ∃ z, z = v2.heap.size := ⟨_, rfl⟩
        have HVN : Hid (V = v2.heap.size ∧ (v2.alloc (.cells #[.slice none 0 0, .slice none 0 0, .slice none 0 0, .slice none 0 0] 36 (0, 0))).heap.size = V + 1) := ⟨hVe, by rw [World.size_alloc, hVe]⟩
        rw [← hVe] at HV3
        have HS3 := hid (block_ext hx HS2.out)
        clear HS2
        have HLN' := hid (HLN.out.ext hx)
        clear HLN
        have HLN := HLN'
        clear HLN'
        rw [← hVe]
        generalize v2.alloc (.cells #[.slice none 0 0, .slice none 0 0, .slice none 0 0, .slice none 0 0] 36 (0, 0)) = v3 at *
        clear hx hVe
        have HR3 := hid (HRV.out v3 HX3.out)
        refine hK.out _ _ trivial ?_
        clear hK K' HR2
        (try simp only [Act.put, List.setIfInBounds_toArray, List.set_cons_zero, List.set_cons_succ])
        have HSS : True := trivial
        refine wpT_take 4 (v := ?v57) rfl (by kernel_rfl) (by kernel_rfl) (by kernel_rfl) (by kernel_rfl) (by intro _ _ _ h; first | exact h | (obtain ⟨h, _⟩ := h; cases h)) (by rfl) HSS ?hy57 ?_
        case hy57 => (intro u hu; go_simp; first | done | (with_reducible rfl))
        (try simp only [Act.put, List.setIfInBounds_toArray, List.set_cons_zero, List.set_cons_succ])
        clear HSS
        refine wpT_done (by kernel_rfl) ?_
        refine wpAny_one 5 rfl (by kernel_rfl) (by rfl) (fun K' hK => ?_)
        have m0 := blk_cell HR3.out 0
        have f0 := blk_free HR3.out 0
        have m1 := blk_cell HR3.out 1
        have f1 := blk_free HR3.out 1
        have m2 := blk_cell HR3.out 2
        have f2 := blk_free HR3.out 2
        have m3 := blk_cell HR3.out 3
        have f3 := blk_free HR3.out 3
        have m4 := blk_cell HR3.out 4
        have f4 := blk_free HR3.out 4
        have m5 := blk_cell HR3.out 5
        have f5 := blk_free HR3.out 5
        have m6 := blk_cell HR3.out 6
        have f6 := blk_free HR3.out 6
        go_simp
        refine hK.out _ _ ?_
        (try simp only [Act.put, List.setIfInBounds_toArray, List.set_cons_zero, List.set_cons_succ])
        refine wpAny_done (by kernel_rfl) ?_ _
        have hz := HX1.out.size
        have hz2 := HX2.out.size
        have hz3 := HX3.out.size
        have hn := HN.out
        have hsn := HSN.out
        have hvn := HVN.out
        have hrl := HRL.out
        have hO : ∀ a0 a1 a2 a3 a4 a5 a6, Only w.heap.size v3 (((((((v3.setCell ⟨w.heap.size, 0, none⟩ a0).setCell ⟨w.heap.size, 1, none⟩ a1).setCell ⟨w.heap.size, 2, none⟩ a2).setCell ⟨w.heap.size, 3, none⟩ a3).setCell ⟨w.heap.size, 4, none⟩ a4).setCell ⟨w.heap.size, 5, none⟩ a5).setCell ⟨w.heap.size, 6, none⟩ a6) := fun _ _ _ _ _ _ _ => (((((((Only.refl _ _).setCell _).setCell _).setCell _).setCell _).setCell _).setCell _).setCell _
        exact ⟨N, S, V, _, _, _, _, _, _, _, rfl, sets7 HR3.out _ _ _ _ _ _ _, ⟨lies_only HLN.out (hO _ _ _ _ _ _ _) (by omega), (hO _ _ _ _ _ _ _).blk HS3.out (by omega), (hO _ _ _ _ _ _ _).blk HV3.out (by omega), by omega, by omega, by omega, by omega, by simp only [baseRO, List.length_cons, List.length_nil]; omega, by simp only [baseRO, List.length_cons, List.length_nil]; omega⟩, ⟨HX.out.below.trans (HX3.out.below.mono HX.out.size) |>.trans ((hO _ _ _ _ _ _ _).below (Nat.le_refl _) (by omega))⟩⟩
      · go_simp
        have hx := Ext.alloc (Ext.refl v1) (.cells #[.slice none 0 0, .slice none 0 0, .slice none 0 0, .slice none 0 0] 36 (0, 0))
        have HX2 := hid (HX1.out.trans hx)
        have HV2 := hid (heap_alloc_new v1 (.cells #[.slice none 0 0, .slice none 0 0, .slice none 0 0, .slice none 0 0] 36 (0, 0)))
        obtain ⟨V, hVe⟩ : ∃ z, z = v1.heap.size := ⟨_, rfl⟩
        have HVN : Hid (V = v1.heap.size ∧ (v1.alloc (.cells #[.slice none 0 0, .slice none 0 0, .slice none 0 0, .slice none 0 0] 36 (0, 0))).heap.size = V + 1) := ⟨hVe, by rw [World.size_alloc, hVe]⟩
        rw [← hVe] at HV2
        have HS2 := hid (block_ext hx HS1.out)
        clear HS1
        rw [← hVe]
        generalize v1.alloc (.cells #[.slice none 0 0, .slice none 0 0, .slice none 0 0, .slice none 0 0] 36 (0, 0)) = v2 at *
        clear hx hVe
        have HR2 := hid (HRV.out v2 HX2.out)
        refine hK.out _ _ trivial ?_
        clear hK K' HR1
        (try simp only [Act.put, List.setIfInBounds_toArray, List.set_cons_zero, List.set_cons_succ])
        refine wpT_one 0 rfl (by kernel_rfl) (by rfl) (fun K' hK => ?_)
        go_simp
        refine (base_to _).mono ?_
        rintro e v3 ⟨N, rfl, hN, hl, hx, hs⟩
        have HX3 := hid (HX2.out.trans hx)
        have HLN := hid hl
        have HN := hid (And.intro hN.out hs)
        have HS3 := hid (block_ext hx HS2.out)
        clear HS2
        have HV3 := hid (block_ext hx HV2.out)
        clear HV2
        clear hN hl hx hs
        have HR3 := hid (HRV.out v3 HX3.out)
        refine hK.out _ _ trivial ?_
        clear hK K' HR2
        (try simp only [Act.put, List.setIfInBounds_toArray, List.set_cons_zero, List.set_cons_succ])
        have HSS : True := trivial
        refine wpT_take 4 (v := ?v58) rfl (by kernel_rfl) (by kernel_rfl) (by kernel_rfl) (by kernel_rfl) (by intro _ _ _ h; first | exact h | (obtain ⟨h, _⟩ := h; cases h)) (by rfl) HSS ?hy58 ?_
        case hy58 => (intro u hu; go_simp; first | done | (with_reducible rfl))
        (try simp only [Act.put, List.setIfInBounds_toArray, List.set_cons_zero, List.set_cons_succ])
        clear HSS
        refine wpT_done (by kernel_rfl) ?_
        refine wpAny_one 5 rfl (by kernel_rfl) (by rfl) (fun K' hK => ?_)
        have m0 := blk_cell HR3.out 0
        have f0 := blk_free HR3.out 0
        have m1 := blk_cell HR3.out 1
        have f1 := blk_free HR3.out 1
        have m2 := blk_cell HR3.out 2
        have f2 := blk_free HR3.out 2
        have m3 := blk_cell HR3.out 3
        have f3 := blk_free HR3.out 3
        have m4 := blk_cell HR3.out 4
        have f4 := blk_free HR3.out 4
        have m5 := blk_cell HR3.out 5
        have f5 := blk_free HR3.out 5
        have m6 := blk_cell HR3.out 6
        have f6 := blk_free HR3.out 6
        go_simp
        refine hK.out _ _ ?_
        (try simp only [Act.put, List.setIfInBounds_toArray, List.set_cons_zero, List.set_cons_succ])
        refine wpAny_done (by kernel_rfl) ?_ _
        have hz := HX1.out.size
        have hz2 := HX2.out.size
        have hz3 := HX3.out.size
        have hn := HN.out
        have hsn := HSN.out
        have hvn := HVN.out
        have hrl := HRL.out
        have hO : ∀ a0 a1 a2 a3 a4 a5 a6, Only w.heap.size v3 (((((((v3.setCell ⟨w.heap.size, 0, none⟩ a0).setCell ⟨w.heap.size, 1, none⟩ a1).setCell ⟨w.heap.size, 2, none⟩ a2).setCell ⟨w.heap.size, 3, none⟩ a3).setCell ⟨w.heap.size, 4, none⟩ a4).setCell ⟨w.heap.size, 5, none⟩ a5).setCell ⟨w.heap.size, 6, none⟩ a6) := fun _ _ _ _ _ _ _ => (((((((Only.refl _ _).setCell _).setCell _).setCell _).setCell _).setCell _).setCell _).setCell _
        exact ⟨N, S, V, _, _, _, _, _, _, _, rfl, sets7 HR3.out _ _ _ _ _ _ _, ⟨lies_only HLN.out (hO _ _ _ _ _ _ _) (by omega), (hO _ _ _ _ _ _ _).blk HS3.out (by omega), (hO _ _ _ _ _ _ _).blk HV3.out (by omega), by omega, by omega, by omega, by omega, by simp only [baseRO, List.length_cons, List.length_nil]; omega, by simp only [baseRO, List.length_cons, List.length_nil]; omega⟩, ⟨HX.out.below.trans (HX3.out.below.mono HX.out.size) |>.trans ((hO _ _ _ _ _ _ _).below (Nat.le_refl _) (by omega))⟩⟩
    · go_simp
      have hx := Ext.alloc (Ext.refl v0) (.cells #[.slice none 0 0, .slice none 0 0, .slice none 0 0, .slice none 0 0] 36 (0, 0))
      have HX1 := hid (HX0.out.trans hx)
      have HV1 := hid (heap_alloc_new v0 (.cells #[.slice none 0 0, .slice none 0 0, .slice none 0 0, .slice none 0 0] 36 (0, 0)))
      obtain ⟨V, hVe⟩ : ∃ z, z = v0.heap.size := ⟨_, rfl⟩
      have HVN : Hid (V = v0.heap.size ∧ (v0.alloc (.cells #[.slice none 0 0, .slice none 0 0, .slice none 0 0, .slice none 0 0] 36 (0, 0))).heap.size = V + 1) := ⟨hVe, by rw [World.size_alloc, hVe]⟩
      rw [← hVe] at HV1
      rw [← hVe]
      generalize v0.alloc (.cells #[.slice none 0 0, .slice none 0 0, .slice none 0 0, .slice none 0 0] 36 (0, 0)) = v1 at *
      clear hx hVe
      have HR1 := hid (HRV.out v1 HX1.out)
      refine hK.out _ _ trivial ?_
      clear hK K' HR0
      (try simp only [Act.put, List.setIfInBounds_toArray, List.set_cons_zero, List.set_cons_succ])
      refine wpT_two 0 2 rfl rfl (by kernel_rfl) (by rfl) (by rfl) (fun K' hK => ?_) (fun K' hK => ?_)
      · go_simp
        refine (base_to _).mono ?_
        rintro e v2 ⟨N, rfl, hN, hl, hx, hs⟩
        have HX2 := hid (HX1.out.trans hx)
        have HLN := hid hl
        have HN := hid (And.intro hN.out hs)
        have HV2 := hid (block_ext hx HV1.out)
        clear HV1
        clear hN hl hx hs
        have HR2 := hid (HRV.out v2 HX2.out)
        refine hK.out _ _ trivial ?_
        clear hK K' HR1
        (try simp only [Act.put, List.setIfInBounds_toArray, List.set_cons_zero, List.set_cons_succ])
        refine wpT_one 2 rfl (by kernel_rfl) (by rfl) (fun K' hK => ?_)
        go_simp
        have hx := Ext.alloc (Ext.refl v2) (.cells #[.slice none 0 0, .slice none 0 0, .slice none 0 0, .slice none 0 0] 35 (0, 0))
        have HX3 := hid (HX2.out.trans hx)
        have HS3 := hid (heap_alloc_new v2 (.cells #[.slice none 0 0, .slice none 0 0, .slice none 0 0, .slice none 0 0] 35 (0, 0)))
        obtain ⟨S, hSe⟩ : ∃ z, z = v2.heap.size := ⟨_, rfl⟩
        have HSN : Hid (S = v2.heap.size ∧ (v2.alloc (.cells #[.slice none 0 0, .slice none 0 0, .slice none 0 0, .slice none 0 0] 35 (0, 0))).heap.size = S + 1) := ⟨hSe, by rw [World.size_alloc, hSe]⟩
        rw [← hSe] at HS3
        have HV3 := hid (block_ext hx HV2.out)
        clear HV2
        have HLN' := hid (HLN.out.ext hx)
        clear HLN
        have HLN := HLN'
        clear HLN'
        rw [← hSe]
        generalize v2.alloc (.cells #[.slice none 0 0, .slice none 0 0, .slice none 0 0, .slice none 0 0] 35 (0, 0)) = v3 at *
        clear hx hSe
        have HR3 := hid (HRV.out v3 HX3.out)
        refine hK.out _ _ trivial ?_
        clear hK K' HR2
        (try simp only [Act.put, List.setIfInBounds_toArray, List.set_cons_zero, List.set_cons_succ])
        have HSS : True := trivial
        refine wpT_take 4 (v := ?v59) rfl (by kernel_rfl) (by kernel_rfl) (by kernel_rfl) (by kernel_rfl) (by intro _ _ _ h; first | exact h | (obtain ⟨h, _⟩ := h; cases h)) (by rfl) HSS ?hy59 ?_
        case hy59 => (intro u hu; go_simp; first | done | (with_reducible rfl))
        (try simp only [Act.put, List.setIfInBounds_toArray, List.set_cons_zero, List.set_cons_succ])
        clear HSS
        refine wpT_done (by kernel_rfl) ?_
        refine wpAny_one 5 rfl (by kernel_rfl) (by rfl) (fun K' hK => ?_)
        have m0 := blk_cell HR3.out 0
        have f0 := blk_free HR3.out 0
        have m1 := blk_cell HR3.out 1
        have f1 := blk_free HR3.out 1
        have m2 := blk_cell HR3.out 2
        have f2 := blk_free HR3.out 2
        have m3 := blk_cell HR3.out 3
        have f3 := blk_free HR3.out 3
        have m4 := blk_cell HR3.out 4
        have f4 := blk_free HR3.out 4
        have m5 := blk_cell HR3.out 5
        have f5 := blk_free HR3.out 5
        have m6 := blk_cell HR3.out 6
        have f6 := blk_free HR3.out 6
        go_simp
        refine hK.out _ _ ?_
        (try simp only [Act.put, List.setIfInBounds_toArray, List.set_cons_zero, List.set_cons_succ])
        refine wpAny_done (by kernel_rfl) ?_ _
        have hz := HX1.out.size
        have hz2 := HX2.out.size
        have hz3 := HX3.out.size
        have hn := HN.out
        have hsn := HSN.out
        have hvn := HVN.out
        have hrl := HRL.out
        have hO : ∀ a0 a1 a2 a3 a4 a5 a6, Only w.heap.size v3 (((((((v3.setCell ⟨w.heap.size, 0, none⟩ a0).setCell ⟨w.heap.size, 1, none⟩ a1).setCell ⟨w.heap.size, 2, none⟩ a2).setCell ⟨w.heap.size, 3, none⟩ a3).setCell ⟨w.heap.size, 4, none⟩ a4).setCell ⟨w.heap.size, 5, none⟩ a5).setCell ⟨w.heap.size, 6, none⟩ a6) := fun _ _ _ _ _ _ _ => (((((((Only.refl _ _).setCell _).setCell _).setCell _).setCell _).setCell _).setCell _).setCell _
        exact ⟨N, S, V, _, _, _, _, _, _, _, rfl, sets7 HR3.out _ _ _ _ _ _ _, ⟨lies_only HLN.out (hO _ _ _ _ _ _ _) (by omega), (hO _ _ _ _ _ _ _).blk HS3.out (by omega), (hO _ _ _ _ _ _ _).blk HV3.out (by omega), by omega, by omega, by omega, by omega, by simp only [baseRO, List.length_cons, List.length_nil]; omega, by simp only [baseRO, List.length_cons, List.length_nil]; omega⟩, ⟨HX.out.below.trans (HX3.out.below.mono HX.out.size) |>.trans ((hO _ _ _ _ _ _ _).below (Nat.le_refl _) (by omega))⟩⟩
      · go_simp
        have hx := Ext.alloc (Ext.refl v1) (.cells #[.slice none 0 0, .slice none 0 0, .slice none 0 0, .slice none 0 0] 35 (0, 0))
        have HX2 := hid (HX1.out.trans hx)
        have HS2 := hid (heap_alloc_new v1 (.cells #[.slice none 0 0, .slice none 0 0, .slice none 0 0, .slice none 0 0] 35 (0, 0)))
        obtain ⟨S, hSe⟩ : ∃ z, z = v1.heap.size := ⟨_, rfl⟩
        have HSN : Hid (S = v1.heap.size ∧ (v1.alloc (.cells #[.slice none 0 0, .slice none 0 0, .slice none 0 0, .slice none 0 0] 35 (0, 0))).heap.size = S + 1) := ⟨hSe, by rw [World.size_alloc, hSe]⟩
        rw [← hSe] at HS2
        have HV2 := hid (block_ext hx HV1.out)
        clear HV1
        rw [← hSe]
        generalize v1.alloc (.cells #[.slice none 0 0, .slice none 0 0, .slice none 0 0, .slice none 0 0] 35 (0, 0)) = v2 at *
        clear hx hSe
        have HR2 := hid (HRV.out v2 HX2.out)
        refine hK.out _ _ trivial ?_
        clear hK K' HR1
        (try simp only [Act.put, List.setIfInBounds_toArray, List.set_cons_zero, List.set_cons_succ])
        refine wpT_one 0 rfl (by kernel_rfl) (by rfl) (fun K' hK => ?_)
        go_simp
        refine (base_to _).mono ?_
        rintro e v3 ⟨N, rfl, hN, hl, hx, hs⟩
        have HX3 := hid (HX2.out.trans hx)
        have HLN := hid hl
        have HN := hid (And.intro hN.out hs)
        have HV3 := hid (block_ext hx HV2.out)
        clear HV2
        have HS3 := hid (block_ext hx HS2.out)
        clear HS2
        clear hN hl hx hs
        have HR3 := hid (HRV.out v3 HX3.out)
        refine hK.out _ _ trivial ?_
        clear hK K' HR2
        (try simp only [Act.put, List.setIfInBounds_toArray, List.set_cons_zero, List.set_cons_succ])
        have HSS : True := trivial
        refine wpT_take 4 (v := ?v60) rfl (by kernel_rfl) (by kernel_rfl) (by kernel_rfl) (by kernel_rfl) (by intro _ _ _ h; first | exact h | (obtain ⟨h, _⟩ := h; cases h)) (by rfl) HSS ?hy60 ?_
        case hy60 => (intro u hu; go_simp; first | done | (with_reducible rfl))
        (try simp only [Act.put, List.setIfInBounds_toArray, List.set_cons_zero, List.set_cons_succ])
        clear HSS
        refine wpT_done (by kernel_rfl) ?_
        refine wpAny_one 5 rfl (by kernel_rfl) (by rfl) (fun K' hK => ?_)
        have m0 := blk_cell HR3.out 0
        have f0 := blk_free HR3.out 0
        have m1 := blk_cell HR3.out 1
        have f1 := blk_free HR3.out 1
        have m2 := blk_cell HR3.out 2
        have f2 := blk_free HR3.out 2
        have m3 := blk_cell HR3.out 3
        have f3 := blk_free HR3.out 3
        have m4 := blk_cell HR3.out 4
        have f4 := blk_free HR3.out 4
        have m5 := blk_cell HR3.out 5
        have f5 := blk_free HR3.out 5
        have m6 := blk_cell HR3.out 6
        have f6 := blk_free HR3.out 6
        go_simp
        refine hK.out _ _ ?_
        (try simp only [Act.put, List.setIfInBounds_toArray, List.set_cons_zero, List.set_cons_succ])
        refine wpAny_done (by kernel_rfl) ?_ _
        have hz := HX1.out.size
        have hz2 := HX2.out.size
        have hz3 := HX3.out.size
        have hn := HN.out
        have hsn := HSN.out
        have hvn := HVN.out
        have hrl := HRL.out
        have hO : ∀ a0 a1 a2 a3 a4 a5 a6, Only w.heap.size v3 (((((((v3.setCell ⟨w.heap.size, 0, none⟩ a0).setCell ⟨w.heap.size, 1, none⟩ a1).setCell ⟨w.heap.size, 2, none⟩ a2).setCell ⟨w.heap.size, 3, none⟩ a3).setCell ⟨w.heap.size, 4, none⟩ a4).setCell ⟨w.heap.size, 5, none⟩ a5).setCell ⟨w.heap.size, 6, none⟩ a6) := fun _ _ _ _ _ _ _ => (((((((Only.refl _ _).setCell _).setCell _).setCell _).setCell _).setCell _).setCell _).setCell _
        exact ⟨N, S, V, _, _, _, _, _, _, _, rfl, sets7 HR3.out _ _ _ _ _ _ _, ⟨lies_only HLN.out (hO _ _ _ _ _ _ _) (by omega), (hO _ _ _ _ _ _ _).blk HS3.out (by omega), (hO _ _ _ _ _ _ _).blk HV3.out (by omega), by omega, by omega, by omega, by omega, by simp only [baseRO, List.length_cons, List.length_nil]; omega, by simp only [baseRO, List.length_cons, List.length_nil]; omega⟩, ⟨HX.out.below.trans (HX3.out.below.mono HX.out.size) |>.trans ((hO _ _ _ _ _ _ _).below (Nat.le_refl _) (by omega))⟩⟩
  · refine fun a' y => ex_elim fun N => ex_elim fun S => ex_elim fun V => ex_elim fun u0 => ex_elim fun u1 => ex_elim fun u3 => ex_elim fun u4 => ex_elim fun u5 => ex_elim fun u6 => ex_elim fun u7 => ?_
    rintro ⟨rfl, hy, hH, hx⟩
    have m0 := blk_cell hy 0
    have m1 := blk_cell hy 1
    have m2 := blk_cell hy 2
    have m3 := blk_cell hy 3
    have m4 := blk_cell hy 4
    have m5 := blk_cell hy 5
    have m6 := blk_cell hy 6
    simp only [List.getElem?_toArray, List.getElem?_cons_zero, List.getElem?_cons_succ] at m0 m1 m2 m3 m4 m5 m6
    go_wp2
    exact bodyPost_ret (v := helpV N S V h) (by simp [results, Try.results6, go_sem, m0, m1, m2, m3, m4, m5, m6]) rfl ⟨N, S, V, rfl, hH, hx⟩
end Go.Proofs.Ytbllibgddiiboaa
