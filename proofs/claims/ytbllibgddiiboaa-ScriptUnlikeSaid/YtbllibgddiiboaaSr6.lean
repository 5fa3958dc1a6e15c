/- The script's reader: the configuration. -/
import Derived.Test.YtbllibgddiiboaaSr5
namespace Go.Proofs.Ytbllibgddiiboaa
open Go.RowKit
set_option linter.unusedSimpArgs false

section
variable {P : Program} {ops : Array Oper} {Q : Exit → Act → World → Prop} {md : Region.Mode} {S : World → Prop}
/-- One of the two that may come up. -/
theorem wpT_two (i j : Nat) {n k : Nat} {oi oj : Oper} {fuel : Nat} {listed : Array Bool} {a : Act} {w : World} (hoi : ops[i]? = some oi) (hoj : ops[j]? = some oj) (hr : Region.ready md ops listed = [i, j]) (hwi : Region.wanted oi (yielded ops a.tmps) = true) (hwj : Region.wanted oj (yielded ops a.tmps) = true)
    (hi : ∀ K' : Act → World → Prop, Shut (∀ a w, S w → wpT P md ops Q S n k fuel (listed.setIfInBounds i true) a w → K' a w) → Oper.wp P oi a w K' Q)
    (hj : ∀ K' : Act → World → Prop, Shut (∀ a w, S w → wpT P md ops Q S n k fuel (listed.setIfInBounds j true) a w → K' a w) → Oper.wp P oj a w K' Q) : wpT P md ops Q S n k (fuel + 1) listed a w := fun hc => by
  refine ⟨by rw [hr]; simp, fun x hx => ?_⟩
  have hx' := hx
  rw [hr] at hx
  rcases List.mem_cons.1 hx with rfl | hx
  · refine wpOp_step hoi (fun K' hK => ?_)
    rw [if_pos hwi]
    exact hi K' (fun a' w' h1 h2 => hK _ _ ⟨h1, h2 (hc.add hx')⟩)
  · obtain rfl := List.mem_singleton.1 hx
    refine wpOp_step hoj (fun K' hK => ?_)
    rw [if_pos hwj]
    exact hj K' (fun a' w' h1 h2 => hK _ _ ⟨h1, h2 (hc.add hx')⟩)
end
/-- In however many ways it goes: what holds behind. -/
theorem wp_meet {P : Program} {c : Code} {a : Act} {w : World} {Q : Exit → Act → World → Prop} (M : Act → World → Prop) (first : c.wp P (fun e a w => e = .normal ∧ M a w) a w) (rest : ∀ a w, M a w → Q .normal a w) : c.wp P Q a w :=
  Code.wp_mono (fun e a w h => by obtain ⟨rfl, h⟩ := h; exact rest a w h) first
theorem heap_new2 (w : World) (o1 o2 : Obj) : ((w.alloc o1).alloc o2).heap[w.heap.size + 1]? = some o2 := by
  have := heap_alloc_new (w.alloc o1) o2
  rwa [World.size_alloc] at this
theorem sets4 {w : World} {n : Nat} {T : TypeId} {z0 z1 z2 z3 : Value} (h : w.heap[n]? = some (.cells #[z0, z1, z2, z3] T (0, 0))) (a0 a1 a2 a3 : Value) :
    ((((w.setCell ⟨n, 0, none⟩ a0).setCell ⟨n, 1, none⟩ a1).setCell ⟨n, 2, none⟩ a2).setCell ⟨n, 3, none⟩ a3).heap[n]? = some (.cells #[a0, a1, a2, a3] T (0, 0)) := by
  have := blk_set (blk_set (blk_set (blk_set h 0 a0) 1 a1) 2 a2) 3 a3
  simpa using this
theorem srCount_to {b c : Nat} {s s' : Rb} {x : Int} (e : cntP s = (x, s')) {w : World} (h : Sr b c s w) : Calls Try.prog 61 #[.pointer (some ⟨b, 0, none⟩)] w (Reads b c (.int .i64 x) s' w) := by
  have := srCount_any b c s w h
  rwa [e] at this
theorem confP_of {s s1 s2 s3 s4 s5 s6 : Rb} {x1 x2 x3 x4 : Int} {x5 : List (List Int)} {x6 : List Dom} (e1 : numP s = (x1, s1)) (e2 : numP s1 = (x2, s2)) (e3 : cntP s2 = (x3, s3)) (e4 : cntP s3 = (x4, s4)) (e5 : manyP (manyP numP x4.toNat) x3.toNat s4 = (x5, s5)) (e6 : manyP domP x4.toNat s5 = (x6, s6)) : confP s = (⟨x1, x2, x5, x6⟩, s6) := by
  simp only [confP, e1, e2, e3, e4, e5, e6]
def ReadsConf (b c : Nat) (q : Cnf × Rb) (w : World) (e : Ending) (w' : World) : Prop := ∃ pp cp pd cd, e = .returned (.agg #[.int .i64 q.1.frame, .int .i64 q.1.epoch, .slice pp q.1.plans.length cp, .slice pd q.1.doms.length cd]) ∧
  Rowed 48 1 ElR 0 w' (.slice pp q.1.plans.length cp) q.1.plans ∧ Rowed 54 10 ElD 0 w' (.slice pd q.1.doms.length cd) q.1.doms ∧ Sr b c q.2 w' ∧ Two b c w w'
abbrev confO (a b p d : Value) : Obj := .cells #[a, b, p, d] 26 (0, 0)

/-- Behind the first line: the configuration's variable at block C. -/
def ConfM1 (b c : Nat) (v0 : World) (A B : Nat) (x1 x2 : Int) (s2 : Rb) (a' : Act) (w' : World) : Prop :=
  ∃ (C : Nat) (u4 u5 u6 u7 u8 u9 u10 u11 u12 u13 u14 u15 u16 u17 u18 u19 u20 u21 u22 u23 u24 u25 u26 : Value), a' = { tmps := #[.pointer (some ⟨b, 0, none⟩), .pointer (some ⟨A, 0, none⟩), .pointer (some ⟨B, 0, none⟩), .pointer (some ⟨C, 0, none⟩), u4, u5, u6, u7, u8, u9, u10, u11, u12, u13, u14, u15, u16, u17, u18, u19, u20, u21, u22, u23, u24, u25, u26], defers := [] } ∧
    Sr b c s2 w' ∧ Two b c v0 w' ∧ w'.heap[C]? = some (confO (.int .i64 x1) (.int .i64 x2) (.slice none 0 0) (.slice none 0 0)) ∧ v0.heap.size ≤ C
/-- Behind the second: the counts; that of domains in a variable at block D. -/
def ConfM2 (b c : Nat) (v0 : World) (A B C : Nat) (x3 x4 : Int) (s4 : Rb) (a' : Act) (w' : World) : Prop :=
  ∃ (D : Nat) (u6 u7 u8 u9 u10 u11 u12 u13 u14 u15 u16 u17 u18 u19 u20 u21 u22 u23 u24 u25 u26 : Value), a' = { tmps := #[.pointer (some ⟨b, 0, none⟩), .pointer (some ⟨A, 0, none⟩), .pointer (some ⟨B, 0, none⟩), .pointer (some ⟨C, 0, none⟩), .int .i64 x3, .pointer (some ⟨D, 0, none⟩), u6, u7, u8, u9, u10, u11, u12, u13, u14, u15, u16, u17, u18, u19, u20, u21, u22, u23, u24, u25, u26], defers := [] } ∧
    Sr b c s4 w' ∧ Two b c v0 w' ∧ w'.heap[D]? = some (.cells #[.int .i64 x4] 3 (0, 0)) ∧ v0.heap.size ≤ D

/-- At the end. -/
def ConfM5 (w5 : World) (B : Nat) (o : Obj) (a' : Act) (y : World) : Prop :=
  ∃ (u0 u1 u3 u4 u5 u6 u7 u8 u9 u10 u11 u12 u13 u14 u15 u16 u17 u18 u19 u20 u21 u22 u23 u24 u25 u26 : Value), a' = { tmps := #[u0, u1, .pointer (some ⟨B, 0, none⟩), u3, u4, u5, u6, u7, u8, u9, u10, u11, u12, u13, u14, u15, u16, u17, u18, u19, u20, u21, u22, u23, u24, u25, u26], defers := [] } ∧ y.heap[B]? = some o ∧ Only B w5 y
/-- The variables of conf. -/
structure ConfF (b c A B C D : Nat) (s : Rb) (x1 x2 x4 : Int) (pv dv : Value) (w y : World) : Prop where
  sr : Sr b c s y
  two : Two b c w y
  cb : y.heap[C]? = some (confO (.int .i64 x1) (.int .i64 x2) pv dv)
  ab : y.heap[A]? = some (.cells #[.pointer (some ⟨b, 0, none⟩)] 102 (0, 0))
  bb : y.heap[B]? = some (confO (.int .i64 0) (.int .i64 0) (.slice none 0 0) (.slice none 0 0))
  db : y.heap[D]? = some (.cells #[.int .i64 x4] 3 (0, 0))
structure ConfN (b c A B C D : Nat) (w : World) : Prop where
  h1 : w.heap.size = A
  h2 : A < B
  h3 : B < C
  h4 : C < D
  h5 : b < A
  h6 : c < A
theorem ConfF.step {b c A B C D : Nat} {s s' : Rb} {x1 x2 x4 : Int} {pv dv : Value} {w y z : World} (f : ConfF b c A B C D s x1 x2 x4 pv dv w y) (n : ConfN b c A B C D w) (hs : Sr b c s' z) (ht : Two b c y z) : ConfF b c A B C D s' x1 x2 x4 pv dv w z :=
  have := n.h1; have := n.h2; have := n.h3; have := n.h4; have := n.h5; have := n.h6
  ⟨hs, f.two.trans ht, ht.blk f.cb (by omega) (by omega), ht.blk f.ab (by omega) (by omega), ht.blk f.bb (by omega) (by omega), ht.blk f.db (by omega) (by omega)⟩
theorem ConfF.putP {b c A B C D : Nat} {s : Rb} {x1 x2 x4 : Int} {pv dv : Value} {w y : World} (f : ConfF b c A B C D s x1 x2 x4 pv dv w y) (n : ConfN b c A B C D w) (v : Value) : ConfF b c A B C D s x1 x2 x4 v dv w (y.setCell ⟨C, 2, none⟩ v) :=
  have := n.h1; have := n.h2; have := n.h3; have := n.h4; have := n.h5; have := n.h6
  have hO : Only C y (y.setCell ⟨C, 2, none⟩ v) := (Only.refl _ _).setCell _
  ⟨f.sr.only hO (by omega) (by omega), f.two.only hO (by omega), blk_set f.cb 2 v, hO.blk f.ab (by omega), hO.blk f.bb (by omega), hO.blk f.db (by omega)⟩
theorem ConfF.putD {b c A B C D : Nat} {s : Rb} {x1 x2 x4 : Int} {pv dv : Value} {w y : World} (f : ConfF b c A B C D s x1 x2 x4 pv dv w y) (n : ConfN b c A B C D w) (v : Value) : ConfF b c A B C D s x1 x2 x4 pv v w (y.setCell ⟨C, 3, none⟩ v) :=
  have := n.h1; have := n.h2; have := n.h3; have := n.h4; have := n.h5; have := n.h6
  have hO : Only C y (y.setCell ⟨C, 3, none⟩ v) := (Only.refl _ _).setCell _
  ⟨f.sr.only hO (by omega) (by omega), f.two.only hO (by omega), blk_set f.cb 3 v, hO.blk f.ab (by omega), hO.blk f.bb (by omega), hO.blk f.db (by omega)⟩
theorem ConfF.keptC {b c A B C D : Nat} {s : Rb} {x1 x2 x4 : Int} {pv dv : Value} {w y : World} (f : ConfF b c A B C D s x1 x2 x4 pv dv w y) {good : List TypeId} (hg : 26 ∉ good) (j : Nat) (v : Value) : Kept good y (y.setCell ⟨C, j, none⟩ v) :=
  ((Only.refl C y).setCell (j := j) v).kept f.cb hg

set_option maxRecDepth 100000 in
set_option maxHeartbeats 4000000 in
theorem conf_any (b c : Nat) (s : Rb) (w : World) (h : Sr b c s w) : Calls Try.prog 40 #[.pointer (some ⟨b, 0, none⟩)] w (ReadsConf b c (confP s) w) := by
  have H := hid h
  clear h
  obtain ⟨x1, s1, e1⟩ : ∃ x t, numP s = (x, t) := ⟨_, _, rfl⟩
  obtain ⟨x2, s2, e2⟩ : ∃ x t, numP s1 = (x, t) := ⟨_, _, rfl⟩
  obtain ⟨x3, s3, e3⟩ : ∃ x t, cntP s2 = (x, t) := ⟨_, _, rfl⟩
  obtain ⟨x4, s4, e4⟩ : ∃ x t, cntP s3 = (x, t) := ⟨_, _, rfl⟩
  obtain ⟨x5, s5, e5⟩ : ∃ x t, manyP (manyP numP x4.toNat) x3.toNat s4 = (x, t) := ⟨_, _, rfl⟩
  obtain ⟨x6, s6, e6⟩ : ∃ x t, manyP domP x4.toNat s5 = (x, t) := ⟨_, _, rfl⟩
  have c3 : x3 ≤ 40000 := by have := cntP_le s2; rw [e3] at this; exact this
  have c4 : x4 ≤ 40000 := by have := cntP_le s3; rw [e4] at this; exact this
  have n4 : s4.wrong = false → 0 ≤ x4 := by have := @cnt_nonneg s3; rw [e4] at this; exact this
  have n3 : s4.wrong = false → 0 ≤ x3 := fun h => by
    have h1 := canon_cnt s3
    rw [e4] at h1
    have := @cnt_nonneg s2; rw [e3] at this; exact this (h1 h).1
  have n5 : s5.wrong = false → 0 ≤ x4 := fun h => n4 (by
    have := @manyP_right _ (manyP numP x4.toNat) x3.toNat s4
    rw [e5] at this; exact this h)
  rw [confP_of e1 e2 e3 e4 e5 e6]
  have E1 := hid e1
  have E2 := hid e2
  have E3 := hid e3
  have E4 := hid e4
  have E5 := hid e5
  have E6 := hid e6
  have HC := hid (And.intro c3 (And.intro c4 (And.intro n3 (And.intro n4 n5))))
  clear e1 e2 e3 e4 e5 e6 c3 c4 n3 n4 n5
  go_enter Try.func40, Try.ntmps40
  go_upto_region 1 with (fail)
  refine wp_forget (fun v => Sr b c s v ∧ Two b c w v ∧ v.heap[w.heap.size]? = some (.cells #[.pointer (some ⟨b, 0, none⟩)] 102 (0, 0)) ∧ v.heap[w.heap.size + 1]? = some (confO (.int .i64 0) (.int .i64 0) (.slice none 0 0) (.slice none 0 0))) ⟨H.out.ext (by repeat (first | exact Ext.refl _ | assumption | refine Ext.more ?_ _ | refine Ext.drew ?_ | refine Ext.drewN ?_ _ | refine Ext.alloc ?_ _ | refine Ext.setCell ?_ (by simp; try omega) _ | refine Ext.trans ?_ (by assumption))), Two.of_ext (by repeat (first | exact Ext.refl _ | assumption | refine Ext.more ?_ _ | refine Ext.drew ?_ | refine Ext.drewN ?_ _ | refine Ext.alloc ?_ _ | refine Ext.setCell ?_ (by simp; try omega) _ | refine Ext.trans ?_ (by assumption))), block_ext (Ext.alloc (Ext.refl _) _) (heap_alloc_new w _), heap_new2 w _ _⟩ ?_
  rintro v ⟨hs0, ht0, hA, hB⟩
  have HS0 := hid (hs0.ext (Ext.drew (Ext.refl v)))
  have HT0 := hid (ht0.ext (Ext.drew (Ext.refl v)))
  have HA : Hid (v.drew.heap[w.heap.size]? = some (.cells #[.pointer (some ⟨b, 0, none⟩)] 102 (0, 0))) := hA
  have HB : Hid (v.drew.heap[w.heap.size + 1]? = some (confO (.int .i64 0) (.int .i64 0) (.slice none 0 0) (.slice none 0 0))) := hB
  clear hs0 ht0 hA hB
  refine wp_meet (ConfM1 b c v.drew w.heap.size (w.heap.size + 1) x1 x2 s2) ?_ ?_
  · refine wp_region_T 6 1 (fun u => u.cell? ⟨w.heap.size, 0, none⟩ = some (.pointer (some ⟨b, 0, none⟩))) (by kernel_rfl) (by kernel_rfl) ?_
    generalize v.drew = v0 at *
    have HSS := blk_cell HA.out 0
    have HV0 := hid (Two.refl b c v0)
    have HL : Hid (w.heap.size < v0.heap.size ∧ b < w.heap.size ∧ c < w.heap.size) := ⟨lt_of_block HA.out, H.out.lt.1, H.out.lt.2⟩
    simp only [List.getElem?_toArray, List.getElem?_cons_zero] at HSS
    refine wpT_take 0 (v := ?v19) rfl (by kernel_rfl) (by kernel_rfl) (by kernel_rfl) (by kernel_rfl) (by intro _ _ _ h; first | exact h | (obtain ⟨h, _⟩ := h; cases h)) (by rfl) HSS ?hy19 ?_
    case hy19 => (intro u hu; go_simp; first | done | (with_reducible rfl))
    (try simp only [Act.put, List.setIfInBounds_toArray, List.set_cons_zero, List.set_cons_succ])
    refine wpT_take 2 (v := ?v20) rfl (by kernel_rfl) (by kernel_rfl) (by kernel_rfl) (by kernel_rfl) (by intro _ _ _ h; first | exact h | (obtain ⟨h, _⟩ := h; cases h)) (by rfl) HSS ?hy20 ?_
    case hy20 => (intro u hu; go_simp; first | done | (with_reducible rfl))
    (try simp only [Act.put, List.setIfInBounds_toArray, List.set_cons_zero, List.set_cons_succ])
    refine wpT_two 1 5 rfl rfl (by kernel_rfl) (by rfl) (by rfl) (fun K' hK => ?_) (fun K' hK => ?_)
    · go_simp
      refine (srNum_to E1.out HS0.out).mono ?_
      rintro e v1 ⟨rfl, hs, ht⟩
      have HS1 := hid hs
      have HV1 := hid (HV0.out.trans ht)
      have HX1 := hid (ht.cell HSS (by have := HL.out; simp; omega) (by have := HL.out; simp; omega))
      clear hs ht
      refine hK.out _ _ HX1.out ?_
      clear HSS hK K' HV0
      have HSS := HX1.out
      clear HX1
      (try simp only [Act.put, List.setIfInBounds_toArray, List.set_cons_zero, List.set_cons_succ])
      refine wpT_two 3 5 rfl rfl (by kernel_rfl) (by rfl) (by rfl) (fun K' hK => ?_) (fun K' hK => ?_)
      · go_simp
        refine (srNum_to E2.out HS1.out).mono ?_
        rintro e v2 ⟨rfl, hs, ht⟩
        have HS2 := hid hs
        have HV2 := hid (HV1.out.trans ht)
        have HX2 := hid (ht.cell HSS (by have := HL.out; simp; omega) (by have := HL.out; simp; omega))
        clear hs ht
        refine hK.out _ _ HX2.out ?_
        clear HSS hK K' HV1
        have HSS := HX2.out
        clear HX2
        (try simp only [Act.put, List.setIfInBounds_toArray, List.set_cons_zero, List.set_cons_succ])
        refine wpT_take 4 (v := ?v21) rfl (by kernel_rfl) (by kernel_rfl) (by kernel_rfl) (by kernel_rfl) (by intro _ _ _ h; first | exact h | (obtain ⟨h, _⟩ := h; cases h)) (by rfl) HSS ?hy21 ?_
        case hy21 => (intro u hu; go_simp; first | done | (with_reducible rfl))
        (try simp only [Act.put, List.setIfInBounds_toArray, List.set_cons_zero, List.set_cons_succ])
        refine wpT_one 5 rfl (by kernel_rfl) (by rfl) (fun K' hK => ?_)
        go_simp
        have HS3 := hid (HS2.out.ext (Ext.alloc (Ext.refl v2) (.cells #[.int .i64 0, .int .i64 0, .slice none 0 0, .slice none 0 0] 26 (0, 0))))
        have HV3 := hid (HV2.out.ext (Ext.alloc (Ext.refl v2) (.cells #[.int .i64 0, .int .i64 0, .slice none 0 0, .slice none 0 0] 26 (0, 0))))
        have HC3 := hid (heap_alloc_new v2 (.cells #[.int .i64 0, .int .i64 0, .slice none 0 0, .slice none 0 0] 26 (0, 0)))
        obtain ⟨C, hCe⟩ : ∃ C, C = v2.heap.size := ⟨_, rfl⟩
        have HG : Hid (v0.heap.size ≤ C) := by rw [hCe]; exact HV2.out.size
        have HX3 := hid (cell_alloc (.cells #[.int .i64 0, .int .i64 0, .slice none 0 0, .slice none 0 0] 26 (0, 0)) HSS)
        refine hK.out _ _ HX3.out ?_
        clear HSS hK K' HV2
        generalize v2.alloc (.cells #[.int .i64 0, .int .i64 0, .slice none 0 0, .slice none 0 0] 26 (0, 0)) = v3 at *
        rw [← hCe] at HC3 ⊢
        clear hCe
        have HSS := HX3.out
        clear HX3
        (try simp only [Act.put, List.setIfInBounds_toArray, List.set_cons_zero, List.set_cons_succ])
        refine wpT_done (by kernel_rfl) ?_
        refine wpAny_one 6 rfl (by kernel_rfl) (by rfl) (fun K' hK => ?_)
        have hn := HC3.out
        have k0 := blk_cell hn 0
        have k1 := blk_cell hn 1
        have k2 := blk_cell hn 2
        have k3 := blk_cell hn 3
        have f0 := blk_free hn 0
        have f1 := blk_free hn 1
        have f2 := blk_free hn 2
        have f3 := blk_free hn 3
        go_simp
        refine hK.out _ _ ?_
        (try simp only [Act.put, List.setIfInBounds_toArray, List.set_cons_zero, List.set_cons_succ])
        refine wpAny_done (by kernel_rfl) ?_ _
        have hO : Only C v3 ((((v3.setCell ⟨C, 0, none⟩ (.int .i64 x1)).setCell ⟨C, 1, none⟩ (.int .i64 x2)).setCell ⟨C, 2, none⟩ (.slice none 0 0)).setCell ⟨C, 3, none⟩ (.slice none 0 0)) := ((((Only.refl _ _).setCell _).setCell _).setCell _).setCell _
        exact ⟨rfl, C, _, _, _, _, _, _, _, _, _, _, _, _, _, _, _, _, _, _, _, _, _, _, _, rfl, HS3.out.only hO (by have := HG.out; have := HL.out; omega) (by have := HG.out; have := HL.out; omega), HV3.out.only hO HG.out, sets4 hn _ _ _ _, HG.out⟩
      · go_simp
        have HS2 := hid (HS1.out.ext (Ext.alloc (Ext.refl v1) (.cells #[.int .i64 0, .int .i64 0, .slice none 0 0, .slice none 0 0] 26 (0, 0))))
        have HV2 := hid (HV1.out.ext (Ext.alloc (Ext.refl v1) (.cells #[.int .i64 0, .int .i64 0, .slice none 0 0, .slice none 0 0] 26 (0, 0))))
        have HC2 := hid (heap_alloc_new v1 (.cells #[.int .i64 0, .int .i64 0, .slice none 0 0, .slice none 0 0] 26 (0, 0)))
        obtain ⟨C, hCe⟩ : ∃ C, C = v1.heap.size := ⟨_, rfl⟩
        have HG : Hid (v0.heap.size ≤ C) := by rw [hCe]; exact HV1.out.size
        have HX2 := hid (cell_alloc (.cells #[.int .i64 0, .int .i64 0, .slice none 0 0, .slice none 0 0] 26 (0, 0)) HSS)
        refine hK.out _ _ HX2.out ?_
        clear HSS hK K' HV1
        generalize v1.alloc (.cells #[.int .i64 0, .int .i64 0, .slice none 0 0, .slice none 0 0] 26 (0, 0)) = v2 at *
        rw [← hCe] at HC2 ⊢
        clear hCe
        have HSS := HX2.out
        clear HX2
        (try simp only [Act.put, List.setIfInBounds_toArray, List.set_cons_zero, List.set_cons_succ])
        refine wpT_one 3 rfl (by kernel_rfl) (by rfl) (fun K' hK => ?_)
        go_simp
        refine (srNum_to E2.out HS2.out).mono ?_
        rintro e v3 ⟨rfl, hs, ht⟩
        have HS3 := hid hs
        have HV3 := hid (HV2.out.trans ht)
        have HC3 := hid (ht.blk HC2.out (by have := HG.out; have := HL.out; omega) (by have := HG.out; have := HL.out; omega))
        clear HC2
        have HX3 := hid (ht.cell HSS (by have := HL.out; simp; omega) (by have := HL.out; simp; omega))
        clear hs ht
        refine hK.out _ _ HX3.out ?_
        clear HSS hK K' HV2
        have HSS := HX3.out
        clear HX3
        (try simp only [Act.put, List.setIfInBounds_toArray, List.set_cons_zero, List.set_cons_succ])
        refine wpT_take 4 (v := ?v22) rfl (by kernel_rfl) (by kernel_rfl) (by kernel_rfl) (by kernel_rfl) (by intro _ _ _ h; first | exact h | (obtain ⟨h, _⟩ := h; cases h)) (by rfl) HSS ?hy22 ?_
        case hy22 => (intro u hu; go_simp; first | done | (with_reducible rfl))
        (try simp only [Act.put, List.setIfInBounds_toArray, List.set_cons_zero, List.set_cons_succ])
        refine wpT_done (by kernel_rfl) ?_
        refine wpAny_one 6 rfl (by kernel_rfl) (by rfl) (fun K' hK => ?_)
        have hn := HC3.out
        have k0 := blk_cell hn 0
        have k1 := blk_cell hn 1
        have k2 := blk_cell hn 2
        have k3 := blk_cell hn 3
        have f0 := blk_free hn 0
        have f1 := blk_free hn 1
        have f2 := blk_free hn 2
        have f3 := blk_free hn 3
        go_simp
        refine hK.out _ _ ?_
        (try simp only [Act.put, List.setIfInBounds_toArray, List.set_cons_zero, List.set_cons_succ])
        refine wpAny_done (by kernel_rfl) ?_ _
        have hO : Only C v3 ((((v3.setCell ⟨C, 0, none⟩ (.int .i64 x1)).setCell ⟨C, 1, none⟩ (.int .i64 x2)).setCell ⟨C, 2, none⟩ (.slice none 0 0)).setCell ⟨C, 3, none⟩ (.slice none 0 0)) := ((((Only.refl _ _).setCell _).setCell _).setCell _).setCell _
        exact ⟨rfl, C, _, _, _, _, _, _, _, _, _, _, _, _, _, _, _, _, _, _, _, _, _, _, _, rfl, HS3.out.only hO (by have := HG.out; have := HL.out; omega) (by have := HG.out; have := HL.out; omega), HV3.out.only hO HG.out, sets4 hn _ _ _ _, HG.out⟩
    · go_simp
      have HS1 := hid (HS0.out.ext (Ext.alloc (Ext.refl v0) (.cells #[.int .i64 0, .int .i64 0, .slice none 0 0, .slice none 0 0] 26 (0, 0))))
      have HV1 := hid (HV0.out.ext (Ext.alloc (Ext.refl v0) (.cells #[.int .i64 0, .int .i64 0, .slice none 0 0, .slice none 0 0] 26 (0, 0))))
      have HC1 := hid (heap_alloc_new v0 (.cells #[.int .i64 0, .int .i64 0, .slice none 0 0, .slice none 0 0] 26 (0, 0)))
      obtain ⟨C, hCe⟩ : ∃ C, C = v0.heap.size := ⟨_, rfl⟩
      have HG : Hid (v0.heap.size ≤ C) := by rw [hCe]; exact HV0.out.size
      have HX1 := hid (cell_alloc (.cells #[.int .i64 0, .int .i64 0, .slice none 0 0, .slice none 0 0] 26 (0, 0)) HSS)
      refine hK.out _ _ HX1.out ?_
      clear HSS hK K' HV0
      generalize v0.alloc (.cells #[.int .i64 0, .int .i64 0, .slice none 0 0, .slice none 0 0] 26 (0, 0)) = v1 at *
      rw [← hCe] at HC1 ⊢
      clear hCe
      have HSS := HX1.out
      clear HX1
      (try simp only [Act.put, List.setIfInBounds_toArray, List.set_cons_zero, List.set_cons_succ])
      refine wpT_one 1 rfl (by kernel_rfl) (by rfl) (fun K' hK => ?_)
      go_simp
      refine (srNum_to E1.out HS1.out).mono ?_
      rintro e v2 ⟨rfl, hs, ht⟩
      have HS2 := hid hs
      have HV2 := hid (HV1.out.trans ht)
      have HC2 := hid (ht.blk HC1.out (by have := HG.out; have := HL.out; omega) (by have := HG.out; have := HL.out; omega))
      clear HC1
      have HX2 := hid (ht.cell HSS (by have := HL.out; simp; omega) (by have := HL.out; simp; omega))
      clear hs ht
      refine hK.out _ _ HX2.out ?_
      clear HSS hK K' HV1
      have HSS := HX2.out
      clear HX2
      (try simp only [Act.put, List.setIfInBounds_toArray, List.set_cons_zero, List.set_cons_succ])
      refine wpT_one 3 rfl (by kernel_rfl) (by rfl) (fun K' hK => ?_)
      go_simp
      refine (srNum_to E2.out HS2.out).mono ?_
      rintro e v3 ⟨rfl, hs, ht⟩
      have HS3 := hid hs
      have HV3 := hid (HV2.out.trans ht)
      have HC3 := hid (ht.blk HC2.out (by have := HG.out; have := HL.out; omega) (by have := HG.out; have := HL.out; omega))
      clear HC2
      have HX3 := hid (ht.cell HSS (by have := HL.out; simp; omega) (by have := HL.out; simp; omega))
      clear hs ht
      refine hK.out _ _ HX3.out ?_
      clear HSS hK K' HV2
      have HSS := HX3.out
      clear HX3
      (try simp only [Act.put, List.setIfInBounds_toArray, List.set_cons_zero, List.set_cons_succ])
      refine wpT_take 4 (v := ?v23) rfl (by kernel_rfl) (by kernel_rfl) (by kernel_rfl) (by kernel_rfl) (by intro _ _ _ h; first | exact h | (obtain ⟨h, _⟩ := h; cases h)) (by rfl) HSS ?hy23 ?_
      case hy23 => (intro u hu; go_simp; first | done | (with_reducible rfl))
      (try simp only [Act.put, List.setIfInBounds_toArray, List.set_cons_zero, List.set_cons_succ])
      refine wpT_done (by kernel_rfl) ?_
      refine wpAny_one 6 rfl (by kernel_rfl) (by rfl) (fun K' hK => ?_)
      have hn := HC3.out
      have k0 := blk_cell hn 0
      have k1 := blk_cell hn 1
      have k2 := blk_cell hn 2
      have k3 := blk_cell hn 3
      have f0 := blk_free hn 0
      have f1 := blk_free hn 1
      have f2 := blk_free hn 2
      have f3 := blk_free hn 3
      go_simp
      refine hK.out _ _ ?_
      (try simp only [Act.put, List.setIfInBounds_toArray, List.set_cons_zero, List.set_cons_succ])
      refine wpAny_done (by kernel_rfl) ?_ _
      have hO : Only C v3 ((((v3.setCell ⟨C, 0, none⟩ (.int .i64 x1)).setCell ⟨C, 1, none⟩ (.int .i64 x2)).setCell ⟨C, 2, none⟩ (.slice none 0 0)).setCell ⟨C, 3, none⟩ (.slice none 0 0)) := ((((Only.refl _ _).setCell _).setCell _).setCell _).setCell _
      exact ⟨rfl, C, _, _, _, _, _, _, _, _, _, _, _, _, _, _, _, _, _, _, _, _, _, _, _, rfl, HS3.out.only hO (by have := HG.out; have := HL.out; omega) (by have := HG.out; have := HL.out; omega), HV3.out.only hO HG.out, sets4 hn _ _ _ _, HG.out⟩
  · refine fun a' w1 => ex_elim fun C => ex_elim fun u4 => ex_elim fun u5 => ex_elim fun u6 => ex_elim fun u7 => ex_elim fun u8 => ex_elim fun u9 => ex_elim fun u10 => ex_elim fun u11 => ex_elim fun u12 => ex_elim fun u13 => ex_elim fun u14 => ex_elim fun u15 => ex_elim fun u16 => ex_elim fun u17 => ex_elim fun u18 => ex_elim fun u19 => ex_elim fun u20 => ex_elim fun u21 => ex_elim fun u22 => ex_elim fun u23 => ex_elim fun u24 => ex_elim fun u25 => ex_elim fun u26 => ?_
    rintro ⟨rfl, hs1, ht1, hC, hCg⟩
    have hL := H.out.lt
    have hAl := lt_of_block HA.out
    have hBl := lt_of_block HB.out
    have HA1 := hid (ht1.blk HA.out (by omega) (by omega))
    have HB1 := hid (ht1.blk HB.out (by omega) (by omega))
    have HT1 := hid (HT0.out.trans ht1)
    have HS1 := hid hs1
    have HC1 := hid hC
    have HL1 : Hid (w.heap.size + 1 < C ∧ C < w1.heap.size ∧ b < w.heap.size ∧ c < w.heap.size) := ⟨by omega, lt_of_block hC, hL.1, hL.2⟩
    clear HS0 HT0 HA HB hs1 ht1 hC hCg hL hAl hBl
    clear v
    go_upto_region 2 with (fail)
    refine wp_meet (ConfM2 b c w1.drew w.heap.size (w.heap.size + 1) C x3 x4 s4) ?_ ?_
    · refine wp_region_T 5 2 (fun u => u.cell? ⟨w.heap.size, 0, none⟩ = some (.pointer (some ⟨b, 0, none⟩))) (by kernel_rfl) (by kernel_rfl) ?_
      have HS0 := hid (HS1.out.ext (Ext.drew (Ext.refl w1)))
      have HA : Hid (w1.drew.heap[w.heap.size]? = some (.cells #[.pointer (some ⟨b, 0, none⟩)] 102 (0, 0))) := HA1.out
      have HL0 : Hid (w1.heap.size = w1.drew.heap.size) := rfl
      generalize w1.drew = v0 at *
      have HSS := blk_cell HA.out 0
      have HV0 := hid (Two.refl b c v0)
      have HL : Hid (w.heap.size < v0.heap.size ∧ b < w.heap.size ∧ c < w.heap.size) := ⟨lt_of_block HA.out, H.out.lt.1, H.out.lt.2⟩
      simp only [List.getElem?_toArray, List.getElem?_cons_zero] at HSS
      refine wpT_take 0 (v := ?v24) rfl (by kernel_rfl) (by kernel_rfl) (by kernel_rfl) (by kernel_rfl) (by intro _ _ _ h; first | exact h | (obtain ⟨h, _⟩ := h; cases h)) (by rfl) HSS ?hy24 ?_
      case hy24 => (intro u hu; go_simp; first | done | (with_reducible rfl))
      (try simp only [Act.put, List.setIfInBounds_toArray, List.set_cons_zero, List.set_cons_succ])
      refine wpT_take 2 (v := ?v25) rfl (by kernel_rfl) (by kernel_rfl) (by kernel_rfl) (by kernel_rfl) (by intro _ _ _ h; first | exact h | (obtain ⟨h, _⟩ := h; cases h)) (by rfl) HSS ?hy25 ?_
      case hy25 => (intro u hu; go_simp; first | done | (with_reducible rfl))
      (try simp only [Act.put, List.setIfInBounds_toArray, List.set_cons_zero, List.set_cons_succ])
      refine wpT_two 1 4 rfl rfl (by kernel_rfl) (by rfl) (by rfl) (fun K' hK => ?_) (fun K' hK => ?_)
      · go_simp
        refine (srCount_to E3.out HS0.out).mono ?_
        rintro e v1 ⟨rfl, hs, ht⟩
        have HS1 := hid hs
        have HV1 := hid (HV0.out.trans ht)
        have HX1 := hid (ht.cell HSS (by have := HL.out; simp; omega) (by have := HL.out; simp; omega))
        clear hs ht
        refine hK.out _ _ HX1.out ?_
        clear HSS hK K' HV0
        have HSS := HX1.out
        clear HX1
        (try simp only [Act.put, List.setIfInBounds_toArray, List.set_cons_zero, List.set_cons_succ])
        refine wpT_two 3 4 rfl rfl (by kernel_rfl) (by rfl) (by rfl) (fun K' hK => ?_) (fun K' hK => ?_)
        · go_simp
          refine (srCount_to E4.out HS1.out).mono ?_
          rintro e v2 ⟨rfl, hs, ht⟩
          have HS2 := hid hs
          have HV2 := hid (HV1.out.trans ht)
          have HX2 := hid (ht.cell HSS (by have := HL.out; simp; omega) (by have := HL.out; simp; omega))
          clear hs ht
          refine hK.out _ _ HX2.out ?_
          clear HSS hK K' HV1
          have HSS := HX2.out
          clear HX2
          (try simp only [Act.put, List.setIfInBounds_toArray, List.set_cons_zero, List.set_cons_succ])
          refine wpT_one 4 rfl (by kernel_rfl) (by rfl) (fun K' hK => ?_)
          go_simp
          have HS3 := hid (HS2.out.ext (Ext.alloc (Ext.refl v2) (.cells #[.int .i64 0] 3 (0, 0))))
          have HV3 := hid (HV2.out.ext (Ext.alloc (Ext.refl v2) (.cells #[.int .i64 0] 3 (0, 0))))
          have HC3 := hid (heap_alloc_new v2 (.cells #[.int .i64 0] 3 (0, 0)))
          obtain ⟨D, hCe⟩ : ∃ C, C = v2.heap.size := ⟨_, rfl⟩
          have HG : Hid (v0.heap.size ≤ D) := by rw [hCe]; exact HV2.out.size
          have HX3 := hid (cell_alloc (.cells #[.int .i64 0] 3 (0, 0)) HSS)
          refine hK.out _ _ HX3.out ?_
          clear HSS hK K' HV2
          generalize v2.alloc (.cells #[.int .i64 0] 3 (0, 0)) = v3 at *
          rw [← hCe] at HC3 ⊢
          clear hCe
          have HSS := HX3.out
          clear HX3
          (try simp only [Act.put, List.setIfInBounds_toArray, List.set_cons_zero, List.set_cons_succ])
          refine wpT_done (by kernel_rfl) ?_
          refine wpAny_one 5 rfl (by kernel_rfl) (by rfl) (fun K' hK => ?_)
          go_simp
          refine hK.out _ _ ?_
          (try simp only [Act.put, List.setIfInBounds_toArray, List.set_cons_zero, List.set_cons_succ])
          clear hK K'
          refine wpAny_one 6 rfl (by kernel_rfl) (by rfl) (fun K' hK => ?_)
          have hn := HC3.out
          have k0 := blk_cell hn 0
          have f0 := blk_free hn 0
          go_simp
          refine hK.out _ _ ?_
          (try simp only [Act.put, List.setIfInBounds_toArray, List.set_cons_zero, List.set_cons_succ])
          refine wpAny_done (by kernel_rfl) ?_ _
          have hO : Only D v3 (v3.setCell ⟨D, 0, none⟩ (.int .i64 x4)) := (Only.refl _ _).setCell _
          exact ⟨rfl, D, _, _, _, _, _, _, _, _, _, _, _, _, _, _, _, _, _, _, _, _, _, rfl, HS3.out.only hO (by have := HG.out; have := HL.out; omega) (by have := HG.out; have := HL.out; omega), HV3.out.only hO HG.out, one_setCell hn, HG.out⟩
        · go_simp
          have HS2 := hid (HS1.out.ext (Ext.alloc (Ext.refl v1) (.cells #[.int .i64 0] 3 (0, 0))))
          have HV2 := hid (HV1.out.ext (Ext.alloc (Ext.refl v1) (.cells #[.int .i64 0] 3 (0, 0))))
          have HC2 := hid (heap_alloc_new v1 (.cells #[.int .i64 0] 3 (0, 0)))
          obtain ⟨D, hCe⟩ : ∃ C, C = v1.heap.size := ⟨_, rfl⟩
          have HG : Hid (v0.heap.size ≤ D) := by rw [hCe]; exact HV1.out.size
          have HX2 := hid (cell_alloc (.cells #[.int .i64 0] 3 (0, 0)) HSS)
          refine hK.out _ _ HX2.out ?_
          clear HSS hK K' HV1
          generalize v1.alloc (.cells #[.int .i64 0] 3 (0, 0)) = v2 at *
          rw [← hCe] at HC2 ⊢
          clear hCe
          have HSS := HX2.out
          clear HX2
          (try simp only [Act.put, List.setIfInBounds_toArray, List.set_cons_zero, List.set_cons_succ])
          refine wpT_one 3 rfl (by kernel_rfl) (by rfl) (fun K' hK => ?_)
          go_simp
          refine (srCount_to E4.out HS2.out).mono ?_
          rintro e v3 ⟨rfl, hs, ht⟩
          have HS3 := hid hs
          have HV3 := hid (HV2.out.trans ht)
          have HC3 := hid (ht.blk HC2.out (by have := HG.out; have := HL.out; omega) (by have := HG.out; have := HL.out; omega))
          clear HC2
          have HX3 := hid (ht.cell HSS (by have := HL.out; simp; omega) (by have := HL.out; simp; omega))
          clear hs ht
          refine hK.out _ _ HX3.out ?_
          clear HSS hK K' HV2
          have HSS := HX3.out
          clear HX3
          (try simp only [Act.put, List.setIfInBounds_toArray, List.set_cons_zero, List.set_cons_succ])
          refine wpT_done (by kernel_rfl) ?_
          refine wpAny_one 5 rfl (by kernel_rfl) (by rfl) (fun K' hK => ?_)
          go_simp
          refine hK.out _ _ ?_
          (try simp only [Act.put, List.setIfInBounds_toArray, List.set_cons_zero, List.set_cons_succ])
          clear hK K'
          refine wpAny_one 6 rfl (by kernel_rfl) (by rfl) (fun K' hK => ?_)
          have hn := HC3.out
          have k0 := blk_cell hn 0
          have f0 := blk_free hn 0
          go_simp
          refine hK.out _ _ ?_
          (try simp only [Act.put, List.setIfInBounds_toArray, List.set_cons_zero, List.set_cons_succ])
          refine wpAny_done (by kernel_rfl) ?_ _
          have hO : Only D v3 (v3.setCell ⟨D, 0, none⟩ (.int .i64 x4)) := (Only.refl _ _).setCell _
          exact ⟨rfl, D, _, _, _, _, _, _, _, _, _, _, _, _, _, _, _, _, _, _, _, _, _, rfl, HS3.out.only hO (by have := HG.out; have := HL.out; omega) (by have := HG.out; have := HL.out; omega), HV3.out.only hO HG.out, one_setCell hn, HG.out⟩
      · go_simp
        have HS1 := hid (HS0.out.ext (Ext.alloc (Ext.refl v0) (.cells #[.int .i64 0] 3 (0, 0))))
        have HV1 := hid (HV0.out.ext (Ext.alloc (Ext.refl v0) (.cells #[.int .i64 0] 3 (0, 0))))
        have HC1 := hid (heap_alloc_new v0 (.cells #[.int .i64 0] 3 (0, 0)))
        obtain ⟨D, hCe⟩ : ∃ C, C = v0.heap.size := ⟨_, rfl⟩
        have HG : Hid (v0.heap.size ≤ D) := by rw [hCe]; exact HV0.out.size
        have HX1 := hid (cell_alloc (.cells #[.int .i64 0] 3 (0, 0)) HSS)
        refine hK.out _ _ HX1.out ?_
        clear HSS hK K' HV0
        generalize v0.alloc (.cells #[.int .i64 0] 3 (0, 0)) = v1 at *
        rw [← hCe] at HC1 ⊢
        clear hCe
        have HSS := HX1.out
        clear HX1
        (try simp only [Act.put, List.setIfInBounds_toArray, List.set_cons_zero, List.set_cons_succ])
        refine wpT_one 1 rfl (by kernel_rfl) (by rfl) (fun K' hK => ?_)
        go_simp
        refine (srCount_to E3.out HS1.out).mono ?_
        rintro e v2 ⟨rfl, hs, ht⟩
        have HS2 := hid hs
        have HV2 := hid (HV1.out.trans ht)
        have HC2 := hid (ht.blk HC1.out (by have := HG.out; have := HL.out; omega) (by have := HG.out; have := HL.out; omega))
        clear HC1
        have HX2 := hid (ht.cell HSS (by have := HL.out; simp; omega) (by have := HL.out; simp; omega))
        clear hs ht
        refine hK.out _ _ HX2.out ?_
        clear HSS hK K' HV1
        have HSS := HX2.out
        clear HX2
        (try simp only [Act.put, List.setIfInBounds_toArray, List.set_cons_zero, List.set_cons_succ])
        refine wpT_one 3 rfl (by kernel_rfl) (by rfl) (fun K' hK => ?_)
        go_simp
        refine (srCount_to E4.out HS2.out).mono ?_
        rintro e v3 ⟨rfl, hs, ht⟩
        have HS3 := hid hs
        have HV3 := hid (HV2.out.trans ht)
        have HC3 := hid (ht.blk HC2.out (by have := HG.out; have := HL.out; omega) (by have := HG.out; have := HL.out; omega))
        clear HC2
        have HX3 := hid (ht.cell HSS (by have := HL.out; simp; omega) (by have := HL.out; simp; omega))
        clear hs ht
        refine hK.out _ _ HX3.out ?_
        clear HSS hK K' HV2
        have HSS := HX3.out
        clear HX3
        (try simp only [Act.put, List.setIfInBounds_toArray, List.set_cons_zero, List.set_cons_succ])
        refine wpT_done (by kernel_rfl) ?_
        refine wpAny_one 5 rfl (by kernel_rfl) (by rfl) (fun K' hK => ?_)
        go_simp
        refine hK.out _ _ ?_
        (try simp only [Act.put, List.setIfInBounds_toArray, List.set_cons_zero, List.set_cons_succ])
        clear hK K'
        refine wpAny_one 6 rfl (by kernel_rfl) (by rfl) (fun K' hK => ?_)
        have hn := HC3.out
        have k0 := blk_cell hn 0
        have f0 := blk_free hn 0
        go_simp
        refine hK.out _ _ ?_
        (try simp only [Act.put, List.setIfInBounds_toArray, List.set_cons_zero, List.set_cons_succ])
        refine wpAny_done (by kernel_rfl) ?_ _
        have hO : Only D v3 (v3.setCell ⟨D, 0, none⟩ (.int .i64 x4)) := (Only.refl _ _).setCell _
        exact ⟨rfl, D, _, _, _, _, _, _, _, _, _, _, _, _, _, _, _, _, _, _, _, _, _, rfl, HS3.out.only hO (by have := HG.out; have := HL.out; omega) (by have := HG.out; have := HL.out; omega), HV3.out.only hO HG.out, one_setCell hn, HG.out⟩
    · refine fun a' w2 => ex_elim fun D => ex_elim fun u6 => ex_elim fun u7 => ex_elim fun u8 => ex_elim fun u9 => ex_elim fun u10 => ex_elim fun u11 => ex_elim fun u12 => ex_elim fun u13 => ex_elim fun u14 => ex_elim fun u15 => ex_elim fun u16 => ex_elim fun u17 => ex_elim fun u18 => ex_elim fun u19 => ex_elim fun u20 => ex_elim fun u21 => ex_elim fun u22 => ex_elim fun u23 => ex_elim fun u24 => ex_elim fun u25 => ex_elim fun u26 => ?_
      rintro ⟨rfl, hs2, ht2, hD, hDg⟩
      have hL := HL1.out
      have hDg' : w1.heap.size ≤ D := hDg
      have ht2' : Two b c w1 w2 := (Two.of_ext (Ext.drew (Ext.refl w1))).trans ht2
      have HN : Hid (ConfN b c w.heap.size (w.heap.size + 1) C D w) := ⟨rfl, by omega, by omega, by omega, by omega, by omega⟩
      have HF2 : Hid (ConfF b c w.heap.size (w.heap.size + 1) C D s4 x1 x2 x4 (.slice none 0 0) (.slice none 0 0) w w2) := ⟨hs2, HT1.out.trans ht2', ht2'.blk HC1.out (by omega) (by omega), ht2'.blk HA1.out (by omega) (by omega), ht2'.blk HB1.out (by omega) (by omega), hD⟩
      clear HA1 HB1 HC1 HT1 HS1 HL1 hs2 ht2 ht2' hD hDg hDg' hL
      clear w1
      have hq := manyQ_any b c w.heap.size D x4 s4 x3 w2 HF2.out.sr (blk_cell HF2.out.ab 0) (blk_cell HF2.out.db 0) (by have := HN.out.h5; have := HN.out.h6; omega) (by have := HN.out.h2; have := HN.out.h3; have := HN.out.h4; have := HN.out.h5; have := HN.out.h6; omega) HC.out.2.2.2.1 HC.out.2.1 HC.out.2.2.1 HC.out.1
      rw [E5.out] at hq
      have HQ : Hid (Calls _ _ _ w2 (fun e w3 => ∃ pp cp, e = .returned (.slice pp x5.length cp) ∧ w3.cell? ⟨C, 2, none⟩ = some (.slice none 0 0) ∧ w3.frozen? ⟨C, 2, none⟩ = false ∧ Hid (ConfF b c w.heap.size (w.heap.size + 1) C D s5 x1 x2 x4 (.slice pp x5.length cp) (.slice none 0 0) w (w3.setCell ⟨C, 2, none⟩ (.slice pp x5.length cp)) ∧ Rowed 48 1 ElR 0 (w3.setCell ⟨C, 2, none⟩ (.slice pp x5.length cp)) (.slice pp x5.length cp) x5))) := hq.mono fun e w3 ⟨v, he, hr, hs, ht⟩ => by
        obtain ⟨pp, cp, rfl, -, -⟩ := hr.shape
        have hf := HF2.out.step HN.out hs ht
        have hk := hf.keptC (good := [48, 3]) (by decide) 2 (.slice pp x5.length cp)
        exact ⟨pp, cp, he, blk_cell hf.cb 2, blk_free hf.cb 2, hf.putP HN.out _, (hr.weak (Nat.zero_le _)).kept hk (by simp) (ElR.kept (hk.sub (by simp)))⟩
      clear hq
      have kA := blk_cell HF2.out.ab 0
      simp only [List.getElem?_toArray, List.getElem?_cons_zero] at kA
      go_upto_region 4 with (go_at_call 62; refine HQ.out.mono ?_; rintro e w3 ⟨pp, cp, rfl, q0, g0, HK⟩)
      refine wp_forget (fun y => ConfF b c w.heap.size (w.heap.size + 1) C D s5 x1 x2 x4 (.slice pp x5.length cp) (.slice none 0 0) w y ∧ Rowed 48 1 ElR 0 y (.slice pp x5.length cp) x5) HK.out ?_
      rintro w4 ⟨hf4, hr4⟩
      have HF4 := hid hf4
      have HR4 := hid hr4
      clear hf4 hr4 HK q0 g0 HQ kA HF2
      clear w2
      have hq := manyD_any b c s5 x4 w4 HF4.out.sr HC.out.2.2.2.2 HC.out.2.1
      rw [E6.out] at hq
      have HQ : Hid (Calls _ _ _ w4 (fun e w3 => ∃ pd cd, e = .returned (.slice pd x6.length cd) ∧ w3.cell? ⟨C, 3, none⟩ = some (.slice none 0 0) ∧ w3.frozen? ⟨C, 3, none⟩ = false ∧ Hid (ConfF b c w.heap.size (w.heap.size + 1) C D s6 x1 x2 x4 (.slice pp x5.length cp) (.slice pd x6.length cd) w (w3.setCell ⟨C, 3, none⟩ (.slice pd x6.length cd)) ∧ Rowed 48 1 ElR 0 (w3.setCell ⟨C, 3, none⟩ (.slice pd x6.length cd)) (.slice pp x5.length cp) x5 ∧ Rowed 54 10 ElD 0 (w3.setCell ⟨C, 3, none⟩ (.slice pd x6.length cd)) (.slice pd x6.length cd) x6))) := hq.mono fun e w3 ⟨v, he, hr, hs, ht⟩ => by
        obtain ⟨pd, cd, rfl, -, -⟩ := hr.shape
        have hf := HF4.out.step HN.out hs ht
        have hk0 := HF4.out.sr.kept (good := [48, 3]) ht (by decide)
        have hk := hf.keptC (good := [54, 48, 3]) (by decide) 3 (.slice pd x6.length cd)
        have hk' : Kept [48, 3] w3 (w3.setCell ⟨C, 3, none⟩ (.slice pd x6.length cd)) := hk.sub (by simp)
        exact ⟨pd, cd, he, blk_cell hf.cb 3, blk_free hf.cb 3, hf.putD HN.out _, (HR4.out.kept hk0 (by simp) (ElR.kept (hk0.sub (by simp)))).kept hk' (by simp) (ElR.kept (hk'.sub (by simp))), (hr.weak (Nat.zero_le _)).kept hk (by simp) (ElD.kept (hk.sub (by simp)))⟩
      clear hq
      have kA := blk_cell HF4.out.ab 0
      have kD := blk_cell HF4.out.db 0
      simp only [List.getElem?_toArray, List.getElem?_cons_zero] at kA kD
      go_upto_region 5 with (go_at_call 65; refine HQ.out.mono ?_; rintro e w3 ⟨pd, cd, rfl, q0, g0, HK⟩)
      refine wp_forget (fun y => ConfF b c w.heap.size (w.heap.size + 1) C D s6 x1 x2 x4 (.slice pp x5.length cp) (.slice pd x6.length cd) w y ∧ Rowed 48 1 ElR 0 y (.slice pp x5.length cp) x5 ∧ Rowed 54 10 ElD 0 y (.slice pd x6.length cd) x6) HK.out ?_
      rintro w5 ⟨hf5, hr5, hd5⟩
      clear HK q0 g0 HQ kA kD HF4 HR4
      clear w4
      have hcb := hf5.cb
      have hbb := hf5.bb
      have k0 := blk_cell hcb 0
      have k1 := blk_cell hcb 1
      have k2 := blk_cell hcb 2
      have k3 := blk_cell hcb 3
      have m0 := blk_cell hbb 0
      have m1 := blk_cell hbb 1
      have m2 := blk_cell hbb 2
      have m3 := blk_cell hbb 3
      have f0 := blk_free hbb 0
      have f1 := blk_free hbb 1
      have f2 := blk_free hbb 2
      have f3 := blk_free hbb 3
      have HF5 := hid hf5
      have HR5 := hid hr5
      have HD5 := hid hd5
      clear hf5 hr5 hd5 hcb hbb
      simp only [List.getElem?_toArray, List.getElem?_cons_zero, List.getElem?_cons_succ] at k0 k1 k2 k3 m0 m1 m2 m3
      refine wp_meet (ConfM5 w5 (w.heap.size + 1) (confO (.int .i64 x1) (.int .i64 x2) (.slice pp x5.length cp) (.slice pd x6.length cd))) ?_ ?_
      · go_wp2
        exact ⟨_, _, _, _, _, _, _, _, _, _, _, _, _, _, _, _, _, _, _, _, _, _, _, _, _, _, rfl, sets4 HF5.out.bb _ _ _ _, ((((Only.refl _ _).setCell _).setCell _).setCell _).setCell _⟩
      · refine fun a' y => ex_elim fun u0 => ex_elim fun u1 => ex_elim fun u3 => ex_elim fun u4 => ex_elim fun u5 => ex_elim fun u6 => ex_elim fun u7 => ex_elim fun u8 => ex_elim fun u9 => ex_elim fun u10 => ex_elim fun u11 => ex_elim fun u12 => ex_elim fun u13 => ex_elim fun u14 => ex_elim fun u15 => ex_elim fun u16 => ex_elim fun u17 => ex_elim fun u18 => ex_elim fun u19 => ex_elim fun u20 => ex_elim fun u21 => ex_elim fun u22 => ex_elim fun u23 => ex_elim fun u24 => ex_elim fun u25 => ex_elim fun u26 => ?_
        rintro ⟨rfl, hy, hO⟩
        have hn := HN.out
        have hk := hO.kept HF5.out.bb (good := [54, 48, 3]) (by decide)
        have HG : Hid (Rowed 48 1 ElR 0 y (.slice pp x5.length cp) x5 ∧ Rowed 54 10 ElD 0 y (.slice pd x6.length cd) x6 ∧ Sr b c s6 y ∧ Two b c w y) :=
          ⟨HR5.out.kept hk (by simp) (ElR.kept (hk.sub (by simp))), HD5.out.kept hk (by simp) (ElD.kept (hk.sub (by simp))), HF5.out.sr.only hO (by have := hn.h2; have := hn.h5; omega) (by have := hn.h2; have := hn.h6; omega), HF5.out.two.only hO (by omega)⟩
        clear k0 k1 k2 k3 m0 m1 m2 m3 f0 f1 f2 f3 hO hk hn
        have k0 := blk_cell hy 0
        have k1 := blk_cell hy 1
        have k2 := blk_cell hy 2
        have k3 := blk_cell hy 3
        simp only [List.getElem?_toArray, List.getElem?_cons_zero, List.getElem?_cons_succ] at k0 k1 k2 k3
        go_wp2
        exact bodyPost_ret (v := .agg #[.int .i64 x1, .int .i64 x2, .slice pp x5.length cp, .slice pd x6.length cd]) (by simp [results, Try.results40, go_sem, k0, k1, k2, k3]) rfl ⟨pp, cp, pd, cd, rfl, HG.out⟩
end Go.Proofs.Ytbllibgddiiboaa
