/- Wait, of one who must. -/
import Derived.Test.YtoimkocjfijlkaaDoorOb5
import Derived.Test.YtoimkocjfijlkaaDoorHop
namespace Go.Proofs.YtoimkocjfijlkaaDoor
open Go.RowKit
set_option linter.unusedSimpArgs false
namespace Ob
open Go.Maps (Tidy IsMap Keyed)

section
variable {base x : Nat} {c : Nat → Int} {r : Nat → List Wt} {m : Value} {D : DataW Value} {w w' w3 w4 : World}
/-- He waits, last of the row. -/
def Waited (base x : Nat) (c : Nat → Int) (r : Nat → List Wt) (m : Value) (i : Nat) (id : Int) (w : World) (v : Ending) (w' : World) : Prop :=
  v = .returned (.tuple #[.bool false, .nilIface]) ∧ ∃ b m' D', Obs base x c (upd r i (r i ++ [(id, b)])) m' D' w' ∧ Mvp (Own x m r) (Own x m' (upd r i (r i ++ [(id, b)]))) w w'
set_option maxRecDepth 100000 in
set_option maxHeartbeats 4000000 in
theorem wait_wait (h : Obs base x c r m D w) {i : Nat} (hi : i < 4) {id : Int} (hwf : wf64 id) (hno : ∀ e ∈ flat r, e.1 ≠ id) (hc : c i = 0) (hl : (flat r).length ≤ 1000000) (hb : base ≤ w.heap.size) :
    Calls Tryd.prog 6 #[ptrV x, .int .i64 id, .int .i64 i] w (Waited base x c r m i id w) := by
  have CF := hid (find_in w h.at' hi)
  have hk := look_places h.map hwf (h.full.miss hno)
  have c1 := h.at'.map
  obtain ⟨c0, -, -⟩ := h.at'.cell hi
  rw [hc] at c0
  have f1 := h.at'.free 12
  have hx := h.lt
  have HH := hid h
  have HI := hid hi
  have HW := hid hwf
  have HNO := hid hno
  have HL := hid hl
  have HB := hid hb
  have hmm := @run_makeMap Tryd.prog
  have qT : ∀ (w : World) (r : Option Nat), (binOp .eql 56 (.map r) (.map none)).run Tryd.prog w = .ok (.bool r.isNone) w := fun w r => run_eql_map_nil w _ _ _ r Tryd.underlying56
  clear h hno hi hl hc hb
  rcases HH.out.map with ⟨rfl, rfl⟩ | ⟨b, rfl, -, -⟩
  · go_enter Tryd.func6, Tryd.ntmps6
    go_wp2_with (go_at_call 17; (with_reducible refine CF.out.mono ?_); rintro e w2 ⟨rfl, hw2⟩; rw [hw2]; clear hw2; clear w2)
    have T2 := hid (HH.out.made HB.out).1
    have M2 := hid (HH.out.made HB.out).2
    have HS2 : Hid (base ≤ ((w.setCell ⟨x, 12, none⟩ (.map (some w.heap.size))).alloc (.map #[] 0)).heap.size) := Nat.le_trans HB.out M2.out.size
    generalize (w.setCell ⟨x, 12, none⟩ (.map (some w.heap.size))).alloc (.map #[] 0) = w2 at *
    generalize w.heap.size = b at *
    obtain ⟨D', hD'⟩ : ∃ D', D' = DataW.map (H := Value) [] := ⟨_, rfl⟩
    rw [← hD'] at T2
    clear hD'
    have X2 : Ext w2 w2.drew := Ext.drew (Ext.refl _)
    have T3 := hid (T2.out.ext X2)
    have CJ := hid (join_any T3.out.at' HI.out (T3.out.seg i HI.out) (row_nodup T3.out.apart HI.out) rfl rfl id)
    have c1 := T3.out.at'.map
    have E2 : Hid (w2.drew.heap.size = w2.heap.size) := rfl
    refine wp_region_T 8 1 (fun u => u.cell? ⟨x, 12, none⟩ = some (.map (some b))) (by kernel_rfl) (by kernel_rfl) ?_
    have HSS : w2.drew.cell? ⟨x, 12, none⟩ = some (.map (some b)) := c1
    generalize w2.drew = z at *
    clear c0 f1 hx hmm qT hk
    refine wpT_take 0 (v := ?v1) rfl (by kernel_rfl) (by kernel_rfl) (by kernel_rfl) (by kernel_rfl) (by intro _ _ _ h; first | exact h | (obtain ⟨h, _⟩ := h; cases h)) (by rfl) HSS ?hy1 ?_
    case hy1 => (intro u hu; obtain hu := hu; go_simp; first | done | (with_reducible rfl))
    (try simp only [Act.put, List.getElem_toArray, List.getElem_cons_zero, List.setIfInBounds_toArray, List.set_cons_zero, List.set_cons_succ])
    refine wpT_take 1 (v := ?v2) rfl (by kernel_rfl) (by kernel_rfl) (by kernel_rfl) (by kernel_rfl) (by intro _ _ _ h; first | exact h | (obtain ⟨h, _⟩ := h; cases h)) (by rfl) HSS ?hy2 ?_
    case hy2 => (intro u hu; obtain hu := hu; go_simp; first | done | (with_reducible rfl))
    (try simp only [Act.put, List.getElem_toArray, List.getElem_cons_zero, List.getElem_cons_succ, List.setIfInBounds_toArray, List.set_cons_zero, List.set_cons_succ])
    refine wpT_take 2 (v := ?v3) rfl (by kernel_rfl) (by kernel_rfl) (by kernel_rfl) (by kernel_rfl) (by intro _ _ _ h; first | exact h | (obtain ⟨h, _⟩ := h; cases h)) (by rfl) HSS ?hy3 ?_
    case hy3 => (intro u hu; obtain hu := hu; go_simp; first | done | (with_reducible rfl))
    (try simp only [Act.put, List.getElem_toArray, List.getElem_cons_zero, List.getElem_cons_succ, List.setIfInBounds_toArray, List.set_cons_zero, List.set_cons_succ])
    refine wpT_take 3 (v := ?v4) rfl (by kernel_rfl) (by kernel_rfl) (by kernel_rfl) (by kernel_rfl) (by intro _ _ _ h; first | exact h | (obtain ⟨h, _⟩ := h; cases h)) (by rfl) HSS ?hy4 ?_
    case hy4 => (intro u hu; obtain hu := hu; go_simp; first | done | (with_reducible rfl))
    (try simp only [Act.put, List.getElem_toArray, List.getElem_cons_zero, List.getElem_cons_succ, List.setIfInBounds_toArray, List.set_cons_zero, List.set_cons_succ])
    refine wpT_take 4 (v := ?v5) rfl (by kernel_rfl) (by kernel_rfl) (by kernel_rfl) (by kernel_rfl) (by intro _ _ _ h; first | exact h | (obtain ⟨h, _⟩ := h; cases h)) (by rfl) HSS ?hy5 ?_
    case hy5 => (intro u hu; obtain hu := hu; go_simp; first | done | (with_reducible rfl))
    (try simp only [Act.put, List.getElem_toArray, List.getElem_cons_zero, List.getElem_cons_succ, List.setIfInBounds_toArray, List.set_cons_zero, List.set_cons_succ])
    refine wpT_take 5 (v := ?v6) rfl (by kernel_rfl) (by kernel_rfl) (by kernel_rfl) (by kernel_rfl) (by intro _ _ _ h; first | exact h | (obtain ⟨h, _⟩ := h; cases h)) (by rfl) HSS ?hy6 ?_
    case hy6 => (intro u hu; obtain hu := hu; go_simp; first | done | (with_reducible rfl))
    (try simp only [Act.put, List.getElem_toArray, List.getElem_cons_zero, List.getElem_cons_succ, List.setIfInBounds_toArray, List.set_cons_zero, List.set_cons_succ])
    refine wpT_take 6 (v := ?v7) rfl (by kernel_rfl) (by kernel_rfl) (by kernel_rfl) (by kernel_rfl) (by intro _ _ _ h; first | exact h | (obtain ⟨h, _⟩ := h; cases h)) (by rfl) HSS ?hy7 ?_
    case hy7 => (intro u hu; obtain hu := hu; go_simp; first | done | (with_reducible rfl))
    (try simp only [Act.put, List.getElem_toArray, List.getElem_cons_zero, List.getElem_cons_succ, List.setIfInBounds_toArray, List.set_cons_zero, List.set_cons_succ])
    refine wpT_one 7 rfl (by kernel_rfl) (by rfl) (fun K' hK => ?_)
    go_simp
    (with_reducible refine CJ.out.mono ?_)
    rintro e w3 hj
    obtain rfl := hj.1
    have HJ := hid hj
    have hs3 := hj.2.1.map
    clear hj HSS c1
    have HSS : w3.cell? ⟨x, 12, none⟩ = some (.map (some b)) := hs3
    refine hK.out _ _ HSS ?_
    clear hK K'
    (try simp only [Act.put, List.getElem_toArray, List.getElem_cons_zero, List.getElem_cons_succ, List.setIfInBounds_toArray, List.set_cons_zero, List.set_cons_succ])
    have O3 : OM w3 b D' := by
      rcases T3.out.map with ⟨q, _⟩ | ⟨b', q, _, q3⟩
      · cases q
      · cases q
        exact q3.of_block (HJ.out.2.2.2.block b (T3.out.mapFar rfl).2.1 (T3.out.notMap HI.out rfl))
    refine wpT_done (by kernel_rfl) ?_
    refine wpAny_one 8 rfl (by kernel_rfl) (by rfl) (fun K' hK => ?_)
    refine oper_mapUpdate (.tmp 50) (.tmp 51) (.tmp 54) rfl O3 (by rw [T3.out.full.size]; have := HL.out; unfold maxLen; omega) id (ptrV z.heap.size) rfl rfl rfl HW.out.lit ?_
    intro w4 o4 g4
    refine hK.out _ _ ?_
    clear hK K'
    refine wpAny_done (by kernel_rfl) ?_ _
    have FIN := hid (T3.out.into HI.out HW.out HNO.out rfl (by rw [E2.out]; exact HS2.out) HJ.out o4 g4)
    clear O3 o4 g4 HSS hs3
    simp only [Act.put, List.getElem_toArray, List.getElem_cons_zero, List.getElem_cons_succ]
    simp only [Exit.then]
    refine ‹∀ (a : Act) (w : World), Code.wp _ _ _ a w → _› _ _ ?_
    go_wp2
    go_returns
    exact ⟨rfl, _, _, _, FIN.out.1, (M2.out.ext X2).trans FIN.out.2⟩
  · have T2 := hid HH.out
    have M2 := hid (Mvp.refl (Own x (.map (some b)) r) w)
    go_enter Tryd.func6, Tryd.ntmps6
    go_wp2_with (go_at_call 17; (with_reducible refine CF.out.mono ?_); rintro e w2 ⟨rfl, hw2⟩; rw [hw2]; clear hw2; clear w2)
    obtain ⟨D', hD'⟩ : ∃ D', D' = D := ⟨_, rfl⟩
    rw [← hD'] at T2
    clear hD'
    have HS2 : Hid (base ≤ w.heap.size) := Nat.le_trans HB.out M2.out.size
    have X2 : Ext w w.drew := Ext.drew (Ext.refl _)
    have T3 := hid (T2.out.ext X2)
    have CJ := hid (join_any T3.out.at' HI.out (T3.out.seg i HI.out) (row_nodup T3.out.apart HI.out) rfl rfl id)
    have c1 := T3.out.at'.map
    have E2 : Hid (w.drew.heap.size = w.heap.size) := rfl
    refine wp_region_T 8 1 (fun u => u.cell? ⟨x, 12, none⟩ = some (.map (some b))) (by kernel_rfl) (by kernel_rfl) ?_
    have HSS : w.drew.cell? ⟨x, 12, none⟩ = some (.map (some b)) := c1
    generalize w.drew = z at *
    clear c0 f1 hx hmm qT hk
    refine wpT_take 0 (v := ?v8) rfl (by kernel_rfl) (by kernel_rfl) (by kernel_rfl) (by kernel_rfl) (by intro _ _ _ h; first | exact h | (obtain ⟨h, _⟩ := h; cases h)) (by rfl) HSS ?hy8 ?_
    case hy8 => (intro u hu; obtain hu := hu; go_simp; first | done | (with_reducible rfl))
    (try simp only [Act.put, List.getElem_toArray, List.getElem_cons_zero, List.setIfInBounds_toArray, List.set_cons_zero, List.set_cons_succ])
    refine wpT_take 1 (v := ?v9) rfl (by kernel_rfl) (by kernel_rfl) (by kernel_rfl) (by kernel_rfl) (by intro _ _ _ h; first | exact h | (obtain ⟨h, _⟩ := h; cases h)) (by rfl) HSS ?hy9 ?_
    case hy9 => (intro u hu; obtain hu := hu; go_simp; first | done | (with_reducible rfl))
    (try simp only [Act.put, List.getElem_toArray, List.getElem_cons_zero, List.getElem_cons_succ, List.setIfInBounds_toArray, List.set_cons_zero, List.set_cons_succ])
    refine wpT_take 2 (v := ?v10) rfl (by kernel_rfl) (by kernel_rfl) (by kernel_rfl) (by kernel_rfl) (by intro _ _ _ h; first | exact h | (obtain ⟨h, _⟩ := h; cases h)) (by rfl) HSS ?hy10 ?_
    case hy10 => (intro u hu; obtain hu := hu; go_simp; first | done | (with_reducible rfl))
    (try simp only [Act.put, List.getElem_toArray, List.getElem_cons_zero, List.getElem_cons_succ, List.setIfInBounds_toArray, List.set_cons_zero, List.set_cons_succ])
    refine wpT_take 3 (v := ?v11) rfl (by kernel_rfl) (by kernel_rfl) (by kernel_rfl) (by kernel_rfl) (by intro _ _ _ h; first | exact h | (obtain ⟨h, _⟩ := h; cases h)) (by rfl) HSS ?hy11 ?_
    case hy11 => (intro u hu; obtain hu := hu; go_simp; first | done | (with_reducible rfl))
    (try simp only [Act.put, List.getElem_toArray, List.getElem_cons_zero, List.getElem_cons_succ, List.setIfInBounds_toArray, List.set_cons_zero, List.set_cons_succ])
    refine wpT_take 4 (v := ?v12) rfl (by kernel_rfl) (by kernel_rfl) (by kernel_rfl) (by kernel_rfl) (by intro _ _ _ h; first | exact h | (obtain ⟨h, _⟩ := h; cases h)) (by rfl) HSS ?hy12 ?_
    case hy12 => (intro u hu; obtain hu := hu; go_simp; first | done | (with_reducible rfl))
    (try simp only [Act.put, List.getElem_toArray, List.getElem_cons_zero, List.getElem_cons_succ, List.setIfInBounds_toArray, List.set_cons_zero, List.set_cons_succ])
    refine wpT_take 5 (v := ?v13) rfl (by kernel_rfl) (by kernel_rfl) (by kernel_rfl) (by kernel_rfl) (by intro _ _ _ h; first | exact h | (obtain ⟨h, _⟩ := h; cases h)) (by rfl) HSS ?hy13 ?_
    case hy13 => (intro u hu; obtain hu := hu; go_simp; first | done | (with_reducible rfl))
    (try simp only [Act.put, List.getElem_toArray, List.getElem_cons_zero, List.getElem_cons_succ, List.setIfInBounds_toArray, List.set_cons_zero, List.set_cons_succ])
    refine wpT_take 6 (v := ?v14) rfl (by kernel_rfl) (by kernel_rfl) (by kernel_rfl) (by kernel_rfl) (by intro _ _ _ h; first | exact h | (obtain ⟨h, _⟩ := h; cases h)) (by rfl) HSS ?hy14 ?_
    case hy14 => (intro u hu; obtain hu := hu; go_simp; first | done | (with_reducible rfl))
    (try simp only [Act.put, List.getElem_toArray, List.getElem_cons_zero, List.getElem_cons_succ, List.setIfInBounds_toArray, List.set_cons_zero, List.set_cons_succ])
    refine wpT_one 7 rfl (by kernel_rfl) (by rfl) (fun K' hK => ?_)
    go_simp
    (with_reducible refine CJ.out.mono ?_)
    rintro e w3 hj
    obtain rfl := hj.1
    have HJ := hid hj
    have hs3 := hj.2.1.map
    clear hj HSS c1
    have HSS : w3.cell? ⟨x, 12, none⟩ = some (.map (some b)) := hs3
    refine hK.out _ _ HSS ?_
    clear hK K'
    (try simp only [Act.put, List.getElem_toArray, List.getElem_cons_zero, List.getElem_cons_succ, List.setIfInBounds_toArray, List.set_cons_zero, List.set_cons_succ])
    have O3 : OM w3 b D' := by
      rcases T3.out.map with ⟨q, _⟩ | ⟨b', q, _, q3⟩
      · cases q
      · cases q
        exact q3.of_block (HJ.out.2.2.2.block b (T3.out.mapFar rfl).2.1 (T3.out.notMap HI.out rfl))
    refine wpT_done (by kernel_rfl) ?_
    refine wpAny_one 8 rfl (by kernel_rfl) (by rfl) (fun K' hK => ?_)
    refine oper_mapUpdate (.tmp 50) (.tmp 51) (.tmp 54) rfl O3 (by rw [T3.out.full.size]; have := HL.out; unfold maxLen; omega) id (ptrV z.heap.size) rfl rfl rfl HW.out.lit ?_
    intro w4 o4 g4
    refine hK.out _ _ ?_
    clear hK K'
    refine wpAny_done (by kernel_rfl) ?_ _
    have FIN := hid (T3.out.into HI.out HW.out HNO.out rfl (by rw [E2.out]; exact HS2.out) HJ.out o4 g4)
    clear O3 o4 g4 HSS hs3
    simp only [Act.put, List.getElem_toArray, List.getElem_cons_zero, List.getElem_cons_succ]
    simp only [Exit.then]
    refine ‹∀ (a : Act) (w : World), Code.wp _ _ _ a w → _› _ _ ?_
    go_wp2
    go_returns
    exact ⟨rfl, _, _, _, FIN.out.1, (M2.out.ext X2).trans FIN.out.2⟩
end
end Ob
end Go.Proofs.YtoimkocjfijlkaaDoor
