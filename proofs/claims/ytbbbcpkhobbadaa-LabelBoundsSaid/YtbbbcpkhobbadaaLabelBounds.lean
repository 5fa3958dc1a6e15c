/- LabelBounds: of every three labels, in whatever memory: the law answers true, and its arguments read as they did. No conditions. -/
import Derived.Test.YtbbbcpkhobbadaaKnown
import Derived.Test.YtbbbcpkhobbadaaReg
import Derived.Test.YtbbbcpkhobbadaaOwn
namespace Go.Proofs.Ytbbbcpkhobbadaa
open Go.ChangeShapes Go.WideShapes Go.ChangeAt Go.RowKit Go.Joins Go.Deep

namespace labelBounds
set_option linter.unusedSimpArgs false
set_option linter.unusedVariables false
theorem leq_known {a b c d : Int} {r : Bool} (h : leqB a b c d = r) (w : World) : Calls Try.prog 11 #[.agg #[.int .i64 a, .int .u64 b], .agg #[.int .i64 c, .int .u64 d]] w (Yields w (.bool r)) := h ▸ leq_any a b c d w

set_option maxRecDepth 100000 in
set_option maxHeartbeats 4000000 in
theorem walk (a b c d e f : Int) (hb : U64 b) (hd : U64 d) (hf : U64 f) (w : World) :
    Calls Try.prog 5 #[.agg #[.int .i64 a, .int .u64 b], .agg #[.int .i64 c, .int .u64 d], .agg #[.int .i64 e, .int .u64 f]] w (Yields w (.bool true)) := by
  have e1 := bound1 (a := a) (c := c) hb hd
  have e2 := bound2 (a := a) (c := c) hb hd
  have e3 := bound3 (a := a) (c := c) hb hd
  have e4 := bound4 (a := a) (c := c) hb hd
  have e5 := bound5 (a := a) (c := c) (e := e) hb hd hf
  have e6 := bound6 (a := a) (c := c) (e := e) hb hd hf
  have e7 := bound7 (a := a) (c := c) hb hd
  have e8 := bound8 (a := a) (c := c) hb hd
  go_enter Try.func5, Try.ntmps5
  go_wp2_with (first
      | (go_at_call 8; refine (known_any _).yields ?_; intro p)
      | (go_at_call 11; refine (leq_any _ _ _ _ _).yields ?_; intro p)
      | (go_at_call 13; refine (join_any _ _ _ _ _).yields ?_; intro p)
      | (go_at_call 15; refine (meet_any _ _ _ _ _).yields ?_; intro p))
  refine Code.wp_mono (Q := fun e' a' wx => e' = .normal ∧ ∃ (bj bm : Nat) (u9 u10 u11 u12 u13 u14 u15 u16 u17 u18 u19 u20 u21 u22 u23 u24 u25 u26 u27 u28 u29 u30 u31 u32 u33 u34 u35 u36 u37 u38 u39 u40 u41 u42 u43 u44 u45 u46 u47 u48 u49 u50 u51 u52 u53 u54 u55 u56 u57 u58 u59 u60 u61 u62 u63 u64 u65 u66 u67 u68 u69 u70 u71 u72 u73 u74 u75 u76 u77 u78 u79 u80 u81 u82 : Value), a' = { tmps := #[.agg #[.int .i64 a, .int .u64 b], .agg #[.int .i64 c, .int .u64 d], .agg #[.int .i64 e, .int .u64 f], .pointer (some ⟨w.heap.size, 0, none⟩), .pointer (some ⟨w.heap.size + 1, 0, none⟩), .pointer (some ⟨w.heap.size + 1 + 1, 0, none⟩), .bool false, .pointer (some ⟨bj, 0, none⟩), .pointer (some ⟨bm, 0, none⟩), u9, u10, u11, u12, u13, u14, u15, u16, u17, u18, u19, u20, u21, u22, u23, u24, u25, u26, u27, u28, u29, u30, u31, u32, u33, u34, u35, u36, u37, u38, u39, u40, u41, u42, u43, u44, u45, u46, u47, u48, u49, u50, u51, u52, u53, u54, u55, u56, u57, u58, u59, u60, u61, u62, u63, u64, u65, u66, u67, u68, u69, u70, u71, u72, u73, u74, u75, u76, u77, u78, u79, u80, u81, u82], defers := [] } ∧ Ext w wx ∧ wx.cell? ⟨w.heap.size, 0, none⟩ = some (.int .i64 a) ∧ wx.cell? ⟨w.heap.size, 1, none⟩ = some (.int .u64 b) ∧ wx.cell? ⟨w.heap.size + 1, 0, none⟩ = some (.int .i64 c) ∧ wx.cell? ⟨w.heap.size + 1, 1, none⟩ = some (.int .u64 d) ∧ wx.cell? ⟨w.heap.size + 1 + 1, 0, none⟩ = some (.int .i64 e) ∧ wx.cell? ⟨w.heap.size + 1 + 1, 1, none⟩ = some (.int .u64 f) ∧ wx.cell? ⟨bj, 0, none⟩ = some (.int .i64 (maxI a c)) ∧ wx.cell? ⟨bj, 1, none⟩ = some (.int .u64 (bits BinOp.or IntKind.u64 b d)) ∧ wx.cell? ⟨bm, 0, none⟩ = some (.int .i64 (minI a c)) ∧ wx.cell? ⟨bm, 1, none⟩ = some (.int .u64 (bits BinOp.and IntKind.u64 b d))) ?_ ?_
  · rintro e' a' wx ⟨rfl, bj, bm, u9, u10, u11, u12, u13, u14, u15, u16, u17, u18, u19, u20, u21, u22, u23, u24, u25, u26, u27, u28, u29, u30, u31, u32, u33, u34, u35, u36, u37, u38, u39, u40, u41, u42, u43, u44, u45, u46, u47, u48, u49, u50, u51, u52, u53, u54, u55, u56, u57, u58, u59, u60, u61, u62, u63, u64, u65, u66, u67, u68, u69, u70, u71, u72, u73, u74, u75, u76, u77, u78, u79, u80, u81, u82, rfl, hx, c0, c1, c2, c3, c4, c5, j0, j1, m0, m1⟩
    have d0 := more_cell c0
    have d1 := more_cell c1
    have d2 := more_cell c2
    have d3 := more_cell c3
    have d4 := more_cell c4
    have d5 := more_cell c5
    have d6 := more_cell j0
    have d7 := more_cell j1
    have d8 := more_cell m0
    have d9 := more_cell m1
    go_wp2_with (first
      | (go_at_call 8; refine (known_any _).yields ?_; intro p)
      | (go_at_call 11; refine (leq_any _ _ _ _ _).yields ?_; intro p)
      | (go_at_call 13; refine (join_any _ _ _ _ _).yields ?_; intro p)
      | (go_at_call 15; refine (meet_any _ _ _ _ _).yields ?_; intro p))
    clear c0 c1 c2 c3 c4 c5 j0 j1 m0 m1
    cases h5 : leqB a b e f <;> cases h6 : leqB e f a b
    all_goals
      ((first | refine wp_region_more (by kernel_rfl) (by kernel_rfl) ?_ | refine wp_region_ext (by kernel_rfl) (by kernel_rfl) ?_); (try dsimp only [append_cons', append_nil']); (repeat (go_big_quiet_step ((first | (go_at_call 8; refine Calls.more_of (known_any _)) | (go_at_call 11; with_reducible refine Calls.more_of (leq_known h5 _)) | (go_at_call 11; with_reducible refine Calls.more_of (leq_known h6 _)) | (go_at_call 11; refine Calls.more_of (leq_any _ _ _ _ _)) | (go_at_call 13; refine Calls.more_of (join_any _ _ _ _ _)) | (go_at_call 15; refine Calls.more_of (meet_any _ _ _ _ _)))))); refine wpQuiet_nil ?_; rintro _ ⟨pq, rfl⟩)
      go_wp2
      go_returns
      exact ⟨by simp_all, (by repeat (first | exact Ext.refl _ | assumption | refine Ext.more ?_ _ | refine Ext.drew ?_ | refine Ext.drewN ?_ _ | refine Ext.alloc ?_ _ | refine Ext.setCell ?_ (by simp; try omega) _ | refine Ext.trans ?_ (by assumption)))⟩
  · generalize hW : more _ _ = W
    have c0 : W.cell? ⟨w.heap.size, 0, none⟩ = some (.int .i64 a) := by rw [← hW]; simp [go_sem]
    have c1 : W.cell? ⟨w.heap.size, 1, none⟩ = some (.int .u64 b) := by rw [← hW]; simp [go_sem]
    have c2 : W.cell? ⟨w.heap.size + 1, 0, none⟩ = some (.int .i64 c) := by rw [← hW]; simp [go_sem]
    have c3 : W.cell? ⟨w.heap.size + 1, 1, none⟩ = some (.int .u64 d) := by rw [← hW]; simp [go_sem]
    have c4 : W.cell? ⟨w.heap.size + 1 + 1, 0, none⟩ = some (.int .i64 e) := by rw [← hW]; simp [go_sem]
    have c5 : W.cell? ⟨w.heap.size + 1 + 1, 1, none⟩ = some (.int .u64 f) := by rw [← hW]; simp [go_sem]
    have hE : Ext w W := by rw [← hW]; exact (by repeat (first | exact Ext.refl _ | assumption | refine Ext.more ?_ _ | refine Ext.drew ?_ | refine Ext.drewN ?_ _ | refine Ext.alloc ?_ _ | refine Ext.setCell ?_ (by simp; try omega) _ | refine Ext.trans ?_ (by assumption)))
    clear hW
    have d0 := more_cell c0
    have d1 := more_cell c1
    have d2 := more_cell c2
    have d3 := more_cell c3
    refine wp_region_E (by kernel_rfl) ?_
    (try dsimp only [append_cons', append_nil'])
    refine wpE_take 0 (v := ?v1) rfl (by kernel_rfl) (by kernel_rfl) (by kernel_rfl) (by intro _ _ _ h; first | exact h | (obtain ⟨h, _⟩ := h; cases h)) (Ext.refl _) (by rfl) ?hy1 ?_
    case hy1 => (intro p; go_simp; first | done | (with_reducible rfl))
    (try simp only [Act.put, List.setIfInBounds_toArray, List.set_cons_zero, List.set_cons_succ])
    refine wpE_take 1 (v := ?v2) rfl (by kernel_rfl) (by kernel_rfl) (by kernel_rfl) (by intro _ _ _ h; first | exact h | (obtain ⟨h, _⟩ := h; cases h)) (Ext.refl _) (by rfl) ?hy2 ?_
    case hy2 => (intro p; go_simp; first | done | (with_reducible rfl))
    (try simp only [Act.put, List.setIfInBounds_toArray, List.set_cons_zero, List.set_cons_succ])
    refine wpE_take 2 (v := ?v3) rfl (by kernel_rfl) (by kernel_rfl) (by kernel_rfl) (by intro _ _ _ h; first | exact h | (obtain ⟨h, _⟩ := h; cases h)) (Ext.refl _) (by rfl) ?hy3 ?_
    case hy3 => (intro p; go_simp; first | done | (with_reducible rfl) | (first | (go_at_call 13; exact join_any _ _ _ _ _) | (go_at_call 15; exact meet_any _ _ _ _ _)))
    (try simp only [Act.put, List.setIfInBounds_toArray, List.set_cons_zero, List.set_cons_succ])
    refine wpE_take 3 (v := ?v4) rfl (by kernel_rfl) (by kernel_rfl) (by kernel_rfl) (by intro _ _ _ h; first | exact h | (obtain ⟨h, _⟩ := h; cases h)) (Ext.refl _) (by rfl) ?hy4 ?_
    case hy4 => (intro p; go_simp; first | done | (with_reducible rfl))
    (try simp only [Act.put, List.setIfInBounds_toArray, List.set_cons_zero, List.set_cons_succ])
    refine wpE_take 4 (v := ?v5) rfl (by kernel_rfl) (by kernel_rfl) (by kernel_rfl) (by intro _ _ _ h; first | exact h | (obtain ⟨h, _⟩ := h; cases h)) (Ext.refl _) (by rfl) ?hy5 ?_
    case hy5 => (intro p; go_simp; first | done | (with_reducible rfl))
    (try simp only [Act.put, List.setIfInBounds_toArray, List.set_cons_zero, List.set_cons_succ])
    refine wpE_take 5 (v := ?v6) rfl (by kernel_rfl) (by kernel_rfl) (by kernel_rfl) (by intro _ _ _ h; first | exact h | (obtain ⟨h, _⟩ := h; cases h)) (Ext.refl _) (by rfl) ?hy6 ?_
    case hy6 => (intro p; go_simp; first | done | (with_reducible rfl) | (first | (go_at_call 13; exact join_any _ _ _ _ _) | (go_at_call 15; exact meet_any _ _ _ _ _)))
    (try simp only [Act.put, List.setIfInBounds_toArray, List.set_cons_zero, List.set_cons_succ])
    refine wpE_ready [6, 7] (by kernel_rfl) (by simp) ?_
    refine AllE.cons rfl (by rfl) (fun p K hK => ?_) ?_
    · go_simp
      refine hK.out _ _ (by repeat (first | exact Ext.refl _ | assumption | refine Ext.more ?_ _ | refine Ext.drew ?_ | refine Ext.drewN ?_ _ | refine Ext.alloc ?_ _ | refine Ext.setCell ?_ (by simp; try omega) _ | refine Ext.trans ?_ (by assumption))) ?_
      clear hK K
      (try simp only [Act.put, List.setIfInBounds_toArray, List.set_cons_zero, List.set_cons_succ])
      refine wpE_ready [7] (by kernel_rfl) (by simp) ?_
      refine AllE.cons rfl (by rfl) (fun p K hK => ?_) ?_
      · go_simp
        refine hK.out _ _ (by repeat (first | exact Ext.refl _ | assumption | refine Ext.more ?_ _ | refine Ext.drew ?_ | refine Ext.drewN ?_ _ | refine Ext.alloc ?_ _ | refine Ext.setCell ?_ (by simp; try omega) _ | refine Ext.trans ?_ (by assumption))) ?_
        clear hK K
        (try simp only [Act.put, List.setIfInBounds_toArray, List.set_cons_zero, List.set_cons_succ])
        refine wpE_ready [8] (by kernel_rfl) (by simp) ?_
        refine AllE.cons rfl (by rfl) (fun p K hK => ?_) ?_
        · go_simp
          refine hK.out _ _ (by repeat (first | exact Ext.refl _ | assumption | refine Ext.more ?_ _ | refine Ext.drew ?_ | refine Ext.drewN ?_ _ | refine Ext.alloc ?_ _ | refine Ext.setCell ?_ (by simp; try omega) _ | refine Ext.trans ?_ (by assumption))) ?_
          clear hK K
          (try simp only [Act.put, List.setIfInBounds_toArray, List.set_cons_zero, List.set_cons_succ])
          refine wpE_ready [9] (by kernel_rfl) (by simp) ?_
          refine AllE.cons rfl (by rfl) (fun p K hK => ?_) ?_
          · go_simp
            refine hK.out _ _ (by repeat (first | exact Ext.refl _ | assumption | refine Ext.more ?_ _ | refine Ext.drew ?_ | refine Ext.drewN ?_ _ | refine Ext.alloc ?_ _ | refine Ext.setCell ?_ (by simp; try omega) _ | refine Ext.trans ?_ (by assumption))) ?_
            clear hK K
            (try simp only [Act.put, List.setIfInBounds_toArray, List.set_cons_zero, List.set_cons_succ])
            refine wpE_done (by kernel_rfl) (fun p => ?_)
            exact ⟨rfl, _, _, _, _, _, _, _, _, _, _, _, _, _, _, _, _, _, _, _, _, _, _, _, _, _, _, _, _, _, _, _, _, _, _, _, _, _, _, _, _, _, _, _, _, _, _, _, _, _, _, _, _, _, _, _, _, _, _, _, _, _, _, _, _, _, _, _, _, _, _, _, _, _, _, _, _, rfl, (by repeat (first | exact Ext.refl _ | assumption | refine Ext.more ?_ _ | refine Ext.drew ?_ | refine Ext.drewN ?_ _ | refine Ext.alloc ?_ _ | refine Ext.setCell ?_ (by simp; try omega) _ | refine Ext.trans ?_ (by assumption))), Ext.cell (a := W) (by repeat (first | exact Ext.refl _ | assumption | refine Ext.more ?_ _ | refine Ext.drew ?_ | refine Ext.drewN ?_ _ | refine Ext.alloc ?_ _ | refine Ext.setCell ?_ (by simp; try omega) _ | refine Ext.trans ?_ (by assumption))) c0, Ext.cell (a := W) (by repeat (first | exact Ext.refl _ | assumption | refine Ext.more ?_ _ | refine Ext.drew ?_ | refine Ext.drewN ?_ _ | refine Ext.alloc ?_ _ | refine Ext.setCell ?_ (by simp; try omega) _ | refine Ext.trans ?_ (by assumption))) c1, Ext.cell (a := W) (by repeat (first | exact Ext.refl _ | assumption | refine Ext.more ?_ _ | refine Ext.drew ?_ | refine Ext.drewN ?_ _ | refine Ext.alloc ?_ _ | refine Ext.setCell ?_ (by simp; try omega) _ | refine Ext.trans ?_ (by assumption))) c2, Ext.cell (a := W) (by repeat (first | exact Ext.refl _ | assumption | refine Ext.more ?_ _ | refine Ext.drew ?_ | refine Ext.drewN ?_ _ | refine Ext.alloc ?_ _ | refine Ext.setCell ?_ (by simp; try omega) _ | refine Ext.trans ?_ (by assumption))) c3, Ext.cell (a := W) (by repeat (first | exact Ext.refl _ | assumption | refine Ext.more ?_ _ | refine Ext.drew ?_ | refine Ext.drewN ?_ _ | refine Ext.alloc ?_ _ | refine Ext.setCell ?_ (by simp; try omega) _ | refine Ext.trans ?_ (by assumption))) c4, Ext.cell (a := W) (by repeat (first | exact Ext.refl _ | assumption | refine Ext.more ?_ _ | refine Ext.drew ?_ | refine Ext.drewN ?_ _ | refine Ext.alloc ?_ _ | refine Ext.setCell ?_ (by simp; try omega) _ | refine Ext.trans ?_ (by assumption))) c5, by simp [go_sem], by simp [go_sem], by simp [go_sem], by simp [go_sem]⟩
          exact AllE.nil
        exact AllE.nil
      exact AllE.nil
    refine AllE.cons rfl (by rfl) (fun p K hK => ?_) ?_
    · go_simp
      refine hK.out _ _ (by repeat (first | exact Ext.refl _ | assumption | refine Ext.more ?_ _ | refine Ext.drew ?_ | refine Ext.drewN ?_ _ | refine Ext.alloc ?_ _ | refine Ext.setCell ?_ (by simp; try omega) _ | refine Ext.trans ?_ (by assumption))) ?_
      clear hK K
      (try simp only [Act.put, List.setIfInBounds_toArray, List.set_cons_zero, List.set_cons_succ])
      refine wpE_ready [6] (by kernel_rfl) (by simp) ?_
      refine AllE.cons rfl (by rfl) (fun p K hK => ?_) ?_
      · go_simp
        refine hK.out _ _ (by repeat (first | exact Ext.refl _ | assumption | refine Ext.more ?_ _ | refine Ext.drew ?_ | refine Ext.drewN ?_ _ | refine Ext.alloc ?_ _ | refine Ext.setCell ?_ (by simp; try omega) _ | refine Ext.trans ?_ (by assumption))) ?_
        clear hK K
        (try simp only [Act.put, List.setIfInBounds_toArray, List.set_cons_zero, List.set_cons_succ])
        refine wpE_ready [8] (by kernel_rfl) (by simp) ?_
        refine AllE.cons rfl (by rfl) (fun p K hK => ?_) ?_
        · go_simp
          refine hK.out _ _ (by repeat (first | exact Ext.refl _ | assumption | refine Ext.more ?_ _ | refine Ext.drew ?_ | refine Ext.drewN ?_ _ | refine Ext.alloc ?_ _ | refine Ext.setCell ?_ (by simp; try omega) _ | refine Ext.trans ?_ (by assumption))) ?_
          clear hK K
          (try simp only [Act.put, List.setIfInBounds_toArray, List.set_cons_zero, List.set_cons_succ])
          refine wpE_ready [9] (by kernel_rfl) (by simp) ?_
          refine AllE.cons rfl (by rfl) (fun p K hK => ?_) ?_
          · go_simp
            refine hK.out _ _ (by repeat (first | exact Ext.refl _ | assumption | refine Ext.more ?_ _ | refine Ext.drew ?_ | refine Ext.drewN ?_ _ | refine Ext.alloc ?_ _ | refine Ext.setCell ?_ (by simp; try omega) _ | refine Ext.trans ?_ (by assumption))) ?_
            clear hK K
            (try simp only [Act.put, List.setIfInBounds_toArray, List.set_cons_zero, List.set_cons_succ])
            refine wpE_done (by kernel_rfl) (fun p => ?_)
            exact ⟨rfl, _, _, _, _, _, _, _, _, _, _, _, _, _, _, _, _, _, _, _, _, _, _, _, _, _, _, _, _, _, _, _, _, _, _, _, _, _, _, _, _, _, _, _, _, _, _, _, _, _, _, _, _, _, _, _, _, _, _, _, _, _, _, _, _, _, _, _, _, _, _, _, _, _, _, _, _, rfl, (by repeat (first | exact Ext.refl _ | assumption | refine Ext.more ?_ _ | refine Ext.drew ?_ | refine Ext.drewN ?_ _ | refine Ext.alloc ?_ _ | refine Ext.setCell ?_ (by simp; try omega) _ | refine Ext.trans ?_ (by assumption))), Ext.cell (a := W) (by repeat (first | exact Ext.refl _ | assumption | refine Ext.more ?_ _ | refine Ext.drew ?_ | refine Ext.drewN ?_ _ | refine Ext.alloc ?_ _ | refine Ext.setCell ?_ (by simp; try omega) _ | refine Ext.trans ?_ (by assumption))) c0, Ext.cell (a := W) (by repeat (first | exact Ext.refl _ | assumption | refine Ext.more ?_ _ | refine Ext.drew ?_ | refine Ext.drewN ?_ _ | refine Ext.alloc ?_ _ | refine Ext.setCell ?_ (by simp; try omega) _ | refine Ext.trans ?_ (by assumption))) c1, Ext.cell (a := W) (by repeat (first | exact Ext.refl _ | assumption | refine Ext.more ?_ _ | refine Ext.drew ?_ | refine Ext.drewN ?_ _ | refine Ext.alloc ?_ _ | refine Ext.setCell ?_ (by simp; try omega) _ | refine Ext.trans ?_ (by assumption))) c2, Ext.cell (a := W) (by repeat (first | exact Ext.refl _ | assumption | refine Ext.more ?_ _ | refine Ext.drew ?_ | refine Ext.drewN ?_ _ | refine Ext.alloc ?_ _ | refine Ext.setCell ?_ (by simp; try omega) _ | refine Ext.trans ?_ (by assumption))) c3, Ext.cell (a := W) (by repeat (first | exact Ext.refl _ | assumption | refine Ext.more ?_ _ | refine Ext.drew ?_ | refine Ext.drewN ?_ _ | refine Ext.alloc ?_ _ | refine Ext.setCell ?_ (by simp; try omega) _ | refine Ext.trans ?_ (by assumption))) c4, Ext.cell (a := W) (by repeat (first | exact Ext.refl _ | assumption | refine Ext.more ?_ _ | refine Ext.drew ?_ | refine Ext.drewN ?_ _ | refine Ext.alloc ?_ _ | refine Ext.setCell ?_ (by simp; try omega) _ | refine Ext.trans ?_ (by assumption))) c5, by simp [go_sem], by simp [go_sem], by simp [go_sem], by simp [go_sem]⟩
          exact AllE.nil
        exact AllE.nil
      exact AllE.nil
    exact AllE.nil

set_option linter.unusedVariables false in
set_option maxRecDepth 100000 in
theorem lifted (os : Os) (started : os.Started) (H : Type) (enc : TypeId × Value → H) :
    ReturnsInHanded {} Try.checked os 5 .any (Rows.labelBoundsSpec.pre6 enc Try.prog Try.f5 Rows.labelBoundsRow.domain false) (Rows.labelBoundsSpec.post enc Try.prog Try.f5 false true false false) := by
  refine returnsInHanded_of_change (C := Try.checked) Own.own started (by kernel_rfl) Try.func5
    (ChangeSpec.witness6 (enc := enc) (C := Try.checked) false ⟨#[], #[.agg #[.int .i64 0, .int .u64 0], .agg #[.int .i64 0, .int .u64 0], .agg #[.int .i64 0, .int .u64 0]], []⟩ 8 (by kernel_rfl) (by kernel_rfl) (by kernel_rfl) (by kernel_rfl)) ?_
  intro W base args ds gs before hval0 hW hcnd _
  have hval : ∀ (j : Nat) t v, Try.f5.params[j]? = some t → args[j]? = some v → Value.okWide Try.prog W .any base t v := hval0
  have hW' := hW
  obtain ⟨p, q, hA0, hV, rfl, hfz, hnd⟩ := hW
  have hA : DataW.TrodAll enc Try.prog W 0 (fun _ => true) true Try.f5.params.toList args.toList ds p := hA0
  rw [Try.params5] at hA hval
  obtain ⟨v0, vs0, d0, ds0, p0, q0, hargs, rfl, rfl, h0, r0⟩ := trodAll_cons hA
  obtain ⟨v1, vs1, d1, ds1, p1, q1, rfl, rfl, rfl, h1, r1⟩ := trodAll_cons r0
  obtain ⟨v2, vs2, d2, ds2, p2, q2, rfl, rfl, rfl, h2, r2⟩ := trodAll_cons r1
  obtain ⟨rfl, rfl, rfl⟩ := trodAll_nil r2
  obtain rfl : args = #[v0, v1, v2] := by cases args; simp_all
  obtain ⟨rfl, rfl⟩ := trodVars_none hV
  have k0 := h0
  have lt0 : ∀ x ∈ p0, x.block < W.heap.size := by obtain ⟨m, hm⟩ := k0; exact DataW.trod_lt m _ _ _ hm
  have k1 := h1
  have lt1 : ∀ x ∈ p1, x.block < W.heap.size := by obtain ⟨m, hm⟩ := k1; exact DataW.trod_lt m _ _ _ hm
  have k2 := h2
  have lt2 : ∀ x ∈ p2, x.block < W.heap.size := by obtain ⟨m, hm⟩ := k2; exact DataW.trod_lt m _ _ _ hm
  obtain ⟨a, b, rfl, hb⟩ := Own.open_label (hval 0 24 v0 rfl rfl) h0
  obtain ⟨c, d, rfl, hd⟩ := Own.open_label (hval 1 24 v1 rfl rfl) h1
  obtain ⟨e, f, rfl, hf⟩ := Own.open_label (hval 2 24 v2 rfl rfl) h2
  clear hA0 hval0
  refine (walk a b c d e f hb hd hf W).mono fun e W' ⟨he, hx⟩ => ?_
  subst he
  exact ⟨_, rfl, _, _, _, [], _, [], hW', trodAll_mk1 (shut_bool Try.underlying4 _), (trodAll_cons_mk (Below.trod Own.laidOut (by kernel_rfl) (of_decide_eq_true (by kernel_rfl)) k0 hx.below lt0) (trodAll_cons_mk (Below.trod Own.laidOut (by kernel_rfl) (of_decide_eq_true (by kernel_rfl)) k1 hx.below lt1) (trodAll_cons_mk (Below.trod Own.laidOut (by kernel_rfl) (of_decide_eq_true (by kernel_rfl)) k2 hx.below lt2) trodAll_mk0))), rfl, hx.below.frame _, fun h => by cases h⟩

theorem proved : Rows.LabelBoundsSaid :=
  OpenClaim.holds_of_wide 5 Try.f5 rfl rfl rfl rfl rfl rfl rfl ⟨rfl, rfl, rfl, rfl, rfl⟩ rfl rfl rfl rfl rfl (by kernel_rfl) Try.func5 (by kernel_rfl)
    (of_decide_eq_true (by kernel_rfl)) (by unfold Func.isWrapper; first | (rw [if_pos (by decide +kernel)]; kernel_rfl) | (rw [if_neg (by decide +kernel)]; exact ⟨rfl, rfl⟩))
    (fun os started H enc _ => lifted os started H enc)

end labelBounds
end Go.Proofs.Ytbbbcpkhobbadaa
