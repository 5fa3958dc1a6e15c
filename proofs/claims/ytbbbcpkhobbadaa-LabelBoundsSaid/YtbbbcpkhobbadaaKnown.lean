/- What the statements' own check of a few labels comes to. -/
import Derived.Test.YtbbbcpkhobbadaaLabel
namespace Go.Proofs.Ytbbbcpkhobbadaa
open Go.RowKit

theorem labels_two (W : World) (a b c d : Int) (b0 : Nat) (hb : U64 b) (hd : U64 d) (h0 : W.cell? ⟨b0, 0, none⟩ = some (.int .i64 a)) (h1 : W.cell? ⟨b0, 1, none⟩ = some (.int .u64 b)) (h2 : W.cell? ⟨b0, 2, none⟩ = some (.int .i64 c)) (h3 : W.cell? ⟨b0, 3, none⟩ = some (.int .u64 d)) :
    Labels W (.slice (some ⟨b0, 0, none⟩) 2 2) [(a, b), (c, d)] := by
  refine ⟨_, 2, rfl, by simp, by unfold maxLen; omega, fun _ => ⟨b0, 0, rfl, fun i x hi => ?_⟩⟩
  match i, hi with
  | 0, hi => simp at hi; subst hi; exact ⟨h0, h1, hb⟩
  | 1, hi => simp at hi; subst hi; exact ⟨h2, h3, hd⟩
theorem labels_none (W : World) : Labels W (.slice none 0 0) [] := ⟨none, 0, rfl, by simp, by simp, fun h => by simp at h⟩
theorem u64_1 : U64 1 := ⟨by omega, by omega⟩
theorem u64_3 : U64 3 := ⟨by omega, by omega⟩

set_option maxRecDepth 100000 in
set_option maxHeartbeats 2000000 in
theorem known_any (w : World) : Calls Try.prog 8 #[] w (Yields w (.bool true)) := by
  have e1 : isB 1 = true := by decide
  have e2 : isB 256 = false := by decide
  have e3 : leqB 1 1 2 3 = true := by decide
  have e4 : leqB 2 3 1 1 = false := by decide
  have e9 : chainB [] = true := by decide
  have e5 : chainB [(1, 1), (2, 3)] = true := by decide
  have e6 : chainB [(1, 1), (1, 1)] = false := by decide
  have e7 : eqB (maxI 1 2) (bits BinOp.or IntKind.u64 1 3) 2 3 = true := by decide
  have e8 : eqB (minI 1 2) (bits BinOp.and IntKind.u64 1 3) 1 1 = true := by decide
  go_enter Try.func8, Try.ntmps8
  go_wp2
  go_region_held3 (fun wx => Ext w wx ∧ wx.cell? ⟨w.heap.size, 0, none⟩ = some (.int .i64 1) ∧ wx.cell? ⟨w.heap.size, 1, none⟩ = some (.int .u64 1) ∧ wx.cell? ⟨w.heap.size + 1, 0, none⟩ = some (.int .i64 2) ∧ wx.cell? ⟨w.heap.size + 1, 1, none⟩ = some (.int .u64 3))
    (first | (go_split_ands; with_reducible exact ⟨Ext.trans (by assumption) hq, Ext.cell hq (by assumption), Ext.cell hq (by assumption), Ext.cell hq (by assumption), Ext.cell hq (by assumption)⟩) | (go_split_ands; with_reducible exact ⟨Ext.alloc (by assumption) _, Ext.cell (Ext.alloc (Ext.refl _) _) (by assumption), Ext.cell (Ext.alloc (Ext.refl _) _) (by assumption), Ext.cell (Ext.alloc (Ext.refl _) _) (by assumption), Ext.cell (Ext.alloc (Ext.refl _) _) (by assumption)⟩) | exact ⟨Ext.drew (Ext.alloc (Ext.alloc (Ext.refl _) _) _), by simp, by simp, by simp, by simp⟩)
    (first
      | (go_at_call 9; refine (is_any _ _ _).mono ?_; rintro e w' ⟨rfl, hq⟩)
      | (go_at_call 11; refine (leq_any _ _ _ _ _).mono ?_; rintro e w' ⟨rfl, hq⟩)
      | (go_at_call 13; refine (join_any _ _ _ _ _).mono ?_; rintro e w' ⟨rfl, hq⟩)
      | (go_at_call 15; refine (meet_any _ _ _ _ _).mono ?_; rintro e w' ⟨rfl, hq⟩)
      | (go_at_call_of 17 (Value.slice none 0 0); refine (chain_any _ _ _ (labels_none _)).mono ?_; rintro e w' ⟨rfl, hq⟩)
      | (go_at_call 17; refine (chain_any _ _ _ (labels_two _ 1 1 2 3 _ u64_1 u64_3 ?_ ?_ ?_ ?_)).mono ?_; (· simp); (· simp); (· simp); (· simp); rintro e w' ⟨rfl, hq⟩)
      | (go_at_call 17; refine (chain_any _ _ _ (labels_two _ 1 1 1 1 _ u64_1 u64_1 ?_ ?_ ?_ ?_)).mono ?_; (· simp); (· simp); (· simp); (· simp); rintro e w' ⟨rfl, hq⟩))
  go_split_ands
  go_wp2
  go_returns
  exact ⟨rfl, by assumption⟩
end Go.Proofs.Ytbbbcpkhobbadaa
