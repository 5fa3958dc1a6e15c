/- What the small functions of package conf come to. -/
import Derived.Test.YtmpgeabfogcblaaGreatRows
import Derived.Test.YtmpgeabfogcblaaGreatConf
import Derived.Test.YtmpgeabfogcblaaGreatMath3b
import Derived.Test.YtmpgeabfogcblaaGreatLabel
import Derived.WalkKit
import Derived.WalkSpells
import Derived.WalkLawsBesides
import Derived.Deep.QuietTactic
import Derived.BigQuiet
import Derived.Deep.RegionHeld3
import Derived.Handy
namespace Go.Proofs.YtmpgeabfogcblaaGreat
open Go.RowKit

theorem all_take' {α : Type} (l : List α) (f : α → Bool) (k : Nat) (h : k < l.length) (ht : (l.take k).all f = true) : (l.take (k + 1)).all f = f l[k] := by
  rw [List.take_succ_eq_append_getElem h, List.all_append, ht]; simp
theorem all_bad' {α : Type} (l : List α) (f : α → Bool) (k : Nat) (h : k < l.length) (hf : f l[k] = false) : l.all f = false := by
  rw [List.all_eq_false]
  exact ⟨l[k], List.getElem_mem h, by simp [hf]⟩
theorem any_take' {α : Type} (l : List α) (f : α → Bool) (k : Nat) (h : k < l.length) : (l.take (k + 1)).any f = ((l.take k).any f || f l[k]) := by
  rw [List.take_succ_eq_append_getElem h, List.any_append]; simp
/-- What is known of a struct's box. -/
theorem blk_cell2 {w : World} {b : Nat} {cs : Array Value} {T : TypeId} (h : w.heap[b]? = some (.cells cs T (0, 0))) {j : Nat} : w.cell? ⟨b, j, none⟩ = cs[j]? := by simp [World.cell?, h]
theorem boxed {w w' : World} {cs : Array Value} {T : TypeId} (h : Ext (w.alloc (.cells cs T (0, 0))) w') (j : Nat) (hj : j < cs.size) : w'.cell? ⟨w.heap.size, j, none⟩ = cs[j]? := by
  obtain ⟨v, hv⟩ : ∃ v, cs[j]? = some v := ⟨_, Array.getElem?_eq_getElem hj⟩
  rw [hv]
  exact h.cell (by rw [blk_cell2 (heap_alloc_new w _)]; exact hv)

set_option maxHeartbeats 400000 in
theorem cwithin_any (n a b : Int) (w : World) : Calls Tryz.prog 88 #[.int .i64 n, .int .i64 a, .int .i64 b] w (Yields w (.bool (withB n a b))) := by
  by_cases h : a ≤ n <;>
  · go_enter Tryz.func88, Tryz.ntmps88
    go_wp2
    go_ret
    exact ⟨by simp [withB]; try omega, (by repeat (first | exact Ext.refl _ | assumption | refine Ext.more ?_ _ | refine Ext.drew ?_ | refine Ext.drewN ?_ _ | refine Ext.alloc ?_ _ | refine Ext.setCell ?_ (by simp; try omega) _ | refine Ext.trans ?_ (by assumption)))⟩
theorem cwithin_to {n a b : Int} {r : Bool} (e : withB n a b = r) (w : World) : Calls Tryz.prog 88 #[.int .i64 n, .int .i64 a, .int .i64 b] w (Yields w (.bool r)) := e ▸ cwithin_any n a b w

set_option maxHeartbeats 400000 in
theorem isPlace_any (w : World) (c : Cnf) (pv dv : Value) (hc : ConfV w c pv dv) (n : Int) :
    Calls Tryz.prog 100 #[confV c pv dv, .int .i64 n] w (Yields w (.bool (withB n 0 ((c.doms.length : Int) - 1)))) := by
  obtain ⟨pd, cd, rfl, hd1, hd2⟩ := hc.doms.shape
  unfold maxLen at hd2
  clear hc
  go_enter Tryz.func100, Tryz.ntmps100
  go_wp2_with (go_at_call 88; refine (cwithin_any _ _ _ _).yields ?_; intro p0)
  go_returns
  exact ⟨rfl, (by repeat (first | exact Ext.refl _ | assumption | refine Ext.more ?_ _ | refine Ext.drew ?_ | refine Ext.drewN ?_ _ | refine Ext.alloc ?_ _ | refine Ext.setCell ?_ (by simp; try omega) _ | refine Ext.trans ?_ (by assumption)))⟩
theorem isPlace_to {c : Cnf} {n : Int} {r : Bool} (e : withB n 0 ((c.doms.length : Int) - 1) = r) (w : World) (pv dv : Value) (hc : ConfV w c pv dv) : Calls Tryz.prog 100 #[confV c pv dv, .int .i64 n] w (Yields w (.bool r)) := e ▸ isPlace_any w c pv dv hc n

theorem labels2 (W : World) (a b c d : Int) (b0 : Nat) (hb : U64 b) (hd : U64 d) (h0 : W.cell? ⟨b0, 0, none⟩ = some (.int .i64 a)) (h1 : W.cell? ⟨b0, 1, none⟩ = some (.int .u64 b)) (h2 : W.cell? ⟨b0, 2, none⟩ = some (.int .i64 c)) (h3 : W.cell? ⟨b0, 3, none⟩ = some (.int .u64 d)) :
    Labels W (.slice (some ⟨b0, 0, none⟩) 2 2) [(a, b), (c, d)] := by
  refine ⟨_, 2, rfl, by simp, by unfold maxLen; omega, fun _ => ⟨b0, 0, rfl, fun i x hi => ?_⟩⟩
  match i, hi with
  | 0, hi => simp at hi; subst hi; exact ⟨h0, h1, hb⟩
  | 1, hi => simp at hi; subst hi; exact ⟨h2, h3, hd⟩

set_option maxRecDepth 100000 in
set_option maxHeartbeats 2000000 in
theorem isAbove_any (w : World) (c : Cnf) (pv dv : Value) (hc : ConfV w c pv dv) (hi lo : Nat) (hhi : hi < c.doms.length) (hlo : lo < c.doms.length) :
    Calls Tryz.prog 101 #[confV c pv dv, .int .i64 hi, .int .i64 lo] w (Yields w (.bool (risesB (labAt c.doms lo).1 (labAt c.doms lo).2 (labAt c.doms hi).1 (labAt c.doms hi).2))) := by
  obtain ⟨pd, cd, rfl, hd1, hd2⟩ := hc.doms.shape
  unfold maxLen at hd2
  obtain ⟨db, doff, rfl, _, _, Dy, -, -, yu⟩ := hc.doms.at lo hlo
  obtain ⟨_, _, hpp, _, _, Dx, -, -, xu⟩ := hc.doms.at hi hhi
  have y0 := Dy.level
  have y1 := Dy.cats
  have x0 := Dx.level
  have x1 := Dx.cats
  clear Dy Dx
  cases hpp
  rw [labAt_get hlo, labAt_get hhi]
  clear hc
  generalize c.doms[lo] = y at *
  generalize c.doms[hi] = x at *
  have i1 : (lo : Int) < c.doms.length := by omega
  have i2 : (hi : Int) < c.doms.length := by omega
  have i3 : (0 : Int) ≤ lo := by omega
  have i4 : (0 : Int) ≤ hi := by omega
  have hdb := World.block_lt_of_cell? _ _ x0
  go_enter Tryz.func101, Tryz.ntmps101
  go_wp2
  go_region_held3 (fun wx => Ext w wx ∧ wx.cell? ⟨w.heap.size, 3, none⟩ = some (.slice (some ⟨db, doff, none⟩) c.doms.length cd) ∧ wx.cell? ⟨db, doff + lo * 10, none⟩ = some (.int .i64 y.level) ∧ wx.cell? ⟨db, doff + lo * 10 + 1, none⟩ = some (.int .u64 y.cats) ∧ wx.cell? ⟨db, doff + hi * 10, none⟩ = some (.int .i64 x.level) ∧ wx.cell? ⟨db, doff + hi * 10 + 1, none⟩ = some (.int .u64 x.cats))
    (first | (go_split_ands; with_reducible exact ⟨Ext.trans (by assumption) hq, Ext.cell hq (by assumption), Ext.cell hq (by assumption), Ext.cell hq (by assumption), Ext.cell hq (by assumption), Ext.cell hq (by assumption)⟩) | (go_split_ands; with_reducible exact ⟨Ext.alloc (by assumption) _, Ext.cell (Ext.alloc (Ext.refl _) _) (by assumption), Ext.cell (Ext.alloc (Ext.refl _) _) (by assumption), Ext.cell (Ext.alloc (Ext.refl _) _) (by assumption), Ext.cell (Ext.alloc (Ext.refl _) _) (by assumption), Ext.cell (Ext.alloc (Ext.refl _) _) (by assumption)⟩) | exact ⟨Ext.drew (Ext.alloc (Ext.refl _) _), by simp, Ext.cell (Ext.drew (Ext.alloc (Ext.refl _) _)) y0, Ext.cell (Ext.drew (Ext.alloc (Ext.refl _) _)) y1, Ext.cell (Ext.drew (Ext.alloc (Ext.refl _) _)) x0, Ext.cell (Ext.drew (Ext.alloc (Ext.refl _) _)) x1⟩ | (go_split_ands; refine ⟨(by repeat (first | exact Ext.refl _ | assumption | refine Ext.more ?_ _ | refine Ext.drew ?_ | refine Ext.drewN ?_ _ | refine Ext.alloc ?_ _ | refine Ext.setCell ?_ (by simp; try omega) _ | refine Ext.trans ?_ (by assumption))), ?_, ?_, ?_, ?_, ?_⟩ <;> go_keep))
    (first | (go_at_call 102; refine (chain_any _ _ _ (labels2 _ y.level y.cats x.level x.cats _ ⟨yu.1, yu.2⟩ ⟨xu.1, xu.2⟩ ?_ ?_ ?_ ?_)).mono ?_; (· simp); (· simp); (· simp); (· simp); rintro e w' ⟨rfl, hq⟩))
  go_split_ands
  go_wp2
  go_returns
  exact ⟨by simp [chainB, Dom.lab], by assumption⟩
theorem isAbove_to {c : Cnf} {hi lo : Nat} {r : Bool} (e : risesB (labAt c.doms lo).1 (labAt c.doms lo).2 (labAt c.doms hi).1 (labAt c.doms hi).2 = r) (w : World) (pv dv : Value) (hc : ConfV w c pv dv) (hhi : hi < c.doms.length) (hlo : lo < c.doms.length) :
    Calls Tryz.prog 101 #[confV c pv dv, .int .i64 hi, .int .i64 lo] w (Yields w (.bool r)) := e ▸ isAbove_any w c pv dv hc hi lo hhi hlo
end Go.Proofs.YtmpgeabfogcblaaGreat
