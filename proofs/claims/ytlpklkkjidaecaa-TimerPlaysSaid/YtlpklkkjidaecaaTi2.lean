/- put: an entry into a place, the place by its id. -/
import Derived.Test.YtlpklkkjidaecaaTi1
import Derived.WalkKit
import Derived.WalkSpells
import Derived.WalkLawsBesides
import Derived.Deep.RegionLaw
import Derived.Handy
namespace Go.Proofs.Ytlpklkkjidaecaa
open Go.RowKit
namespace Ti
open Rw
open Go.Maps (Tidy IsMap Keyed)

/-- m[k] = v, at the operation, in a region that draws: the map owned. -/
theorem oper_mapUpdate {o : Oper} {a : Act} {w : World} {K : Act → World → Prop} {Q : Exit → Act → World → Prop} (m x v : Operand) (hop : o.op = Op.mapUpdate 47 m x v)
    {b : Nat} {D : DataW Unit} (hown : OM w b D) (hn : Maps.size D < maxLen) (k d : Int) (hm : a.eval m = .map (some b)) (hx : a.eval x = .int .i64 k) (hv : a.eval v = .int .i64 d) (hk : (Lit.int .i64 k).wf = true) (hd : (Lit.int .i64 d).wf = true)
    (hK : ∀ w', OM w' b (D.put (key k) (.lit (.int .i64 d))) → w.grownBy w' (some b) → K (a.put o.dst undef) w') : Oper.wp Try.prog o a w K Q := by
  obtain ⟨w', hrun, r1, r2⟩ := World.ownsMap.update hown law Try.underlying47 hn (Go.Maps.keyOf_int_mk Try.underlying3 hk) (plainElem_int (H := Unit) Try.underlying3 hd)
  unfold Oper.wp
  simp [execOp, hop, hm, hx, hv, hrun, Result.andThen]
  exact hK w' (tight r1) r2

def wf64 (k : Int) : Prop := -9223372036854775808 ≤ k ∧ k ≤ 9223372036854775807
theorem wf64.lit {k : Int} (h : wf64 k) : (Lit.int .i64 k).wf = true := by
  exact WalkArith.wf_i64 h

section
variable {base x : Nat} {v m : Value} {l : List En} {D : DataW Unit} {w : World}
set_option maxRecDepth 100000 in
set_option maxHeartbeats 2000000 in
theorem put_any {g n cap bm : Nat} (h : Tm base x (.slice (some ⟨g, 0, none⟩) n cap) (.map (some bm)) l D w) (i : Nat) (e : En) (hi : i < l.length) (hl : l.length ≤ 1000000) (hs : Maps.size D ≤ 1000000) (he : wf64 e.1) :
    Calls Try.prog 22 #[.pointer (some ⟨x, 0, none⟩), .int .i64 i, entV e] w fun r w' => r = .returned (.tuple #[]) ∧
      Tm base x (.slice (some ⟨g, 0, none⟩) n cap) (.map (some bm)) (l.set i e) (D.put (key e.1) (num i)) w' ∧ Mvp (Own x (.slice (some ⟨g, 0, none⟩) n cap) (.map (some bm))) (Own x (.slice (some ⟨g, 0, none⟩) n cap) (.map (some bm))) w w' := by
  have hn : n = l.length := by
    rcases h.row.2 with ⟨h1, _⟩ | ⟨g', cap', cur, h1, _⟩
    · cases h1
    · injection h1
  obtain ⟨e1, e2⟩ := e
  obtain ⟨a, ha⟩ := get_lt hi
  have hxl := h.lt
  have hgl := (h.own g (.inr (.inl rfl))).2
  have HI := hid h
  obtain ⟨c0, c1, f0, f1⟩ := h.cells
  have hrow := h.row
  rw [← hn] at hrow
  obtain ⟨d0, d1, g0, g1⟩ := hrow.cell ha
  have i1 : (i : Int) < (n : Int) := by omega
  have i2 : (0 : Int) ≤ (i : Int) := by omega
  have hib : (i : Int) ≤ 1000000 := by omega
  clear h ha hi hl hn hrow
  go_enter Try.func22, Try.ntmps22
  go_wp2
  go_region
  go_wp2
  have H1 := HI.out.set i (e1, e2)
  have M1 : Mvp (Own x (.slice (some ⟨g, 0, none⟩) n cap) (.map (some bm))) (Own x (.slice (some ⟨g, 0, none⟩) n cap) (.map (some bm))) w _ := ((Mvp.refl _ w).set (g := g) (.inr (.inl rfl)) (i * 2) (.int .i64 e1)).set (g := g) (.inr (.inl rfl)) (i * 2 + 1) (.int .i64 e2)
  simp only at H1
  have sz : w.heap.size = ((w.setCell ⟨g, i * 2, none⟩ (.int .i64 e1)).setCell ⟨g, i * 2 + 1, none⟩ (.int .i64 e2)).heap.size := by simp [World.setCell]
  generalize (w.setCell ⟨g, i * 2, none⟩ (.int .i64 e1)).setCell ⟨g, i * 2 + 1, none⟩ (.int .i64 e2) = w1 at *
  have b1 : (w1.alloc (.cells #[.int .i64 e1, .int .i64 e2] 51)).heap[w.heap.size]? = some (.cells #[.int .i64 e1, .int .i64 e2] 51 (0, 0)) := by rw [sz]; exact heap_alloc_new _ _
  have H2 := H1.ext (Ext.drew (Ext.alloc (Ext.refl w1) (.cells #[.int .i64 e1, .int .i64 e2] 51)))
  have M2 := M1.ext (Ext.drew (Ext.alloc (Ext.refl w1) (.cells #[.int .i64 e1, .int .i64 e2] 51)))
  have b2 : ((w1.alloc (.cells #[.int .i64 e1, .int .i64 e2] 51)).drew).cell? ⟨w.heap.size, 0, none⟩ = some (.int .i64 e1) := by
    show (w1.alloc (.cells #[.int .i64 e1, .int .i64 e2] 51)).cell? _ = _
    simp [World.cell?, b1]
  clear H1 M1 sz b1 c0 c1 f0 f1 d0 d1 g0 g1 HI
  generalize (w1.alloc (.cells #[.int .i64 e1, .int .i64 e2] 51)).drew = w2 at *
  obtain ⟨-, c1, -, -⟩ := H2.cells
  refine wp_region_T 7 1 (fun u => u.cell? ⟨x, 1, none⟩ = some (.map (some bm)) ∧ u.cell? ⟨w.heap.size, 0, none⟩ = some (.int .i64 e1)) (by kernel_rfl) (by kernel_rfl) ?_
  have HSS : w2.drew.cell? ⟨x, 1, none⟩ = some (.map (some bm)) ∧ w2.drew.cell? ⟨w.heap.size, 0, none⟩ = some (.int .i64 e1) := ⟨c1, b2⟩
  refine wpT_take 0 (v := ?v1) rfl (by kernel_rfl) (by kernel_rfl) (by kernel_rfl) (by kernel_rfl) (by intro _ _ _ h; first | exact h | (obtain ⟨h, _⟩ := h; cases h)) (by rfl) HSS ?hy1 ?_
  case hy1 => (intro u hu; obtain ⟨h1, h2⟩ := hu; go_simp; first | done | (with_reducible rfl))
  (try simp only [Act.put, List.getElem_toArray, List.getElem_cons_zero, List.setIfInBounds_toArray, List.set_cons_zero, List.set_cons_succ])
  refine wpT_take 1 (v := ?v2) rfl (by kernel_rfl) (by kernel_rfl) (by kernel_rfl) (by kernel_rfl) (by intro _ _ _ h; first | exact h | (obtain ⟨h, _⟩ := h; cases h)) (by rfl) HSS ?hy2 ?_
  case hy2 => (intro u hu; obtain ⟨h1, h2⟩ := hu; go_simp; first | done | (with_reducible rfl))
  (try simp only [Act.put, List.getElem_toArray, List.getElem_cons_zero, List.getElem_cons_succ, List.setIfInBounds_toArray, List.set_cons_zero, List.set_cons_succ])
  refine wpT_take 2 (v := ?v3) rfl (by kernel_rfl) (by kernel_rfl) (by kernel_rfl) (by kernel_rfl) (by intro _ _ _ h; first | exact h | (obtain ⟨h, _⟩ := h; cases h)) (by rfl) HSS ?hy3 ?_
  case hy3 => (intro u hu; obtain ⟨h1, h2⟩ := hu; go_simp; first | done | (with_reducible rfl))
  (try simp only [Act.put, List.getElem_toArray, List.getElem_cons_zero, List.getElem_cons_succ, List.setIfInBounds_toArray, List.set_cons_zero, List.set_cons_succ])
  refine wpT_take 3 (v := ?v4) rfl (by kernel_rfl) (by kernel_rfl) (by kernel_rfl) (by kernel_rfl) (by intro _ _ _ h; first | exact h | (obtain ⟨h, _⟩ := h; cases h)) (by rfl) HSS ?hy4 ?_
  case hy4 => (intro u hu; obtain ⟨h1, h2⟩ := hu; go_simp; first | done | (with_reducible rfl))
  (try simp only [Act.put, List.getElem_toArray, List.getElem_cons_zero, List.getElem_cons_succ, List.setIfInBounds_toArray, List.set_cons_zero, List.set_cons_succ])
  refine wpT_take 4 (v := ?v5) rfl (by kernel_rfl) (by kernel_rfl) (by kernel_rfl) (by kernel_rfl) (by intro _ _ _ h; first | exact h | (obtain ⟨h, _⟩ := h; cases h)) (by rfl) HSS ?hy5 ?_
  case hy5 => (intro u hu; obtain ⟨h1, h2⟩ := hu; go_simp; first | done | (with_reducible rfl))
  (try simp only [Act.put, List.getElem_toArray, List.getElem_cons_zero, List.getElem_cons_succ, List.setIfInBounds_toArray, List.set_cons_zero, List.set_cons_succ])
  refine wpT_take 5 (v := ?v6) rfl (by kernel_rfl) (by kernel_rfl) (by kernel_rfl) (by kernel_rfl) (by intro _ _ _ h; first | exact h | (obtain ⟨h, _⟩ := h; cases h)) (by rfl) HSS ?hy6 ?_
  case hy6 => (intro u hu; obtain ⟨h1, h2⟩ := hu; go_simp; first | done | (with_reducible rfl))
  (try simp only [Act.put, List.getElem_toArray, List.getElem_cons_zero, List.getElem_cons_succ, List.setIfInBounds_toArray, List.set_cons_zero, List.set_cons_succ])
  refine wpT_take 6 (v := ?v7) rfl (by kernel_rfl) (by kernel_rfl) (by kernel_rfl) (by kernel_rfl) (by intro _ _ _ h; first | exact h | (obtain ⟨h, _⟩ := h; cases h)) (by rfl) HSS ?hy7 ?_
  case hy7 => (intro u hu; obtain ⟨h1, h2⟩ := hu; go_simp; first | done | (with_reducible rfl))
  (try simp only [Act.put, List.getElem_toArray, List.getElem_cons_zero, List.getElem_cons_succ, List.setIfInBounds_toArray, List.set_cons_zero, List.set_cons_succ])
  refine wpT_done (by kernel_rfl) ?_
  refine wpAny_one 7 rfl (by kernel_rfl) (by rfl) (fun K' hK => ?_)
  refine oper_mapUpdate (.tmp 16) (.tmp 18) (.tmp 19) rfl (World.ownsMap.drew H2.om.1) (by unfold maxLen; omega) e1 i rfl rfl rfl he.lit (wf64.lit (by unfold wf64; omega)) ?_
  intro w3 o3 g3
  refine hK.out _ _ ?_
  refine wpAny_done (by kernel_rfl) ?_ _
  simp only [Act.put, List.getElem_toArray, List.getElem_cons_zero, List.getElem_cons_succ]
  go_returns
  have X3 : Ext w2 w2.drew := Ext.drew (Ext.refl _)
  exact ⟨rfl, (H2.ext X3).mapped o3 g3, (M2.ext X3).grown (.inr (.inr rfl)) g3⟩
end
end Ti
end Go.Proofs.Ytlpklkkjidaecaa
