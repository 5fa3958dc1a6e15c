/- The document's own timers: a sleeper laid in its place. -/
import Derived.Test.YtlpklkkjidaecaaRf0
import Derived.Test.YtlpklkkjidaecaaTail
import Derived.Test.YtlpklkkjidaecaaPiece
import Derived.WalkKit
import Derived.WalkSpells
import Derived.WalkLawsBesides
import Derived.Deep.RegionLaw
import Derived.Handy
namespace Go.Proofs.Ytlpklkkjidaecaa
open Go.RowKit
namespace Rf
open Rw Ti
set_option linter.unusedSimpArgs false
theorem blk_cellS {w : World} {b : Nat} {cs : Array Value} {T : TypeId} (h : w.heap[b]? = some (.cells cs T (0, 0))) (j : Nat) : w.cell? ⟨b, j, none⟩ = cs[j]? := by simp [World.cell?, h]

/-- Behind it. -/
def InsPost (base y k : Nat) (id un : Int) (v : Value) (l : List En) (z : World) (a' : Act) (w' : World) : Prop :=
  ∃ (v' : Value) (u3 u4 u5 u7 u8 u9 u10 u11 u12 u13 u14 u15 u16 u17 u18 u19 u20 u21 u22 u23 u24 u25 u26 u27 u28 u29 u30 u31 u32 u33 u34 u35 u36 u37 u38 u39 u40 u41 u42 u43 u44 u45 u46 u47 u48 u49 u50 u51 u52 : Value), a' = { tmps := #[.pointer (some ⟨y, 0, none⟩), .int .i64 id, .int .i64 un, u3, u4, u5, .int .i64 k, u7, u8, u9, u10, u11, u12, u13, u14, u15, u16, u17, u18, u19, u20, u21, u22, u23, u24, u25, u26, u27, u28, u29, u30, u31, u32, u33, u34, u35, u36, u37, u38, u39, u40, u41, u42, u43, u44, u45, u46, u47, u48, u49, u50, u51, u52], defers := [] } ∧ Rm base y v' l w' ∧ Mvp (ROwn y v) (ROwn y v') z w'

set_option maxRecDepth 100000 in
set_option maxHeartbeats 4000000 in
theorem ins_piece {base y k : Nat} {id un : Int} {v : Value} {l : List En} {z : World} (h : Rm base y v l z) (hb : base ≤ z.heap.size) (hk : k ≤ l.length) (hl : l.length ≤ 1000) (u3 u4 u5 u7 u8 u9 u10 u11 u12 u13 u14 u15 u16 u17 u18 u19 u20 u21 u22 u23 u24 u25 u26 u27 u28 u29 u30 u31 u32 u33 u34 u35 u36 u37 u38 u39 u40 u41 u42 u43 u44 u45 u46 u47 u48 u49 u50 u51 u52 : Value) :
    (bodyAt Try.f10 [1, 1, 1]).wp Try.prog (Ends (InsPost base y k id un v (l.take k ++ (id, un) :: l.drop k) z)) ({ tmps := #[.pointer (some ⟨y, 0, none⟩), .int .i64 id, .int .i64 un, u3, u4, u5, .int .i64 k, u7, u8, u9, u10, u11, u12, u13, u14, u15, u16, u17, u18, u19, u20, u21, u22, u23, u24, u25, u26, u27, u28, u29, u30, u31, u32, u33, u34, u35, u36, u37, u38, u39, u40, u41, u42, u43, u44, u45, u46, u47, u48, u49, u50, u51, u52], defers := [] }) z := by
  obtain ⟨pl, pr, hpl, hpr, srcl, srcr⟩ := h.row.parts (P := Try.prog) (ST := 27) Try.underlying27 (fun w => rfl) k hk
  have hpl : ∀ w, (Instr.slice 27 v none (some (.int .i64 (k : Int))) none).run Try.prog w = .ok pl w := hpl
  have hpr : ∀ w, (Instr.slice 27 v (some (.int .i64 (k : Int))) none none).run Try.prog w = .ok pr w := hpr
  have HG := hid (And.intro hk (And.intro hl hb))
  have SL := hid srcl
  have SR := hid srcr
  unfold bodyAt Try.f10
  simp only [codeAt]
  refine wp_region_T 20 3 (fun u => u.cell? ⟨y, 0, none⟩ = some v) (by kernel_rfl) (by kernel_rfl) ?_
  have HM0 : Hid (Mvp (ROwn y v) (ROwn y v) z z.drew) := Mvp.of_ext (Ext.drew (Ext.refl z))
  have HT0 := hid (h.ext (Ext.drew (Ext.refl z)))
  have HZ : Hid (z.drew.heap.size = z.heap.size) := rfl
  have SL0 := hid (SL.out.ext (Ext.drew (Ext.refl z)))
  have SR0 := hid (SR.out.ext (Ext.drew (Ext.refl z)))
  clear h hb hl hk srcl srcr SL SR
  generalize z.drew = z0 at *
  have HSF : Hid (∀ u, Ext z0 u → u.cell? ⟨y, 0, none⟩ = some v) := fun u hu => hu.cell HT0.out.cells.1
  have HSS := HSF.out z0 (Ext.refl _)
  refine wpT_take 0 (v := ?v1) rfl (by kernel_rfl) (by kernel_rfl) (by kernel_rfl) (by kernel_rfl) (by intro _ _ _ h; first | exact h | (obtain ⟨h, _⟩ := h; cases h)) (by rfl) HSS ?hy1 ?_
  case hy1 => (intro u hu; obtain hu := hu; go_simp; first | done | (with_reducible rfl))
  (try simp only [Act.put, List.getElem_toArray, List.getElem_cons_zero, List.setIfInBounds_toArray, List.set_cons_zero, List.set_cons_succ])
  refine wpT_take 1 (v := ?v2) rfl (by kernel_rfl) (by kernel_rfl) (by kernel_rfl) (by kernel_rfl) (by intro _ _ _ h; first | exact h | (obtain ⟨h, _⟩ := h; cases h)) (by rfl) HSS ?hy2 ?_
  case hy2 => (intro u hu; obtain hu := hu; go_simp; first | done | (with_reducible rfl))
  (try simp only [Act.put, List.getElem_toArray, List.getElem_cons_zero, List.getElem_cons_succ, List.setIfInBounds_toArray, List.set_cons_zero, List.set_cons_succ])
  refine wpT_take 2 (v := ?v3) rfl (by kernel_rfl) (by kernel_rfl) (by kernel_rfl) (by kernel_rfl) (by intro _ _ _ h; first | exact h | (obtain ⟨h, _⟩ := h; cases h)) (by rfl) HSS ?hy3 ?_
  case hy3 => (intro u hu; obtain hu := hu; go_simp; first | done | (with_reducible rfl))
  (try simp only [Act.put, List.getElem_toArray, List.getElem_cons_zero, List.getElem_cons_succ, List.setIfInBounds_toArray, List.set_cons_zero, List.set_cons_succ])
  refine wpT_take 3 (v := ?v4) rfl (by kernel_rfl) (by kernel_rfl) (by kernel_rfl) (by kernel_rfl) (by intro _ _ _ h; first | exact h | (obtain ⟨h, _⟩ := h; cases h)) (by rfl) HSS ?hy4 ?_
  case hy4 => (intro u hu; obtain hu := hu; go_simp; first | done | (with_reducible rfl))
  (try simp only [Act.put, List.getElem_toArray, List.getElem_cons_zero, List.getElem_cons_succ, List.setIfInBounds_toArray, List.set_cons_zero, List.set_cons_succ])
  refine wpT_take 4 (v := ?v5) rfl (by kernel_rfl) (by kernel_rfl) (by kernel_rfl) (by kernel_rfl) (by intro _ _ _ h; first | exact h | (obtain ⟨h, _⟩ := h; cases h)) (by rfl) HSS ?hy5 ?_
  case hy5 => (intro u hu; obtain hu := hu; go_simp; first | done | (with_reducible rfl))
  (try simp only [Act.put, List.getElem_toArray, List.getElem_cons_zero, List.getElem_cons_succ, List.setIfInBounds_toArray, List.set_cons_zero, List.set_cons_succ])
  refine wpT_take 5 (v := ?v6) rfl (by kernel_rfl) (by kernel_rfl) (by kernel_rfl) (by kernel_rfl) (by intro _ _ _ h; first | exact h | (obtain ⟨h, _⟩ := h; cases h)) (by rfl) HSS ?hy6 ?_
  case hy6 => (intro u hu; obtain hu := hu; go_simp; first | done | (with_reducible rfl))
  (try simp only [Act.put, List.getElem_toArray, List.getElem_cons_zero, List.getElem_cons_succ, List.setIfInBounds_toArray, List.set_cons_zero, List.set_cons_succ])
  refine wpT_take 6 (v := ?v7) rfl (by kernel_rfl) (by kernel_rfl) (by kernel_rfl) (by kernel_rfl) (by intro _ _ _ h; first | exact h | (obtain ⟨h, _⟩ := h; cases h)) (by rfl) HSS ?hy7 ?_
  case hy7 => (intro u hu; obtain hu := hu; go_simp; first | done | (with_reducible rfl))
  (try simp only [Act.put, List.getElem_toArray, List.getElem_cons_zero, List.getElem_cons_succ, List.setIfInBounds_toArray, List.set_cons_zero, List.set_cons_succ])
  refine wpT_take 8 (v := ?v8) rfl (by kernel_rfl) (by kernel_rfl) (by kernel_rfl) (by kernel_rfl) (by intro _ _ _ h; first | exact h | (obtain ⟨h, _⟩ := h; cases h)) (by rfl) HSS ?hy8 ?_
  case hy8 => (intro u hu; obtain hu := hu; go_simp; first | done | (with_reducible rfl))
  (try simp only [Act.put, List.getElem_toArray, List.getElem_cons_zero, List.getElem_cons_succ, List.setIfInBounds_toArray, List.set_cons_zero, List.set_cons_succ])
  refine wpT_take 9 (v := ?v9) rfl (by kernel_rfl) (by kernel_rfl) (by kernel_rfl) (by kernel_rfl) (by intro _ _ _ h; first | exact h | (obtain ⟨h, _⟩ := h; cases h)) (by rfl) HSS ?hy9 ?_
  case hy9 => (intro u hu; obtain hu := hu; go_simp; first | done | (with_reducible rfl))
  (try simp only [Act.put, List.getElem_toArray, List.getElem_cons_zero, List.getElem_cons_succ, List.setIfInBounds_toArray, List.set_cons_zero, List.set_cons_succ])
  refine wpT_take 10 (v := ?v10) rfl (by kernel_rfl) (by kernel_rfl) (by kernel_rfl) (by kernel_rfl) (by intro _ _ _ h; first | exact h | (obtain ⟨h, _⟩ := h; cases h)) (by rfl) HSS ?hy10 ?_
  case hy10 => (intro u hu; obtain hu := hu; go_simp; first | done | (with_reducible rfl))
  (try simp only [Act.put, List.getElem_toArray, List.getElem_cons_zero, List.getElem_cons_succ, List.setIfInBounds_toArray, List.set_cons_zero, List.set_cons_succ])
  refine wpT_take 13 (v := ?v11) rfl (by kernel_rfl) (by kernel_rfl) (by kernel_rfl) (by kernel_rfl) (by intro _ _ _ h; first | exact h | (obtain ⟨h, _⟩ := h; cases h)) (by rfl) HSS ?hy11 ?_
  case hy11 => (intro u hu; obtain hu := hu; go_simp; first | done | (with_reducible rfl))
  (try simp only [Act.put, List.getElem_toArray, List.getElem_cons_zero, List.getElem_cons_succ, List.setIfInBounds_toArray, List.set_cons_zero, List.set_cons_succ])
  refine wpT_take 14 (v := ?v12) rfl (by kernel_rfl) (by kernel_rfl) (by kernel_rfl) (by kernel_rfl) (by intro _ _ _ h; first | exact h | (obtain ⟨h, _⟩ := h; cases h)) (by rfl) HSS ?hy12 ?_
  case hy12 => (intro u hu; obtain hu := hu; go_simp; first | done | (with_reducible rfl))
  (try simp only [Act.put, List.getElem_toArray, List.getElem_cons_zero, List.getElem_cons_succ, List.setIfInBounds_toArray, List.set_cons_zero, List.set_cons_succ])
  refine wpT_take 15 (v := ?v13) rfl (by kernel_rfl) (by kernel_rfl) (by kernel_rfl) (by kernel_rfl) (by intro _ _ _ h; first | exact h | (obtain ⟨h, _⟩ := h; cases h)) (by rfl) HSS ?hy13 ?_
  case hy13 => (intro u hu; obtain hu := hu; go_simp; first | done | (with_reducible rfl))
  (try simp only [Act.put, List.getElem_toArray, List.getElem_cons_zero, List.getElem_cons_succ, List.setIfInBounds_toArray, List.set_cons_zero, List.set_cons_succ])
  refine wpT_take 16 (v := ?v14) rfl (by kernel_rfl) (by kernel_rfl) (by kernel_rfl) (by kernel_rfl) (by intro _ _ _ h; first | exact h | (obtain ⟨h, _⟩ := h; cases h)) (by rfl) HSS ?hy14 ?_
  case hy14 => (intro u hu; obtain hu := hu; go_simp; first | done | (with_reducible rfl))
  (try simp only [Act.put, List.getElem_toArray, List.getElem_cons_zero, List.getElem_cons_succ, List.setIfInBounds_toArray, List.set_cons_zero, List.set_cons_succ])
  refine wpT_take 17 (v := ?v15) rfl (by kernel_rfl) (by kernel_rfl) (by kernel_rfl) (by kernel_rfl) (by intro _ _ _ h; first | exact h | (obtain ⟨h, _⟩ := h; cases h)) (by rfl) HSS ?hy15 ?_
  case hy15 => (intro u hu; obtain hu := hu; go_simp; first | done | (with_reducible rfl))
  (try simp only [Act.put, List.getElem_toArray, List.getElem_cons_zero, List.getElem_cons_succ, List.setIfInBounds_toArray, List.set_cons_zero, List.set_cons_succ])
  refine wpT_take 18 (v := ?v16) rfl (by kernel_rfl) (by kernel_rfl) (by kernel_rfl) (by kernel_rfl) (by intro _ _ _ h; first | exact h | (obtain ⟨h, _⟩ := h; cases h)) (by rfl) HSS ?hy16 ?_
  case hy16 => (intro u hu; obtain hu := hu; go_simp; first | done | (with_reducible rfl))
  (try simp only [Act.put, List.getElem_toArray, List.getElem_cons_zero, List.getElem_cons_succ, List.setIfInBounds_toArray, List.set_cons_zero, List.set_cons_succ])
  refine wpT_two 7 11 rfl rfl (by kernel_rfl) (by rfl) (by rfl) (fun K' hK => ?_) (fun K' hK => ?_)
  · skip
    refine wp_append_src (.const (.slice none 0 0)) (.tmp 37) 27 54 (.agg #[.int .i64 0, .int .i64 0]) 2 16 rfl Try.underlying27 enS rfl (by decide) (World.ownsRow_nil _ z0.heap.size _ _) rfl rfl (SL0.out.ext (Ext.refl z0)) (ecells_one _) (by unfold maxLen; have := HG.out; omega) (by have := HG.out; omega) (Nat.le_refl _) ?_
    intro r1 v1 ho1 hb1
    have HX1 : Hid (Ext z0 v1) := (Ext.refl z0).trans ⟨hb1⟩
    simp only [List.nil_append, Nat.zero_add] at ho1
    have HO1 := hid (owns_base ho1 (Ext.refl z0).size)
    have HBE := hid hb1
    clear ho1 hb1
    refine hK.out _ _ (HSF.out _ HX1.out) ?_
    clear hK K' HSS
    have HSS := HSF.out _ HX1.out
    (try simp only [Act.put, List.getElem_toArray, List.getElem_cons_zero, List.getElem_cons_succ, List.setIfInBounds_toArray, List.set_cons_zero, List.set_cons_succ])
    refine wpT_one 11 rfl (by kernel_rfl) (by rfl) (fun K' hK => ?_)
    go_simp
    have HX2 : Hid (Ext z0 (v1.alloc (.cells #[.int .i64 id, .int .i64 un] 54 (0, 0)))) := HX1.out.alloc _
    refine hK.out _ _ (HSF.out _ HX2.out) ?_
    clear hK K' HSS
    have HSS := HSF.out _ HX2.out
    (try simp only [Act.put, List.getElem_toArray, List.getElem_cons_zero, List.getElem_cons_succ, List.setIfInBounds_toArray, List.set_cons_zero, List.set_cons_succ])
    have HO2 := hid (owns_ext HO1.out (Ext.alloc (Ext.refl v1) (.cells #[.int .i64 id, .int .i64 un] 54 (0, 0))))
    have HB2 : Hid ((v1.alloc (.cells #[.int .i64 id, .int .i64 un] 54 (0, 0))).heap[v1.heap.size]? = some (.cells #[.int .i64 id, .int .i64 un] 54 (0, 0))) := heap_alloc_new v1 _
    clear HO1 HX1 HBE
    generalize v1.alloc (.cells #[.int .i64 id, .int .i64 un] 54 (0, 0)) = v2 at *
    generalize v1.heap.size = B at *
    clear v1
    refine wpT_one 12 rfl (by kernel_rfl) (by rfl) (fun K' hK => ?_)
    refine wp_append_src (.tmp 38) (.tmp 42) 27 54 (.agg #[.int .i64 0, .int .i64 0]) 2 16 rfl Try.underlying27 enS rfl (by decide) HO2.out (m2 := 1) (news := ecells (id, un)) rfl rfl (.inr ⟨⟨B, 0, none⟩, 1, rfl, rfl, by intro j u hj; rw [add_add, Nat.zero_add, blk_cellS HB2.out j]; simpa [ecells] using hj⟩) (by have := ecells_one [(id, un)]; simpa using this) (by unfold maxLen; have := HG.out; omega) (by have := HG.out; omega) HX2.out.size ?_
    intro r3 v3 ho3 hb3
    have HX3 : Hid (Ext z0 v3) := ⟨Below.trans HX2.out.below hb3⟩
    have HO3 := hid ho3
    clear ho3 hb3
    refine hK.out _ _ (HSF.out _ HX3.out) ?_
    clear hK K' HSS HX2 HO2 HB2
    have HSS := HSF.out _ HX3.out
    (try simp only [Act.put, List.getElem_toArray, List.getElem_cons_zero, List.getElem_cons_succ, List.setIfInBounds_toArray, List.set_cons_zero, List.set_cons_succ])
    refine wpT_one 19 rfl (by kernel_rfl) (by rfl) (fun K' hK => ?_)
    refine wp_append_src (.tmp 43) (.tmp 49) 27 54 (.agg #[.int .i64 0, .int .i64 0]) 2 16 rfl Try.underlying27 enS rfl (by decide) HO3.out rfl rfl (SR0.out.ext HX3.out) (ecells_one _) (by unfold maxLen; have := HG.out; omega) (by have := HG.out; omega) HX3.out.size ?_
    intro r4 v4 ho4 hb4
    obtain ⟨p4, c4, rfl⟩ := owns_shape ho4
    have HX4 : Hid (Ext z0 v4) := ⟨Below.trans HX3.out.below hb4⟩
    have HO4 := hid ho4
    clear ho4 hb4
    refine hK.out _ _ (HSF.out _ HX4.out) ?_
    clear hK K' HSS HX3 HO3
    have HSS := HSF.out _ HX4.out
    (try simp only [Act.put, List.getElem_toArray, List.getElem_cons_zero, List.getElem_cons_succ, List.setIfInBounds_toArray, List.set_cons_zero, List.set_cons_succ])
    refine wpT_done (by kernel_rfl) ?_
    refine wpAny_take (i := 20) (v := ?w17) rfl (by kernel_rfl) (by kernel_rfl) (by kernel_rfl) (by intro _ _ _ h; first | exact h | (obtain ⟨h, _⟩ := h; cases h)) (Or.inl ⟨by rfl, ?hw17⟩) ?_
    case hw17 => (intro w; go_simp; first | done | (with_reducible rfl))
    (try simp only [Act.put, List.getElem_toArray, List.getElem_cons_zero, List.getElem_cons_succ, List.setIfInBounds_toArray, List.set_cons_zero, List.set_cons_succ])
    refine wpAny_take (i := 21) (v := ?w18) rfl (by kernel_rfl) (by kernel_rfl) (by kernel_rfl) (by intro _ _ _ h; first | exact h | (obtain ⟨h, _⟩ := h; cases h)) (Or.inl ⟨by rfl, ?hw18⟩) ?_
    case hw18 => (intro w; go_simp; first | done | (with_reducible rfl))
    (try simp only [Act.put, List.getElem_toArray, List.getElem_cons_zero, List.getElem_cons_succ, List.setIfInBounds_toArray, List.set_cons_zero, List.set_cons_succ])
    refine wpAny_one 22 rfl (by kernel_rfl) (by rfl) (fun K' hK => ?_)
    have g0 := HSS
    have f0 := (HT0.out.ext HX4.out).cells.2
    clear HSS
    go_simp
    refine hK.out _ _ ?_
    (try simp only [Act.put, List.getElem_toArray, List.getElem_cons_zero, List.getElem_cons_succ, List.setIfInBounds_toArray, List.set_cons_zero, List.set_cons_succ])
    refine wpAny_done (by kernel_rfl) ?_ _
    have hrow : v4.ownsRow z0.heap.size 54 2 (.slice p4 (k + 1 + (l.length - k)) c4) (l.take k ++ (id, un) :: l.drop k).length ((l.take k ++ (id, un) :: l.drop k).flatMap ecells) := by
      have h4 := HO4.out
      rw [List.flatMap_append, List.flatMap_cons, show (l.take k ++ (id, un) :: l.drop k).length = k + 1 + (l.length - k) by rw [List.length_append, List.length_cons, List.length_take, List.length_drop, Nat.min_eq_left HG.out.1]; omega]
      rw [List.append_assoc] at h4
      exact h4
    obtain ⟨q1, q2⟩ := HT0.out.lay HX4.out hrow (by rw [HZ.out]; exact HG.out.2.2)
    exact ⟨rfl, _, _, _, _, _, _, _, _, _, _, _, _, _, _, _, _, _, _, _, _, _, _, _, _, _, _, _, _, _, _, _, _, _, _, _, _, _, _, _, _, _, _, _, _, _, _, _, _, _, _, rfl, q1, HM0.out.trans q2⟩
  · skip
    go_simp
    have HX1 : Hid (Ext z0 (z0.alloc (.cells #[.int .i64 id, .int .i64 un] 54 (0, 0)))) := (Ext.refl z0).alloc _
    have HB1 : Hid ((z0.alloc (.cells #[.int .i64 id, .int .i64 un] 54 (0, 0))).heap[z0.heap.size]? = some (.cells #[.int .i64 id, .int .i64 un] 54 (0, 0))) := heap_alloc_new z0 _
    refine hK.out _ _ (HSF.out _ HX1.out) ?_
    clear hK K' HSS
    have HSS := HSF.out _ HX1.out
    (try simp only [Act.put, List.getElem_toArray, List.getElem_cons_zero, List.getElem_cons_succ, List.setIfInBounds_toArray, List.set_cons_zero, List.set_cons_succ])
    obtain ⟨B, hB⟩ : ∃ B, B = z0.heap.size := ⟨_, rfl⟩
    rw [← hB] at HB1
    rw [← hB]
    clear hB
    generalize z0.alloc (.cells #[.int .i64 id, .int .i64 un] 54 (0, 0)) = y1 at *
    refine wpT_one 7 rfl (by kernel_rfl) (by rfl) (fun K' hK => ?_)
    have HXY := HX1
    clear HX1
    refine wp_append_src (.const (.slice none 0 0)) (.tmp 37) 27 54 (.agg #[.int .i64 0, .int .i64 0]) 2 16 rfl Try.underlying27 enS rfl (by decide) (World.ownsRow_nil _ y1.heap.size _ _) rfl rfl (SL0.out.ext HXY.out) (ecells_one _) (by unfold maxLen; have := HG.out; omega) (by have := HG.out; omega) (Nat.le_refl _) ?_
    intro r1 v1 ho1 hb1
    have HX1 : Hid (Ext z0 v1) := HXY.out.trans ⟨hb1⟩
    simp only [List.nil_append, Nat.zero_add] at ho1
    have HO1 := hid (owns_base ho1 HXY.out.size)
    have HBE := hid hb1
    clear ho1 hb1
    refine hK.out _ _ (HSF.out _ HX1.out) ?_
    clear hK K' HSS
    have HSS := HSF.out _ HX1.out
    (try simp only [Act.put, List.getElem_toArray, List.getElem_cons_zero, List.getElem_cons_succ, List.setIfInBounds_toArray, List.set_cons_zero, List.set_cons_succ])
    have HB2 : Hid (v1.heap[B]? = some (.cells #[.int .i64 id, .int .i64 un] 54 (0, 0))) := by rw [HBE.out.block B (lt_blk HB1.out)]; exact HB1.out
    clear HB1 HBE HXY
    refine wpT_one 12 rfl (by kernel_rfl) (by rfl) (fun K' hK => ?_)
    refine wp_append_src (.tmp 38) (.tmp 42) 27 54 (.agg #[.int .i64 0, .int .i64 0]) 2 16 rfl Try.underlying27 enS rfl (by decide) HO1.out (m2 := 1) (news := ecells (id, un)) rfl rfl (.inr ⟨⟨B, 0, none⟩, 1, rfl, rfl, by intro j u hj; rw [add_add, Nat.zero_add, blk_cellS HB2.out j]; simpa [ecells] using hj⟩) (by have := ecells_one [(id, un)]; simpa using this) (by unfold maxLen; have := HG.out; omega) (by have := HG.out; omega) HX1.out.size ?_
    intro r3 v3 ho3 hb3
    have HX3 : Hid (Ext z0 v3) := ⟨Below.trans HX1.out.below hb3⟩
    have HO3 := hid ho3
    clear ho3 hb3
    refine hK.out _ _ (HSF.out _ HX3.out) ?_
    clear hK K' HSS HX1 HO1 HB2
    have HSS := HSF.out _ HX3.out
    (try simp only [Act.put, List.getElem_toArray, List.getElem_cons_zero, List.getElem_cons_succ, List.setIfInBounds_toArray, List.set_cons_zero, List.set_cons_succ])
    refine wpT_one 19 rfl (by kernel_rfl) (by rfl) (fun K' hK => ?_)
    refine wp_append_src (.tmp 43) (.tmp 49) 27 54 (.agg #[.int .i64 0, .int .i64 0]) 2 16 rfl Try.underlying27 enS rfl (by decide) HO3.out rfl rfl (SR0.out.ext HX3.out) (ecells_one _) (by unfold maxLen; have := HG.out; omega) (by have := HG.out; omega) HX3.out.size ?_
    intro r4 v4 ho4 hb4
    obtain ⟨p4, c4, rfl⟩ := owns_shape ho4
    have HX4 : Hid (Ext z0 v4) := ⟨Below.trans HX3.out.below hb4⟩
    have HO4 := hid ho4
    clear ho4 hb4
    refine hK.out _ _ (HSF.out _ HX4.out) ?_
    clear hK K' HSS HX3 HO3
    have HSS := HSF.out _ HX4.out
    (try simp only [Act.put, List.getElem_toArray, List.getElem_cons_zero, List.getElem_cons_succ, List.setIfInBounds_toArray, List.set_cons_zero, List.set_cons_succ])
    refine wpT_done (by kernel_rfl) ?_
    refine wpAny_take (i := 20) (v := ?w19) rfl (by kernel_rfl) (by kernel_rfl) (by kernel_rfl) (by intro _ _ _ h; first | exact h | (obtain ⟨h, _⟩ := h; cases h)) (Or.inl ⟨by rfl, ?hw19⟩) ?_
    case hw19 => (intro w; go_simp; first | done | (with_reducible rfl))
    (try simp only [Act.put, List.getElem_toArray, List.getElem_cons_zero, List.getElem_cons_succ, List.setIfInBounds_toArray, List.set_cons_zero, List.set_cons_succ])
    refine wpAny_take (i := 21) (v := ?w20) rfl (by kernel_rfl) (by kernel_rfl) (by kernel_rfl) (by intro _ _ _ h; first | exact h | (obtain ⟨h, _⟩ := h; cases h)) (Or.inl ⟨by rfl, ?hw20⟩) ?_
    case hw20 => (intro w; go_simp; first | done | (with_reducible rfl))
    (try simp only [Act.put, List.getElem_toArray, List.getElem_cons_zero, List.getElem_cons_succ, List.setIfInBounds_toArray, List.set_cons_zero, List.set_cons_succ])
    refine wpAny_one 22 rfl (by kernel_rfl) (by rfl) (fun K' hK => ?_)
    have g0 := HSS
    have f0 := (HT0.out.ext HX4.out).cells.2
    clear HSS
    go_simp
    refine hK.out _ _ ?_
    (try simp only [Act.put, List.getElem_toArray, List.getElem_cons_zero, List.getElem_cons_succ, List.setIfInBounds_toArray, List.set_cons_zero, List.set_cons_succ])
    refine wpAny_done (by kernel_rfl) ?_ _
    have hrow : v4.ownsRow z0.heap.size 54 2 (.slice p4 (k + 1 + (l.length - k)) c4) (l.take k ++ (id, un) :: l.drop k).length ((l.take k ++ (id, un) :: l.drop k).flatMap ecells) := by
      have h4 := HO4.out
      rw [List.flatMap_append, List.flatMap_cons, show (l.take k ++ (id, un) :: l.drop k).length = k + 1 + (l.length - k) by rw [List.length_append, List.length_cons, List.length_take, List.length_drop, Nat.min_eq_left HG.out.1]; omega]
      rw [List.append_assoc] at h4
      exact h4
    obtain ⟨q1, q2⟩ := HT0.out.lay HX4.out hrow (by rw [HZ.out]; exact HG.out.2.2)
    exact ⟨rfl, _, _, _, _, _, _, _, _, _, _, _, _, _, _, _, _, _, _, _, _, _, _, _, _, _, _, _, _, _, _, _, _, _, _, _, _, _, _, _, _, _, _, _, _, _, _, _, _, _, _, rfl, q1, HM0.out.trans q2⟩
end Rf
end Go.Proofs.Ytlpklkkjidaecaa
