/- ConfTells: of every two configurations, in whatever memory in which errors.errorType reads as the program's text lays it: the law answers true, and its arguments read as they did. -/
import Derived.Test.YtgcbkhbpbmmfhaaDoorCKnown
import Derived.Test.YtgcbkhbpbmmfhaaDoorSame
import Derived.Test.YtgcbkhbpbmmfhaaDoorRefConf5
import Derived.Test.YtgcbkhbpbmmfhaaDoorWide
import Derived.Test.YtgcbkhbpbmmfhaaDoorAs
import Derived.Deep.RegionWith
import Derived.Test.YtgcbkhbpbmmfhaaDoorTie
import Derived.Test.YtgcbkhbpbmmfhaaDoorCards
import Derived.SevenTiedAt
import Derived.ChangeMaps5
import Derived.ChangeSame
import Derived.ChangeVars
import Derived.JoinedOf
import Derived.RowKitTokens
import Derived.LaidLaws
import Derived.LaidHandle
import Derived.Stop.Joined
import Derived.SizedLaws
namespace Go.Proofs.YtgcbkhbpbmmfhaaDoor
open Go.ChangeShapes Go.WideShapes Go.ChangeAt Go.RowKit Go.Joins Go.Deep

namespace confTells
theorem code_any (e : Nat) (w : World) (hg : w.cell? ⟨0, 0, none⟩ = some As.tAny) : Calls Tryd.prog 6 #[errV e] w (Yields w (.int .i64 e)) := by
  by_cases he : e = 0
  · subst he; exact As.code3_nil w
  · rw [errV_pos he]; exact As.code3_errno e w hg
theorem wide_to {c : Cnf} {r : Bool} (e : wideB c = r) (w : World) (pv dv : Value) (hc : ConfV w c pv dv) : Calls Tryd.prog 5 #[confV c pv dv] w (Yields w (.bool r)) := e ▸ wide_any w c pv dv hc

set_option maxRecDepth 100000 in
set_option maxHeartbeats 8000000 in
theorem walk (a b : Cnf) (pa da pb db : Value) (w : World) (ha : ConfV w a pa da) (hb : ConfV w b pb db) (hg : w.cell? ⟨0, 0, none⟩ = some As.tAny) :
    Calls Tryd.prog 3 #[confV a pa da, confV b pb db] w (Yields w (.bool true)) := by
  have HA := hid ha
  have HB := hid hb
  have HG := hid hg
  clear ha hb hg
  go_enter Tryd.func3, Tryd.ntmps3
  cases hwa : wideB a
  case true =>
    have QA := hid hwa
    clear hwa
    go_wp2_with (first
      | (go_at_call 4; refine (known_any _).yields ?_; intro p0)
      | (go_at_call 5; (with_reducible refine (wide_to QA.out _ _ _ (HA.out.ext (by repeat (first | exact Ext.refl _ | assumption | refine Ext.more ?_ _ | refine Ext.drew ?_ | refine Ext.drewN ?_ _ | refine Ext.alloc ?_ _ | refine Ext.setCell ?_ (by simp; try omega) _ | refine Ext.trans ?_ (by assumption))))).yields ?_); intro p1))
    go_returns
    exact ⟨rfl, (by repeat (first | exact Ext.refl _ | assumption | refine Ext.more ?_ _ | refine Ext.drew ?_ | refine Ext.drewN ?_ _ | refine Ext.alloc ?_ _ | refine Ext.setCell ?_ (by simp; try omega) _ | refine Ext.trans ?_ (by assumption)))⟩
  have QA := hid hwa
  clear hwa
  cases hwb : wideB b
  case true =>
    have QB := hid hwb
    clear hwb
    go_wp2_with (first
      | (go_at_call 4; refine (known_any _).yields ?_; intro p0)
      | (go_at_call 5; (with_reducible refine (wide_to QA.out _ _ _ (HA.out.ext (by repeat (first | exact Ext.refl _ | assumption | refine Ext.more ?_ _ | refine Ext.drew ?_ | refine Ext.drewN ?_ _ | refine Ext.alloc ?_ _ | refine Ext.setCell ?_ (by simp; try omega) _ | refine Ext.trans ?_ (by assumption))))).yields ?_); intro p1)
      | (go_at_call 5; (with_reducible refine (wide_to QB.out _ _ _ (HB.out.ext (by repeat (first | exact Ext.refl _ | assumption | refine Ext.more ?_ _ | refine Ext.drew ?_ | refine Ext.drewN ?_ _ | refine Ext.alloc ?_ _ | refine Ext.setCell ?_ (by simp; try omega) _ | refine Ext.trans ?_ (by assumption))))).yields ?_); intro p2))
    go_returns
    exact ⟨rfl, (by repeat (first | exact Ext.refl _ | assumption | refine Ext.more ?_ _ | refine Ext.drew ?_ | refine Ext.drewN ?_ _ | refine Ext.alloc ?_ _ | refine Ext.setCell ?_ (by simp; try omega) _ | refine Ext.trans ?_ (by assumption)))⟩
  have QB := hid hwb
  clear hwb
  go_wp2_with (first
    | (go_at_call 4; refine (known_any _).yields ?_; intro p0)
    | (go_at_call 5; (with_reducible refine (wide_to QA.out _ _ _ (HA.out.ext (by repeat (first | exact Ext.refl _ | assumption | refine Ext.more ?_ _ | refine Ext.drew ?_ | refine Ext.drewN ?_ _ | refine Ext.alloc ?_ _ | refine Ext.setCell ?_ (by simp; try omega) _ | refine Ext.trans ?_ (by assumption))))).yields ?_); intro p1)
    | (go_at_call 5; (with_reducible refine (wide_to QB.out _ _ _ (HB.out.ext (by repeat (first | exact Ext.refl _ | assumption | refine Ext.more ?_ _ | refine Ext.drew ?_ | refine Ext.drewN ?_ _ | refine Ext.alloc ?_ _ | refine Ext.setCell ?_ (by simp; try omega) _ | refine Ext.trans ?_ (by assumption))))).yields ?_); intro p2))
  have RA := hid (wide_routes QA.out).2
  refine wp_forget (fun v => Ext w v ∧ v.cell? ⟨w.heap.size, 0, none⟩ = some (.int .i64 a.frame) ∧ v.cell? ⟨w.heap.size, 1, none⟩ = some (.int .i64 a.epoch) ∧ v.cell? ⟨w.heap.size, 2, none⟩ = some pa ∧ v.cell? ⟨w.heap.size, 3, none⟩ = some da ∧ v.cell? ⟨w.heap.size + 1, 0, none⟩ = some (.int .i64 b.frame) ∧ v.cell? ⟨w.heap.size + 1, 1, none⟩ = some (.int .i64 b.epoch) ∧ v.cell? ⟨w.heap.size + 1, 2, none⟩ = some pb ∧ v.cell? ⟨w.heap.size + 1, 3, none⟩ = some db) ⟨(by repeat (first | exact Ext.refl _ | assumption | refine Ext.more ?_ _ | refine Ext.drew ?_ | refine Ext.drewN ?_ _ | refine Ext.alloc ?_ _ | refine Ext.setCell ?_ (by simp; try omega) _ | refine Ext.trans ?_ (by assumption))), by simp [go_sem], by simp [go_sem], by simp [go_sem], by simp [go_sem], by simp [go_sem], by simp [go_sem], by simp [go_sem], by simp [go_sem]⟩ ?_
  rintro W ⟨X, k0, k1, k2, k3, k4, k5, k6, k7⟩
  have VA := hid (HA.out.ext X)
  have VB := hid (HB.out.ext X)
  have G0 := hid (X.cell HG.out)
  clear HA HB HG QA QB
  go_region_held3 (fun wx => Ext W wx ∧ wx.cell? ⟨w.heap.size, 0, none⟩ = some (.int .i64 a.frame) ∧ wx.cell? ⟨w.heap.size, 1, none⟩ = some (.int .i64 a.epoch) ∧ wx.cell? ⟨w.heap.size, 2, none⟩ = some pa ∧ wx.cell? ⟨w.heap.size, 3, none⟩ = some da ∧ wx.cell? ⟨w.heap.size + 1, 0, none⟩ = some (.int .i64 b.frame) ∧ wx.cell? ⟨w.heap.size + 1, 1, none⟩ = some (.int .i64 b.epoch) ∧ wx.cell? ⟨w.heap.size + 1, 2, none⟩ = some pb ∧ wx.cell? ⟨w.heap.size + 1, 3, none⟩ = some db)
    (first | (go_split_ands; with_reducible exact ⟨Ext.trans (by assumption) hq, Ext.cell hq (by assumption), Ext.cell hq (by assumption), Ext.cell hq (by assumption), Ext.cell hq (by assumption), Ext.cell hq (by assumption), Ext.cell hq (by assumption), Ext.cell hq (by assumption), Ext.cell hq (by assumption)⟩) | (go_split_ands; with_reducible exact ⟨Ext.alloc (by assumption) _, Ext.cell (Ext.alloc (Ext.refl _) _) (by assumption), Ext.cell (Ext.alloc (Ext.refl _) _) (by assumption), Ext.cell (Ext.alloc (Ext.refl _) _) (by assumption), Ext.cell (Ext.alloc (Ext.refl _) _) (by assumption), Ext.cell (Ext.alloc (Ext.refl _) _) (by assumption), Ext.cell (Ext.alloc (Ext.refl _) _) (by assumption), Ext.cell (Ext.alloc (Ext.refl _) _) (by assumption), Ext.cell (Ext.alloc (Ext.refl _) _) (by assumption)⟩) | exact ⟨Ext.drew (Ext.refl _), Ext.cell (Ext.drew (Ext.refl _)) k0, Ext.cell (Ext.drew (Ext.refl _)) k1, Ext.cell (Ext.drew (Ext.refl _)) k2, Ext.cell (Ext.drew (Ext.refl _)) k3, Ext.cell (Ext.drew (Ext.refl _)) k4, Ext.cell (Ext.drew (Ext.refl _)) k5, Ext.cell (Ext.drew (Ext.refl _)) k6, Ext.cell (Ext.drew (Ext.refl _)) k7⟩ | (go_split_ands; refine ⟨(by repeat (first | exact Ext.refl _ | assumption | refine Ext.more ?_ _ | refine Ext.drew ?_ | refine Ext.drewN ?_ _ | refine Ext.alloc ?_ _ | refine Ext.setCell ?_ (by simp; try omega) _ | refine Ext.trans ?_ (by assumption))), ?_, ?_, ?_, ?_, ?_, ?_, ?_, ?_⟩ <;> go_keep))
    (first
      | (go_at_call 7; (with_reducible refine (confIs_any _ a _ _ (VA.out.ext (by go_split_ands; assumption))).mono ?_); rintro e w' ⟨rfl, hq⟩)
      | (go_at_call 6; (with_reducible refine (code_any _ _ (Ext.cell (a := W) (by go_split_ands; assumption) G0.out)).mono ?_); rintro e w' ⟨rfl, hq⟩)
      | (go_at_call 8; (with_reducible refine (isConf_any _ a _ _ (VA.out.ext (by go_split_ands; assumption)) RA.out).mono ?_); rintro e w' ⟨rfl, hq⟩)
      | (go_at_call 9; (with_reducible refine (confTicks_any _ a _ _ (VA.out.ext (by go_split_ands; assumption))).mono ?_); rintro e w' ⟨rfl, hq⟩)
      | (go_at_call 10; (with_reducible refine (ticks_any _ a _ _ (VA.out.ext (by go_split_ands; assumption)) RA.out).mono ?_); rintro e w' ⟨rfl, hq⟩)
      | (go_at_call 11; (with_reducible refine (confSame_to (sameC_self a) _ _ _ _ _ (VA.out.ext (by go_split_ands; assumption)) (VA.out.ext (by go_split_ands; assumption))).mono ?_); rintro e w' ⟨rfl, hq⟩)
      | (go_at_call 11; (with_reducible refine (confSame_any _ a b _ _ _ _ (VA.out.ext (by go_split_ands; assumption)) (VB.out.ext (by go_split_ands; assumption))).mono ?_); rintro e w' ⟨rfl, hq⟩)
      | (go_at_call 12; (with_reducible refine (sameConf_any _ a b _ _ _ _ (VA.out.ext (by go_split_ands; assumption)) (VB.out.ext (by go_split_ands; assumption))).mono ?_); rintro e w' ⟨rfl, hq⟩))
  all_goals
    go_split_ands
    go_wp2
    go_returns
    exact ⟨rfl, Ext.trans X (by assumption)⟩

set_option linter.unusedVariables false in
theorem et : Tryd.prog.globalNamed "errors.errorType" = some 0 := by kernel_rfl
theorem rt : (Tryd.prog.cutTypes.find? (·.1 == "internal/reflectlite.rtype")).map (·.2) = some 73 := by kernel_rfl
theorem oneRow : ((List.range 120).filter fun t => Tryd.prog.rowNamed t [101, 114, 114, 111, 114]) = [30] := by kernel_rfl
theorem tsize : Tryd.prog.types.size = 120 := by kernel_rfl
theorem handle_of_laid {W : World} (h : laidMetH Tryd.prog Rows.confTellsRow.laid W) : W.cell? ⟨0, 0, none⟩ = some As.tAny := by
  have h' : laidMet Tryd.prog [] W ∧ handlesMet Tryd.prog Rows.confTellsRow.laid W := h
  obtain ⟨name, u, ty, e1, e2, e3, e4, e5⟩ := h'.2 _ (List.mem_singleton.2 rfl)
  have en : name = [101, 114, 114, 111, 114] := (Option.some.inj e1).symm
  subst en
  obtain rfl := Option.some.inj (rt.symm.trans e2)
  have hm : ty ∈ (List.range 120).filter fun t => Tryd.prog.rowNamed t [101, 114, 114, 111, 114] := List.mem_filter.2 ⟨List.mem_range.2 (by rw [← tsize]; exact e3), e4⟩
  rw [oneRow] at hm
  obtain rfl := List.mem_singleton.1 hm
  have hh : typeHandle Tryd.prog 30 = .pointer (some ⟨1, 30, none⟩) := by kernel_rfl
  rw [hh] at e5
  simpa using World.var?_cell et e5 0
/-- A world that meets the condition: the settled one, the variable's cell laid. -/
noncomputable def laidWorld (os : Os) : World :=
  let w0 := World.holding Tryd.prog os ⟨#[], #[], []⟩
  { w0 with heap := w0.heap.modify 0 fun
      | .cells _ t frozen => .cells #[.iface 73 (.agg #[.pointer (some ⟨1, 30, none⟩)])] t frozen
      | o => o }
theorem laidWorld_met (os : Os) (args : Array Value) : laidMetH Tryd.prog Rows.confTellsRow.laid ((laidWorld os).forCall (fun _ _ => 0) ⟨#[], args, []⟩).memory :=
  laidMetH_of_parts (laidMet_nil _ _) (by kernel_rfl)
set_option maxRecDepth 100000 in
theorem lifted (os : Os) (started : os.Started) (H : Type) (enc : TypeId × Value → H) :
    ReturnsInHanded {} Tryd.checked os 3 .any (fun w args => (Rows.confTellsSpec.pre enc Tryd.prog Tryd.f3 [] false w args ∧ laidMetH Tryd.prog Rows.confTellsRow.laid w) ∧ sizedMet enc Tryd.prog Tryd.f3 (OpenSpec.ofChange Rows.confTellsSpec) false w args)
      (Rows.confTellsSpec.post enc Tryd.prog Tryd.f3 false true false false) := by
  refine returnsInHanded_of_change_and (C := Tryd.checked) (X := fun w _ => laidMetH Tryd.prog Rows.confTellsRow.laid w) (fun _ _ _ hh h => h.of_heap hh) Own.own started (by kernel_rfl) Tryd.func3
    (ChangeSpec.witness_at (enc := enc) (C := Tryd.checked) (os := os) (X := fun w _ => laidMetH Tryd.prog Rows.confTellsRow.laid w) false (laidWorld os) #[.agg #[.int .i64 0, .int .i64 0, .slice none 0 0, .slice none 0 0], .agg #[.int .i64 0, .int .i64 0, .slice none 0 0, .slice none 0 0]] 8 rfl (by kernel_rfl) (by kernel_rfl) (by kernel_rfl) (by kernel_rfl) (by kernel_rfl) (laidWorld_met os _)) ?_
  intro W base args ds gs before hval0 hW _ hsz0 hL _
  have hval : ∀ (j : Nat) t v, Tryd.f3.params[j]? = some t → args[j]? = some v → Value.okWide Tryd.prog W .any base t v := hval0
  have hW' := hW
  obtain ⟨p, q, hA0, hV0, rfl, hfz, hnd⟩ := hW
  have hA : DataW.TrodAll enc Tryd.prog W 0 (fun _ => true) true Tryd.f3.params.toList args.toList ds p := hA0
  have hV : DataW.TrodVars enc Tryd.prog W (fun _ => true) [] gs q := hV0
  rw [Tryd.params3] at hA hval
  obtain ⟨rfl, rfl⟩ := trodVars_none hV
  have hsz : (DataW.weightsEach Tryd.prog [25, 25] ds).all (· ≤ reachBytes) = true := by rw [List.append_nil] at hsz0; exact hsz0
  have hg := handle_of_laid hL
  obtain ⟨v0, vs0, d0, ds0, p0, q0, hargs, rfl, rfl, h0, r0⟩ := trodAll_cons hA
  obtain ⟨v1, vs1, d1, ds1, p1, q1, rfl, rfl, rfl, h1, r1⟩ := trodAll_cons r0
  obtain ⟨rfl, rfl, rfl⟩ := trodAll_nil r1
  obtain rfl : args = #[v0, v1] := by cases args; simp_all
  have k0 := h0
  have lt0 : ∀ x ∈ p0, x.block < W.heap.size := by obtain ⟨m, hm⟩ := k0; exact DataW.trod_lt m _ _ _ hm
  have k1 := h1
  have lt1 : ∀ x ∈ p1, x.block < W.heap.size := by obtain ⟨m, hm⟩ := k1; exact DataW.trod_lt m _ _ _ hm
  obtain ⟨a, pa, da, rfl, ha⟩ := Own.open_conf (hval 0 25 v0 rfl rfl) (by exact h0)
  obtain ⟨b, pb, db, rfl, hb⟩ := Own.open_conf (hval 1 25 v1 rfl rfl) (by exact h1)
  clear hA0 hval0 hsz0 hV0
  refine (walk a b pa da pb db W ha hb hg).mono fun e W' ⟨he, hx⟩ => ?_
  subst he
  exact ⟨_, rfl, _, _, _, [], _, [], hW', trodAll_mk1 (shut_bool Tryd.underlying4 _), (trodAll_cons_mk (Below.trod Own.laidOut (by kernel_rfl) (of_decide_eq_true (by kernel_rfl)) k0 hx.below lt0) (trodAll_cons_mk (Below.trod Own.laidOut (by kernel_rfl) (of_decide_eq_true (by kernel_rfl)) k1 hx.below lt1) trodAll_mk0)), rfl, hx.below.frame _, fun h => by cases h⟩

theorem plain : Rows.ConfTellsSaid :=
  OpenClaim.holds_of_wide 3 Tryd.f3 rfl rfl rfl rfl rfl rfl rfl ⟨rfl, rfl, rfl, rfl, rfl⟩ rfl rfl rfl rfl rfl (by kernel_rfl) Tryd.func3 (by kernel_rfl)
    (of_decide_eq_true (by kernel_rfl)) (by unfold Func.isWrapper; first | (rw [if_pos (by decide +kernel)]; kernel_rfl) | (rw [if_neg (by decide +kernel)]; exact ⟨rfl, rfl⟩))
    (fun os started H enc _ => lifted os started H enc)

theorem proved : Rows.ConfTellsCardSaid :=
  Claim7.holds_tied_plain_at .later [] [.handle] true _ true
    plain (fun _ h => by cases h) (by kernel_rfl) (fun _ h => by cases h) confTells_row_tie rfl ⟨rfl, rfl⟩ (by kernel_rfl) rfl
    (fun f fn hf hfn => by
      obtain rfl : f = 3 := Option.some.inj ((show Tryd.prog.funcNamed "tontine/tontinelaw3.ConfTells" = some 3 by kernel_rfl).symm.trans hf) |>.symm
      obtain rfl : fn = Tryd.f3 := (Option.some.inj (Tryd.func3.symm.trans hfn)).symm
      exact ⟨by kernel_rfl, fun j t ht => by
        rw [Tryd.params3] at ht
        match j, ht with
        | 0, ht => simp at ht; subst ht; exact (show Tryd.prog.wantsStandIn 25 = false by kernel_rfl)
        | 1, ht => simp at ht; subst ht; exact (show Tryd.prog.wantsStandIn 25 = false by kernel_rfl)
        | j + 2, ht => simp at ht⟩)
    (by kernel_rfl)

end confTells
end Go.Proofs.YtgcbkhbpbmmfhaaDoor
