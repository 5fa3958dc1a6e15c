/- ScriptTells: of every two scripts, in whatever memory in which errors.errorType reads as the program's text lays it: the law answers true, and its arguments read as they did. -/
import Derived.Test.YtbllibgddiiboaaGreatDoorRows
import Derived.Test.YtbllibgddiiboaaGreatDoorLib
import Derived.WalkKit
import Derived.WalkLawsBesides
import Derived.Handy
import Derived.LaidEql
import Derived.Stop.Asserts
import Derived.RowKitTokens
import Derived.Test.YtbllibgddiiboaaGreatDoorBase
import Derived.Test.YtbllibgddiiboaaGreatDoorScr
import Derived.Test.YtbllibgddiiboaaGreatDoorSr8
import Derived.Test.YtbllibgddiiboaaGreatDoorSr9
import Derived.Test.YtbllibgddiiboaaGreatDoorSbAll
import Derived.Test.YtbllibgddiiboaaGreatDoorSc2
import Derived.Test.YtbllibgddiiboaaGreatDoorMath4c
import Derived.Test.YtbllibgddiiboaaGreatDoorRefScr2
import Derived.Test.YtbllibgddiiboaaGreatDoorSame
import Derived.Test.YtbllibgddiiboaaGreatDoorStr
import Derived.Test.YtbllibgddiiboaaGreatDoorMath2
import Derived.Test.YtbllibgddiiboaaGreatDoorRead2
import Derived.WalkSpells
import Derived.OwnWalk
import Derived.Test.YtbllibgddiiboaaGreatDoorWire
import Derived.Laws.MakeOwn
import Derived.Test.YtbllibgddiiboaaGreatDoorOwn2
import Derived.Test.YtbllibgddiiboaaGreatDoorTie
import Derived.Test.YtbllibgddiiboaaGreatDoorCards
import Derived.SevenTiedAt
import Derived.ChangeMaps5
import Derived.ChangeSame
import Derived.ChangeVars
import Derived.JoinedOf
import Derived.LaidLaws
import Derived.LaidHandle
import Derived.Stop.Joined
import Derived.SizedLaws
namespace Go.Proofs.YtbllibgddiiboaaGreatDoor
open Go.RowKit Go.Extern.Stop Go.Stop Go.Extern

namespace Err
theorem typeOf (v : Value) (w : World) : (Extern.ReflectliteType.typeOf #[.iface 49 v]).run Tryz.prog w = .ok (.iface 127 (.agg #[.pointer (some ⟨1, 49, none⟩)])) w := by kernel_rfl
theorem callTypeOf (v : Value) (w : World) : (callFunc 44 #[.iface 49 v]).run Tryz.prog w = .ok (.value (.iface 127 (.agg #[.pointer (some ⟨1, 49, none⟩)]))) w := by
  rw [@run_callFunc_extern Tryz.prog 44 _ Extern.ReflectliteType.typeOf Tryz.func44 (by kernel_rfl) (by kernel_rfl) (by kernel_rfl) (by kernel_rfl), typeOf]
  rfl
theorem comparable (w : World) : ((Extern.ReflectliteType.method fun t => do Extern.Rtype.noPackHeld "Comparable" t; pure (.bool (← typeInfo t).comparable)) #[.agg #[.pointer (some ⟨1, 49, none⟩)]]).run Tryz.prog w = .ok (.bool true) w := by kernel_rfl
theorem callComparable (w : World) : (callFunc 132 #[.agg #[.pointer (some ⟨1, 49, none⟩)]]).run Tryz.prog w = .ok (.value (.bool true)) w := by
  rw [@run_callFunc_extern Tryz.prog 132 _ (Extern.ReflectliteType.method fun t => do Extern.Rtype.noPackHeld "Comparable" t; pure (.bool (← typeInfo t).comparable)) Tryz.func132 (by kernel_rfl) (by kernel_rfl) (by kernel_rfl) (by kernel_rfl), comparable]
  rfl
theorem methodComparable (v : Value) (w : World) : (Go.method 290 127 v "Comparable").run Tryz.prog w = .ok (132, v) w := by kernel_rfl
theorem comp : (Tryz.prog.info? 49).map (·.comparable) = some true := by kernel_rfl
theorem noIs (v : Value) (xT : TypeId) (w : World) : (Instr.typeAssert (.iface 49 v) xT 129 true).run Tryz.prog w = .ok (.tuple #[.nilIface, .bool false]) w := run_typeAssert_lacksB Tryz.underlying129 (by kernel_rfl) (by kernel_rfl) v xT w
theorem noUnwrap (v : Value) (xT : TypeId) (w : World) : (Instr.typeAssert (.iface 49 v) xT 132 true).run Tryz.prog w = .ok (.tuple #[.nilIface, .bool false]) w := run_typeAssert_lacksB Tryz.underlying132 (by kernel_rfl) (by kernel_rfl) v xT w
theorem noUnwraps (v : Value) (xT : TypeId) (w : World) : (Instr.typeAssert (.iface 49 v) xT 133 true).run Tryz.prog w = .ok (.tuple #[.nilIface, .bool false]) w := run_typeAssert_lacksB Tryz.underlying133 (by kernel_rfl) (by kernel_rfl) v xT w
theorem equalIn (d : Nat) (a b : Int) (w : World) : (Op.equalIn (d + 2) 34 (.iface 49 (.int .i64 a)) (.iface 49 (.int .i64 b))).run Tryz.prog w = .ok (a == b) w := by
  obtain ⟨i, hi, hcmp⟩ := Option.map_eq_some_iff.1 comp
  simp [Op.equalIn, run_underlying Tryz.underlying34, run_underlying Tryz.underlying49, typeInfo, hi, hcmp]
theorem eql (a b : Int) (w : World) : (binOp .eql 34 (.iface 49 (.int .i64 a)) (.iface 49 (.int .i64 b))).run Tryz.prog w = .ok (.bool (a == b)) w := by
  simp only [binOp]
  simp [Op.equal, Op.maxDepth, equalIn 9998 a b w]

set_option maxHeartbeats 1000000 in
theorem is_errno (n m : Int) (w : World) : Calls Tryz.prog 15 #[.iface 49 (.int .i64 n), .iface 49 (.int .i64 m)] w (Yields w (.bool (n == m))) := by
  have tT := fun v => callTypeOf v
  have cT := callComparable
  have mR := methodComparable
  have nE := noIs
  have uE := noUnwrap
  have vE := noUnwraps
  have heq := eql n m w
  cases hq : n == m
  all_goals
    go_enter Tryz.func15, Tryz.ntmps15
    go_wp2
    refine wp_loop_rounds 1 ?_
    rw [rounds_succ]
    go_wp2
    go_returns
    exact ⟨rfl, Ext.refl _⟩

set_option maxHeartbeats 400000 in
theorem is_nil (m : Int) (w : World) : Calls Tryz.prog 15 #[.nilIface, .iface 49 (.int .i64 m)] w (Yields w (.bool false)) := by
  have hn := run_eql_iface_nil_left (P := Tryz.prog) w 49 (.int .i64 m) Tryz.underlying34
  go_enter Tryz.func15, Tryz.ntmps15
  go_wp2
  go_returns
  exact ⟨rfl, Ext.refl _⟩
end Err
end Go.Proofs.YtbllibgddiiboaaGreatDoor

namespace Go.Proofs.YtbllibgddiiboaaGreatDoor
open Go.RowKit
set_option linter.unusedSimpArgs false

abbrev zero7 : Obj := .cells #[.int .i64 0, .int .i64 0, .slice none 0 0, .slice none 0 0, .int .i64 0, .slice none 0 0, .slice none 0 0] 29 (0, 0)
/-- A script's value: the configuration from block N on, the streams in block S, the arrivals in block V. -/
abbrev helpV (N S V : Nat) (h : Int) : Value := .agg #[.int .i64 8, .int .i64 2, .slice (some ⟨N + 3, 0, none⟩) 2 2, .slice (some ⟨N + 13, 0, none⟩) 4 4, .int .i64 h, .slice (some ⟨S, 0, none⟩) 4 4, .slice (some ⟨V, 0, none⟩) 4 4]
/-- These blocks lie so. -/
structure HelpS (base N S V : Nat) (os : List RO) (ss vs : List Value) (w : World) : Prop where
  lies : Lies N os w
  sb : w.heap[S]? = some (.cells ss.toArray 42 (0, 0))
  vb : w.heap[V]? = some (.cells vs.toArray 45 (0, 0))
  hN : base ≤ N
  hS : base ≤ S
  hV : base ≤ V
  sv : S ≠ V
  sn : S < N ∨ N + os.length ≤ S
  vn : V < N ∨ N + os.length ≤ V
theorem HelpS.ext {base N S V : Nat} {os : List RO} {ss vs : List Value} {w w' : World} (h : HelpS base N S V os ss vs w) (x : Ext w w') : HelpS base N S V os ss vs w' :=
  ⟨h.lies.ext x, block_ext x h.sb, block_ext x h.vb, h.hN, h.hS, h.hV, h.sv, h.sn, h.vn⟩
theorem HelpS.other {base N S V : Nat} {os : List RO} {ss vs : List Value} {w : World} (h : HelpS base N S V os ss vs w) {b j : Nat} (v : Value) (hb : b < base ∨ (b ≠ S ∧ b ≠ V ∧ (b < N ∨ N + os.length ≤ b))) : HelpS base N S V os ss vs (w.setCell ⟨b, j, none⟩ v) := by
  have h1 := h.hN
  have h2 := h.hS
  have h3 := h.hV
  exact ⟨h.lies.other v (by omega), (Below.heap_setCell _ _ _ _ (by simp; omega)).trans h.sb, (Below.heap_setCell _ _ _ _ (by simp; omega)).trans h.vb, h1, h2, h3, h.sv, h.sn, h.vn⟩
def nil4 : List Value := [.slice none 0 0, .slice none 0 0, .slice none 0 0, .slice none 0 0]
theorem mkStreams (w : World) : (Instr.makeSlice 26 (.int .i64 4) (.int .i64 4)).run Tryz.prog w = .ok (.slice (some ⟨w.heap.size, 0, none⟩) 4 4) (w.alloc (.cells #[.slice none 0 0, .slice none 0 0, .slice none 0 0, .slice none 0 0] 42 (0, 0))) := by kernel_rfl
theorem mkArrivals (w : World) : (Instr.makeSlice 27 (.int .i64 4) (.int .i64 4)).run Tryz.prog w = .ok (.slice (some ⟨w.heap.size, 0, none⟩) 4 4) (w.alloc (.cells #[.slice none 0 0, .slice none 0 0, .slice none 0 0, .slice none 0 0] 45 (0, 0))) := by kernel_rfl
def MeetQ (M : Act → World → Prop) : Exit → Act → World → Prop
  | .normal, a, w => M a w
  | _, _, _ => False
theorem wp_meetq {P : Program} {c : Code} {a : Act} {w : World} {Q : Exit → Act → World → Prop} (M : Act → World → Prop) (first : c.wp P (MeetQ M) a w) (rest : ∀ a w, M a w → Q .normal a w) : c.wp P Q a w :=
  Code.wp_mono (fun e a w h => by cases e <;> first | exact rest a w h | exact h.elim) first
section
variable {P : Program} {ops : Array Oper} {Q : Exit → Act → World → Prop} {md : Region.Mode} {S : World → Prop}
/-- One of the three that may come up. -/
theorem wpT_three (i j l : Nat) {n k : Nat} {oi oj ol : Oper} {fuel : Nat} {listed : Array Bool} {a : Act} {w : World} (hoi : ops[i]? = some oi) (hoj : ops[j]? = some oj) (hol : ops[l]? = some ol) (hr : Region.ready md ops listed = [i, j, l])
    (hwi : Region.wanted oi (yielded ops a.tmps) = true) (hwj : Region.wanted oj (yielded ops a.tmps) = true) (hwl : Region.wanted ol (yielded ops a.tmps) = true)
    (hi : ∀ K' : Act → World → Prop, Shut (∀ a w, S w → wpT P md ops Q S n k fuel (listed.setIfInBounds i true) a w → K' a w) → Oper.wp P oi a w K' Q)
    (hj : ∀ K' : Act → World → Prop, Shut (∀ a w, S w → wpT P md ops Q S n k fuel (listed.setIfInBounds j true) a w → K' a w) → Oper.wp P oj a w K' Q)
    (hl : ∀ K' : Act → World → Prop, Shut (∀ a w, S w → wpT P md ops Q S n k fuel (listed.setIfInBounds l true) a w → K' a w) → Oper.wp P ol a w K' Q) : wpT P md ops Q S n k (fuel + 1) listed a w := fun hc => by
  refine ⟨by rw [hr]; simp, fun x hx => ?_⟩
  have hx' := hx
  rw [hr] at hx
  rcases List.mem_cons.1 hx with rfl | hx
  · refine wpOp_step hoi (fun K' hK => ?_)
    rw [if_pos hwi]
    exact hi K' (fun a' w' h1 h2 => hK _ _ ⟨h1, h2 (hc.add hx')⟩)
  · rcases List.mem_cons.1 hx with rfl | hx
    · refine wpOp_step hoj (fun K' hK => ?_)
      rw [if_pos hwj]
      exact hj K' (fun a' w' h1 h2 => hK _ _ ⟨h1, h2 (hc.add hx')⟩)
    · obtain rfl := List.mem_singleton.1 hx
      refine wpOp_step hol (fun K' hK => ?_)
      rw [if_pos hwl]
      exact hl K' (fun a' w' h1 h2 => hK _ _ ⟨h1, h2 (hc.add hx')⟩)
end
/-- Behind the region. -/
def HelpM (R : Nat) (h : Int) (w : World) (a' : Act) (y : World) : Prop :=
  ∃ (N S V : Nat) (u0 u1 u3 u4 u5 u6 u7 : Value), a' = { tmps := #[u0, u1, .pointer (some ⟨R, 0, none⟩), u3, u4, u5, u6, u7], defers := [] } ∧ y.heap[R]? = some (.cells #[.int .i64 8, .int .i64 2, .slice (some ⟨N + 3, 0, none⟩) 2 2, .slice (some ⟨N + 13, 0, none⟩) 4 4, .int .i64 h, .slice (some ⟨S, 0, none⟩) 4 4, .slice (some ⟨V, 0, none⟩) 4 4] 29 (0, 0)) ∧
    HelpS w.heap.size N S V baseRO nil4 nil4 y ∧ Ext w y

theorem lies_only {N n : Nat} {os : List RO} {w w' : World} (l : Lies N os w) (h : Only n w w') (hn : n < N ∨ N + os.length ≤ n) : Lies N os w' := by
  refine ⟨fun i x hx => ?_, l.2⟩
  have hi : i < os.length := by
    apply Decidable.byContradiction
    intro hc
    rw [List.getElem?_eq_none (by simp; omega)] at hx; cases hx
  exact h.blk (l.1 i x hx) (by omega)
set_option maxRecDepth 100000 in
set_option maxHeartbeats 8000000 in
theorem help_any (w : World) (h : Int) : Calls Tryz.prog 13 #[.int .i64 h] w fun e w' => ∃ N S V, e = .returned (helpV N S V h) ∧ HelpS w.heap.size N S V baseRO nil4 nil4 w' ∧ Ext w w' := by
  go_enter Tryz.func13, Tryz.ntmps13
  go_upto_region 1 with (fail)
  refine wp_meetq (HelpM w.heap.size h w) ?_ ?_
  · refine wp_forget (fun v => Ext w v ∧ v.heap[w.heap.size]? = some zero7) ⟨(by repeat (first | exact Ext.refl _ | assumption | refine Ext.more ?_ _ | refine Ext.drew ?_ | refine Ext.drewN ?_ _ | refine Ext.alloc ?_ _ | refine Ext.setCell ?_ (by simp; try omega) _ | refine Ext.trans ?_ (by assumption))), heap_alloc_new w _⟩ ?_
    rintro v ⟨hx, hR⟩
    have HRL := hid (lt_of_block hR)
    have HX := hid (hx.drew)
    have HRV := hid (fun u (hu : Ext v.drew u) => block_ext hu (show v.drew.heap[w.heap.size]? = some zero7 from hR))
    clear hR hx
    have e1 := mkStreams
    have e2 := mkArrivals
    refine wp_region_T 5 1 (fun _ => True) (by kernel_rfl) (by kernel_rfl) ?_
    have HRL' : Hid (w.heap.size < v.drew.heap.size) := HRL.out
    clear HRL
    have HRL := HRL'
    clear HRL'
    generalize v.drew = v0 at *
    have HX0 := hid (Ext.refl v0)
    have HR0 := hid (HRV.out v0 HX0.out)
    have HSS : True := trivial
    refine wpT_take 1 (v := ?v54) rfl (by kernel_rfl) (by kernel_rfl) (by kernel_rfl) (by kernel_rfl) (by intro _ _ _ h; first | exact h | (obtain ⟨h, _⟩ := h; cases h)) (by rfl) HSS ?hy54 ?_
    case hy54 => (intro u hu; go_simp; first | done | (with_reducible rfl))
    (try simp only [Act.put, List.getElem_toArray, List.getElem_cons_zero, List.getElem_cons_succ, List.setIfInBounds_toArray, List.set_cons_zero, List.set_cons_succ])
    clear HSS
    refine wpT_three 0 2 3 rfl rfl rfl (by kernel_rfl) (by rfl) (by rfl) (by rfl) (fun K' hK => ?_) (fun K' hK => ?_) (fun K' hK => ?_)
    · go_simp
      refine (base_to _).mono ?_
      rintro e v1 ⟨N, rfl, hN, hl, hx, hs⟩
      have HX1 := hid (HX0.out.trans hx)
      have HLN := hid hl
      have HN := hid (And.intro hN.out hs)
      clear hN hl hx hs
      have HR1 := hid (HRV.out v1 HX1.out)
      refine hK.out _ _ trivial ?_
      clear hK K' HR0
      (try simp only [Act.put, List.setIfInBounds_toArray, List.set_cons_zero, List.set_cons_succ])
      refine wpT_two 2 3 rfl rfl (by kernel_rfl) (by rfl) (by rfl) (fun K' hK => ?_) (fun K' hK => ?_)
      · go_simp
        have hx := Ext.alloc (Ext.refl v1) (.cells #[.slice none 0 0, .slice none 0 0, .slice none 0 0, .slice none 0 0] 42 (0, 0))
        have HX2 := hid (HX1.out.trans hx)
        have HS2 := hid (heap_alloc_new v1 (.cells #[.slice none 0 0, .slice none 0 0, .slice none 0 0, .slice none 0 0] 42 (0, 0)))
        obtain ⟨S, hSe⟩ : ∃ z, z = v1.heap.size := ⟨_, rfl⟩
        have HSN : Hid (S = v1.heap.size ∧ (v1.alloc (.cells #[.slice none 0 0, .slice none 0 0, .slice none 0 0, .slice none 0 0] 42 (0, 0))).heap.size = S + 1) := ⟨hSe, by rw [World.size_alloc, hSe]⟩
        rw [← hSe] at HS2
        have HLN' := hid (HLN.out.ext hx)
        clear HLN
        have HLN := HLN'
        clear HLN'
        rw [← hSe]
        generalize v1.alloc (.cells #[.slice none 0 0, .slice none 0 0, .slice none 0 0, .slice none 0 0] 42 (0, 0)) = v2 at *
        clear hx hSe
        have HR2 := hid (HRV.out v2 HX2.out)
        refine hK.out _ _ trivial ?_
        clear hK K' HR1
        (try simp only [Act.put, List.setIfInBounds_toArray, List.set_cons_zero, List.set_cons_succ])
        refine wpT_one 3 rfl (by kernel_rfl) (by rfl) (fun K' hK => ?_)
        go_simp
        have hx := Ext.alloc (Ext.refl v2) (.cells #[.slice none 0 0, .slice none 0 0, .slice none 0 0, .slice none 0 0] 45 (0, 0))
        have HX3 := hid (HX2.out.trans hx)
        have HV3 := hid (heap_alloc_new v2 (.cells #[.slice none 0 0, .slice none 0 0, .slice none 0 0, .slice none 0 0] 45 (0, 0)))
        obtain ⟨V, hVe⟩ : ∃ z, z = v2.heap.size := ⟨_, rfl⟩
        have HVN : Hid (V = v2.heap.size ∧ (v2.alloc (.cells #[.slice none 0 0, .slice none 0 0, .slice none 0 0, .slice none 0 0] 45 (0, 0))).heap.size = V + 1) := ⟨hVe, by rw [World.size_alloc, hVe]⟩
        rw [← hVe] at HV3
        have HLN' := hid (HLN.out.ext hx)
        clear HLN
        have HLN := HLN'
        clear HLN'
        have HS3 := hid (block_ext hx HS2.out)
        clear HS2
        rw [← hVe]
        generalize v2.alloc (.cells #[.slice none 0 0, .slice none 0 0, .slice none 0 0, .slice none 0 0] 45 (0, 0)) = v3 at *
        clear hx hVe
        have HR3 := hid (HRV.out v3 HX3.out)
        refine hK.out _ _ trivial ?_
        clear hK K' HR2
        (try simp only [Act.put, List.setIfInBounds_toArray, List.set_cons_zero, List.set_cons_succ])
        have HSS : True := trivial
        refine wpT_take 4 (v := ?v55) rfl (by kernel_rfl) (by kernel_rfl) (by kernel_rfl) (by kernel_rfl) (by intro _ _ _ h; first | exact h | (obtain ⟨h, _⟩ := h; cases h)) (by rfl) HSS ?hy55 ?_
        case hy55 => (intro u hu; go_simp; first | done | (with_reducible rfl))
        (try simp only [Act.put, List.getElem_toArray, List.getElem_cons_zero, List.getElem_cons_succ, List.setIfInBounds_toArray, List.set_cons_zero, List.set_cons_succ])
        clear HSS
        refine wpT_done (by kernel_rfl) ?_
        refine wpAny_one 5 rfl (by kernel_rfl) (by rfl) (fun K' hK => ?_)
        have m0 := blk_cell HR3.out 0
        have f0 := blk_free HR3.out 0
        have m1 := blk_cell HR3.out 1
        have f1 := blk_free HR3.out 1
        have m2 := blk_cell HR3.out 2
        have f2 := blk_free HR3.out 2
        have m3 := blk_cell HR3.out 3
        have f3 := blk_free HR3.out 3
        have m4 := blk_cell HR3.out 4
        have f4 := blk_free HR3.out 4
        have m5 := blk_cell HR3.out 5
        have f5 := blk_free HR3.out 5
        have m6 := blk_cell HR3.out 6
        have f6 := blk_free HR3.out 6
        go_simp
        refine hK.out _ _ ?_
        (try simp only [Act.put, List.setIfInBounds_toArray, List.set_cons_zero, List.set_cons_succ])
        refine wpAny_done (by kernel_rfl) ?_ _
        have hz := HX1.out.size
        have hz2 := HX2.out.size
        have hz3 := HX3.out.size
        have hn := HN.out
        have hsn := HSN.out
        have hvn := HVN.out
        have hrl := HRL.out
        have hO : ∀ a0 a1 a2 a3 a4 a5 a6, Only w.heap.size v3 (((((((v3.setCell ⟨w.heap.size, 0, none⟩ a0).setCell ⟨w.heap.size, 1, none⟩ a1).setCell ⟨w.heap.size, 2, none⟩ a2).setCell ⟨w.heap.size, 3, none⟩ a3).setCell ⟨w.heap.size, 4, none⟩ a4).setCell ⟨w.heap.size, 5, none⟩ a5).setCell ⟨w.heap.size, 6, none⟩ a6) := fun _ _ _ _ _ _ _ => (((((((Only.refl _ _).setCell _).setCell _).setCell _).setCell _).setCell _).setCell _).setCell _
        exact ⟨N, S, V, _, _, _, _, _, _, _, rfl, sets7 HR3.out _ _ _ _ _ _ _, ⟨lies_only HLN.out (hO _ _ _ _ _ _ _) (by omega), (hO _ _ _ _ _ _ _).blk HS3.out (by omega), (hO _ _ _ _ _ _ _).blk HV3.out (by omega), by omega, by omega, by omega, by omega, by simp only [baseRO, List.length_cons, List.length_nil]; omega, by simp only [baseRO, List.length_cons, List.length_nil]; omega⟩, ⟨HX.out.below.trans (HX3.out.below.mono HX.out.size) |>.trans ((hO _ _ _ _ _ _ _).below (Nat.le_refl _) (by omega))⟩⟩
      · go_simp
        have hx := Ext.alloc (Ext.refl v1) (.cells #[.slice none 0 0, .slice none 0 0, .slice none 0 0, .slice none 0 0] 45 (0, 0))
        have HX2 := hid (HX1.out.trans hx)
        have HV2 := hid (heap_alloc_new v1 (.cells #[.slice none 0 0, .slice none 0 0, .slice none 0 0, .slice none 0 0] 45 (0, 0)))
        obtain ⟨V, hVe⟩ : ∃ z, z = v1.heap.size := ⟨_, rfl⟩
        have HVN : Hid (V = v1.heap.size ∧ (v1.alloc (.cells #[.slice none 0 0, .slice none 0 0, .slice none 0 0, .slice none 0 0] 45 (0, 0))).heap.size = V + 1) := ⟨hVe, by rw [World.size_alloc, hVe]⟩
        rw [← hVe] at HV2
        have HLN' := hid (HLN.out.ext hx)
        clear HLN
        have HLN := HLN'
        clear HLN'
        rw [← hVe]
        generalize v1.alloc (.cells #[.slice none 0 0, .slice none 0 0, .slice none 0 0, .slice none 0 0] 45 (0, 0)) = v2 at *
        clear hx hVe
        have HR2 := hid (HRV.out v2 HX2.out)
        refine hK.out _ _ trivial ?_
        clear hK K' HR1
        (try simp only [Act.put, List.setIfInBounds_toArray, List.set_cons_zero, List.set_cons_succ])
        refine wpT_one 2 rfl (by kernel_rfl) (by rfl) (fun K' hK => ?_)
        go_simp
        have hx := Ext.alloc (Ext.refl v2) (.cells #[.slice none 0 0, .slice none 0 0, .slice none 0 0, .slice none 0 0] 42 (0, 0))
        have HX3 := hid (HX2.out.trans hx)
        have HS3 := hid (heap_alloc_new v2 (.cells #[.slice none 0 0, .slice none 0 0, .slice none 0 0, .slice none 0 0] 42 (0, 0)))
        obtain ⟨S, hSe⟩ : ∃ z, z = v2.heap.size := ⟨_, rfl⟩
        have HSN : Hid (S = v2.heap.size ∧ (v2.alloc (.cells #[.slice none 0 0, .slice none 0 0, .slice none 0 0, .slice none 0 0] 42 (0, 0))).heap.size = S + 1) := ⟨hSe, by rw [World.size_alloc, hSe]⟩
        rw [← hSe] at HS3
        have HLN' := hid (HLN.out.ext hx)
        clear HLN
        have HLN := HLN'
        clear HLN'
        have HV3 := hid (block_ext hx HV2.out)
        clear HV2
        rw [← hSe]
        generalize v2.alloc (.cells #[.slice none 0 0, .slice none 0 0, .slice none 0 0, .slice none 0 0] 42 (0, 0)) = v3 at *
        clear hx hSe
        have HR3 := hid (HRV.out v3 HX3.out)
        refine hK.out _ _ trivial ?_
        clear hK K' HR2
        (try simp only [Act.put, List.setIfInBounds_toArray, List.set_cons_zero, List.set_cons_succ])
        have HSS : True := trivial
        refine wpT_take 4 (v := ?v56) rfl (by kernel_rfl) (by kernel_rfl) (by kernel_rfl) (by kernel_rfl) (by intro _ _ _ h; first | exact h | (obtain ⟨h, _⟩ := h; cases h)) (by rfl) HSS ?hy56 ?_
        case hy56 => (intro u hu; go_simp; first | done | (with_reducible rfl))
        (try simp only [Act.put, List.getElem_toArray, List.getElem_cons_zero, List.getElem_cons_succ, List.setIfInBounds_toArray, List.set_cons_zero, List.set_cons_succ])
        clear HSS
        refine wpT_done (by kernel_rfl) ?_
        refine wpAny_one 5 rfl (by kernel_rfl) (by rfl) (fun K' hK => ?_)
        have m0 := blk_cell HR3.out 0
        have f0 := blk_free HR3.out 0
        have m1 := blk_cell HR3.out 1
        have f1 := blk_free HR3.out 1
        have m2 := blk_cell HR3.out 2
        have f2 := blk_free HR3.out 2
        have m3 := blk_cell HR3.out 3
        have f3 := blk_free HR3.out 3
        have m4 := blk_cell HR3.out 4
        have f4 := blk_free HR3.out 4
        have m5 := blk_cell HR3.out 5
        have f5 := blk_free HR3.out 5
        have m6 := blk_cell HR3.out 6
        have f6 := blk_free HR3.out 6
        go_simp
        refine hK.out _ _ ?_
        (try simp only [Act.put, List.setIfInBounds_toArray, List.set_cons_zero, List.set_cons_succ])
        refine wpAny_done (by kernel_rfl) ?_ _
        have hz := HX1.out.size
        have hz2 := HX2.out.size
        have hz3 := HX3.out.size
        have hn := HN.out
        have hsn := HSN.out
        have hvn := HVN.out
        have hrl := HRL.out
        have hO : ∀ a0 a1 a2 a3 a4 a5 a6, Only w.heap.size v3 (((((((v3.setCell ⟨w.heap.size, 0, none⟩ a0).setCell ⟨w.heap.size, 1, none⟩ a1).setCell ⟨w.heap.size, 2, none⟩ a2).setCell ⟨w.heap.size, 3, none⟩ a3).setCell ⟨w.heap.size, 4, none⟩ a4).setCell ⟨w.heap.size, 5, none⟩ a5).setCell ⟨w.heap.size, 6, none⟩ a6) := fun _ _ _ _ _ _ _ => (((((((Only.refl _ _).setCell _).setCell _).setCell _).setCell _).setCell _).setCell _).setCell _
        exact ⟨N, S, V, _, _, _, _, _, _, _, rfl, sets7 HR3.out _ _ _ _ _ _ _, ⟨lies_only HLN.out (hO _ _ _ _ _ _ _) (by omega), (hO _ _ _ _ _ _ _).blk HS3.out (by omega), (hO _ _ _ _ _ _ _).blk HV3.out (by omega), by omega, by omega, by omega, by omega, by simp only [baseRO, List.length_cons, List.length_nil]; omega, by simp only [baseRO, List.length_cons, List.length_nil]; omega⟩, ⟨HX.out.below.trans (HX3.out.below.mono HX.out.size) |>.trans ((hO _ _ _ _ _ _ _).below (Nat.le_refl _) (by omega))⟩⟩
    · go_simp
      have hx := Ext.alloc (Ext.refl v0) (.cells #[.slice none 0 0, .slice none 0 0, .slice none 0 0, .slice none 0 0] 42 (0, 0))
      have HX1 := hid (HX0.out.trans hx)
      have HS1 := hid (heap_alloc_new v0 (.cells #[.slice none 0 0, .slice none 0 0, .slice none 0 0, .slice none 0 0] 42 (0, 0)))
      obtain ⟨S, hSe⟩ : ∃ z, z = v0.heap.size := ⟨_, rfl⟩
      have HSN : Hid (S = v0.heap.size ∧ (v0.alloc (.cells #[.slice none 0 0, .slice none 0 0, .slice none 0 0, .slice none 0 0] 42 (0, 0))).heap.size = S + 1) := ⟨hSe, by rw [World.size_alloc, hSe]⟩
      rw [← hSe] at HS1
      rw [← hSe]
      generalize v0.alloc (.cells #[.slice none 0 0, .slice none 0 0, .slice none 0 0, .slice none 0 0] 42 (0, 0)) = v1 at *
      clear hx hSe
      have HR1 := hid (HRV.out v1 HX1.out)
      refine hK.out _ _ trivial ?_
      clear hK K' HR0
      (try simp only [Act.put, List.setIfInBounds_toArray, List.set_cons_zero, List.set_cons_succ])
      refine wpT_two 0 3 rfl rfl (by kernel_rfl) (by rfl) (by rfl) (fun K' hK => ?_) (fun K' hK => ?_)
      · go_simp
        refine (base_to _).mono ?_
        rintro e v2 ⟨N, rfl, hN, hl, hx, hs⟩
        have HX2 := hid (HX1.out.trans hx)
        have HLN := hid hl
        have HN := hid (And.intro hN.out hs)
        have HS2 := hid (block_ext hx HS1.out)
        clear HS1
        clear hN hl hx hs
        have HR2 := hid (HRV.out v2 HX2.out)
        refine hK.out _ _ trivial ?_
        clear hK K' HR1
        (try simp only [Act.put, List.setIfInBounds_toArray, List.set_cons_zero, List.set_cons_succ])
        refine wpT_one 3 rfl (by kernel_rfl) (by rfl) (fun K' hK => ?_)
        go_simp
        have hx := Ext.alloc (Ext.refl v2) (.cells #[.slice none 0 0, .slice none 0 0, .slice none 0 0, .slice none 0 0] 45 (0, 0))
        have HX3 := hid (HX2.out.trans hx)
        have HV3 := hid (heap_alloc_new v2 (.cells #[.slice none 0 0, .slice none 0 0, .slice none 0 0, .slice none 0 0] 45 (0, 0)))
        obtain ⟨V, hVe⟩ : ∃ z, z = v2.heap.size := ⟨_, rfl⟩
        have HVN : Hid (V = v2.heap.size ∧ (v2.alloc (.cells #[.slice none 0 0, .slice none 0 0, .slice none 0 0, .slice none 0 0] 45 (0, 0))).heap.size = V + 1) := ⟨hVe, by rw [World.size_alloc, hVe]⟩
        rw [← hVe] at HV3
        have HS3 := hid (block_ext hx HS2.out)
        clear HS2
        have HLN' := hid (HLN.out.ext hx)
        clear HLN
        have HLN := HLN'
        clear HLN'
        rw [← hVe]
        generalize v2.alloc (.cells #[.slice none 0 0, .slice none 0 0, .slice none 0 0, .slice none 0 0] 45 (0, 0)) = v3 at *
        clear hx hVe
        have HR3 := hid (HRV.out v3 HX3.out)
        refine hK.out _ _ trivial ?_
        clear hK K' HR2
        (try simp only [Act.put, List.setIfInBounds_toArray, List.set_cons_zero, List.set_cons_succ])
        have HSS : True := trivial
        refine wpT_take 4 (v := ?v57) rfl (by kernel_rfl) (by kernel_rfl) (by kernel_rfl) (by kernel_rfl) (by intro _ _ _ h; first | exact h | (obtain ⟨h, _⟩ := h; cases h)) (by rfl) HSS ?hy57 ?_
        case hy57 => (intro u hu; go_simp; first | done | (with_reducible rfl))
        (try simp only [Act.put, List.getElem_toArray, List.getElem_cons_zero, List.getElem_cons_succ, List.setIfInBounds_toArray, List.set_cons_zero, List.set_cons_succ])
        clear HSS
        refine wpT_done (by kernel_rfl) ?_
        refine wpAny_one 5 rfl (by kernel_rfl) (by rfl) (fun K' hK => ?_)
        have m0 := blk_cell HR3.out 0
        have f0 := blk_free HR3.out 0
        have m1 := blk_cell HR3.out 1
        have f1 := blk_free HR3.out 1
        have m2 := blk_cell HR3.out 2
        have f2 := blk_free HR3.out 2
        have m3 := blk_cell HR3.out 3
        have f3 := blk_free HR3.out 3
        have m4 := blk_cell HR3.out 4
        have f4 := blk_free HR3.out 4
        have m5 := blk_cell HR3.out 5
        have f5 := blk_free HR3.out 5
        have m6 := blk_cell HR3.out 6
        have f6 := blk_free HR3.out 6
        go_simp
        refine hK.out _ _ ?_
        (try simp only [Act.put, List.setIfInBounds_toArray, List.set_cons_zero, List.set_cons_succ])
        refine wpAny_done (by kernel_rfl) ?_ _
        have hz := HX1.out.size
        have hz2 := HX2.out.size
        have hz3 := HX3.out.size
        have hn := HN.out
        have hsn := HSN.out
        have hvn := HVN.out
        have hrl := HRL.out
        have hO : ∀ a0 a1 a2 a3 a4 a5 a6, Only w.heap.size v3 (((((((v3.setCell ⟨w.heap.size, 0, none⟩ a0).setCell ⟨w.heap.size, 1, none⟩ a1).setCell ⟨w.heap.size, 2, none⟩ a2).setCell ⟨w.heap.size, 3, none⟩ a3).setCell ⟨w.heap.size, 4, none⟩ a4).setCell ⟨w.heap.size, 5, none⟩ a5).setCell ⟨w.heap.size, 6, none⟩ a6) := fun _ _ _ _ _ _ _ => (((((((Only.refl _ _).setCell _).setCell _).setCell _).setCell _).setCell _).setCell _).setCell _
        exact ⟨N, S, V, _, _, _, _, _, _, _, rfl, sets7 HR3.out _ _ _ _ _ _ _, ⟨lies_only HLN.out (hO _ _ _ _ _ _ _) (by omega), (hO _ _ _ _ _ _ _).blk HS3.out (by omega), (hO _ _ _ _ _ _ _).blk HV3.out (by omega), by omega, by omega, by omega, by omega, by simp only [baseRO, List.length_cons, List.length_nil]; omega, by simp only [baseRO, List.length_cons, List.length_nil]; omega⟩, ⟨HX.out.below.trans (HX3.out.below.mono HX.out.size) |>.trans ((hO _ _ _ _ _ _ _).below (Nat.le_refl _) (by omega))⟩⟩
      · go_simp
        have hx := Ext.alloc (Ext.refl v1) (.cells #[.slice none 0 0, .slice none 0 0, .slice none 0 0, .slice none 0 0] 45 (0, 0))
        have HX2 := hid (HX1.out.trans hx)
        have HV2 := hid (heap_alloc_new v1 (.cells #[.slice none 0 0, .slice none 0 0, .slice none 0 0, .slice none 0 0] 45 (0, 0)))
        obtain ⟨V, hVe⟩ : ∃ z, z = v1.heap.size := ⟨_, rfl⟩
        have HVN : Hid (V = v1.heap.size ∧ (v1.alloc (.cells #[.slice none 0 0, .slice none 0 0, .slice none 0 0, .slice none 0 0] 45 (0, 0))).heap.size = V + 1) := ⟨hVe, by rw [World.size_alloc, hVe]⟩
        rw [← hVe] at HV2
        have HS2 := hid (block_ext hx HS1.out)
        clear HS1
        rw [← hVe]
        generalize v1.alloc (.cells #[.slice none 0 0, .slice none 0 0, .slice none 0 0, .slice none 0 0] 45 (0, 0)) = v2 at *
        clear hx hVe
        have HR2 := hid (HRV.out v2 HX2.out)
        refine hK.out _ _ trivial ?_
        clear hK K' HR1
        (try simp only [Act.put, List.setIfInBounds_toArray, List.set_cons_zero, List.set_cons_succ])
        refine wpT_one 0 rfl (by kernel_rfl) (by rfl) (fun K' hK => ?_)
        go_simp
        refine (base_to _).mono ?_
        rintro e v3 ⟨N, rfl, hN, hl, hx, hs⟩
        have HX3 := hid (HX2.out.trans hx)
        have HLN := hid hl
        have HN := hid (And.intro hN.out hs)
        have HS3 := hid (block_ext hx HS2.out)
        clear HS2
        have HV3 := hid (block_ext hx HV2.out)
        clear HV2
        clear hN hl hx hs
        have HR3 := hid (HRV.out v3 HX3.out)
        refine hK.out _ _ trivial ?_
        clear hK K' HR2
        (try simp only [Act.put, List.setIfInBounds_toArray, List.set_cons_zero, List.set_cons_succ])
        have HSS : True := trivial
        refine wpT_take 4 (v := ?v58) rfl (by kernel_rfl) (by kernel_rfl) (by kernel_rfl) (by kernel_rfl) (by intro _ _ _ h; first | exact h | (obtain ⟨h, _⟩ := h; cases h)) (by rfl) HSS ?hy58 ?_
        case hy58 => (intro u hu; go_simp; first | done | (with_reducible rfl))
        (try simp only [Act.put, List.getElem_toArray, List.getElem_cons_zero, List.getElem_cons_succ, List.setIfInBounds_toArray, List.set_cons_zero, List.set_cons_succ])
        clear HSS
        refine wpT_done (by kernel_rfl) ?_
        refine wpAny_one 5 rfl (by kernel_rfl) (by rfl) (fun K' hK => ?_)
        have m0 := blk_cell HR3.out 0
        have f0 := blk_free HR3.out 0
        have m1 := blk_cell HR3.out 1
        have f1 := blk_free HR3.out 1
        have m2 := blk_cell HR3.out 2
        have f2 := blk_free HR3.out 2
        have m3 := blk_cell HR3.out 3
        have f3 := blk_free HR3.out 3
        have m4 := blk_cell HR3.out 4
        have f4 := blk_free HR3.out 4
        have m5 := blk_cell HR3.out 5
        have f5 := blk_free HR3.out 5
        have m6 := blk_cell HR3.out 6
        have f6 := blk_free HR3.out 6
        go_simp
        refine hK.out _ _ ?_
        (try simp only [Act.put, List.setIfInBounds_toArray, List.set_cons_zero, List.set_cons_succ])
        refine wpAny_done (by kernel_rfl) ?_ _
        have hz := HX1.out.size
        have hz2 := HX2.out.size
        have hz3 := HX3.out.size
        have hn := HN.out
        have hsn := HSN.out
        have hvn := HVN.out
        have hrl := HRL.out
        have hO : ∀ a0 a1 a2 a3 a4 a5 a6, Only w.heap.size v3 (((((((v3.setCell ⟨w.heap.size, 0, none⟩ a0).setCell ⟨w.heap.size, 1, none⟩ a1).setCell ⟨w.heap.size, 2, none⟩ a2).setCell ⟨w.heap.size, 3, none⟩ a3).setCell ⟨w.heap.size, 4, none⟩ a4).setCell ⟨w.heap.size, 5, none⟩ a5).setCell ⟨w.heap.size, 6, none⟩ a6) := fun _ _ _ _ _ _ _ => (((((((Only.refl _ _).setCell _).setCell _).setCell _).setCell _).setCell _).setCell _).setCell _
        exact ⟨N, S, V, _, _, _, _, _, _, _, rfl, sets7 HR3.out _ _ _ _ _ _ _, ⟨lies_only HLN.out (hO _ _ _ _ _ _ _) (by omega), (hO _ _ _ _ _ _ _).blk HS3.out (by omega), (hO _ _ _ _ _ _ _).blk HV3.out (by omega), by omega, by omega, by omega, by omega, by simp only [baseRO, List.length_cons, List.length_nil]; omega, by simp only [baseRO, List.length_cons, List.length_nil]; omega⟩, ⟨HX.out.below.trans (HX3.out.below.mono HX.out.size) |>.trans ((hO _ _ _ _ _ _ _).below (Nat.le_refl _) (by omega))⟩⟩
    · go_simp
      have hx := Ext.alloc (Ext.refl v0) (.cells #[.slice none 0 0, .slice none 0 0, .slice none 0 0, .slice none 0 0] 45 (0, 0))
      have HX1 := hid (HX0.out.trans hx)
      have HV1 := hid (heap_alloc_new v0 (.cells #[.slice none 0 0, .slice none 0 0, .slice none 0 0, .slice none 0 0] 45 (0, 0)))
      obtain ⟨V, hVe⟩ : ∃ z, z = v0.heap.size := ⟨_, rfl⟩
      have HVN : Hid (V = v0.heap.size ∧ (v0.alloc (.cells #[.slice none 0 0, .slice none 0 0, .slice none 0 0, .slice none 0 0] 45 (0, 0))).heap.size = V + 1) := ⟨hVe, by rw [World.size_alloc, hVe]⟩
      rw [← hVe] at HV1
      rw [← hVe]
      generalize v0.alloc (.cells #[.slice none 0 0, .slice none 0 0, .slice none 0 0, .slice none 0 0] 45 (0, 0)) = v1 at *
      clear hx hVe
      have HR1 := hid (HRV.out v1 HX1.out)
      refine hK.out _ _ trivial ?_
      clear hK K' HR0
      (try simp only [Act.put, List.setIfInBounds_toArray, List.set_cons_zero, List.set_cons_succ])
      refine wpT_two 0 2 rfl rfl (by kernel_rfl) (by rfl) (by rfl) (fun K' hK => ?_) (fun K' hK => ?_)
      · go_simp
        refine (base_to _).mono ?_
        rintro e v2 ⟨N, rfl, hN, hl, hx, hs⟩
        have HX2 := hid (HX1.out.trans hx)
        have HLN := hid hl
        have HN := hid (And.intro hN.out hs)
        have HV2 := hid (block_ext hx HV1.out)
        clear HV1
        clear hN hl hx hs
        have HR2 := hid (HRV.out v2 HX2.out)
        refine hK.out _ _ trivial ?_
        clear hK K' HR1
        (try simp only [Act.put, List.setIfInBounds_toArray, List.set_cons_zero, List.set_cons_succ])
        refine wpT_one 2 rfl (by kernel_rfl) (by rfl) (fun K' hK => ?_)
        go_simp
        have hx := Ext.alloc (Ext.refl v2) (.cells #[.slice none 0 0, .slice none 0 0, .slice none 0 0, .slice none 0 0] 42 (0, 0))
        have HX3 := hid (HX2.out.trans hx)
        have HS3 := hid (heap_alloc_new v2 (.cells #[.slice none 0 0, .slice none 0 0, .slice none 0 0, .slice none 0 0] 42 (0, 0)))
        obtain ⟨S, hSe⟩ : ∃ z, z = v2.heap.size := ⟨_, rfl⟩
        have HSN : Hid (S = v2.heap.size ∧ (v2.alloc (.cells #[.slice none 0 0, .slice none 0 0, .slice none 0 0, .slice none 0 0] 42 (0, 0))).heap.size = S + 1) := ⟨hSe, by rw [World.size_alloc, hSe]⟩
        rw [← hSe] at HS3
        have HV3 := hid (block_ext hx HV2.out)
        clear HV2
        have HLN' := hid (HLN.out.ext hx)
        clear HLN
        have HLN := HLN'
        clear HLN'
        rw [← hSe]
        generalize v2.alloc (.cells #[.slice none 0 0, .slice none 0 0, .slice none 0 0, .slice none 0 0] 42 (0, 0)) = v3 at *
        clear hx hSe
        have HR3 := hid (HRV.out v3 HX3.out)
        refine hK.out _ _ trivial ?_
        clear hK K' HR2
        (try simp only [Act.put, List.setIfInBounds_toArray, List.set_cons_zero, List.set_cons_succ])
        have HSS : True := trivial
        refine wpT_take 4 (v := ?v59) rfl (by kernel_rfl) (by kernel_rfl) (by kernel_rfl) (by kernel_rfl) (by intro _ _ _ h; first | exact h | (obtain ⟨h, _⟩ := h; cases h)) (by rfl) HSS ?hy59 ?_
        case hy59 => (intro u hu; go_simp; first | done | (with_reducible rfl))
        (try simp only [Act.put, List.getElem_toArray, List.getElem_cons_zero, List.getElem_cons_succ, List.setIfInBounds_toArray, List.set_cons_zero, List.set_cons_succ])
        clear HSS
        refine wpT_done (by kernel_rfl) ?_
        refine wpAny_one 5 rfl (by kernel_rfl) (by rfl) (fun K' hK => ?_)
        have m0 := blk_cell HR3.out 0
        have f0 := blk_free HR3.out 0
        have m1 := blk_cell HR3.out 1
        have f1 := blk_free HR3.out 1
        have m2 := blk_cell HR3.out 2
        have f2 := blk_free HR3.out 2
        have m3 := blk_cell HR3.out 3
        have f3 := blk_free HR3.out 3
        have m4 := blk_cell HR3.out 4
        have f4 := blk_free HR3.out 4
        have m5 := blk_cell HR3.out 5
        have f5 := blk_free HR3.out 5
        have m6 := blk_cell HR3.out 6
        have f6 := blk_free HR3.out 6
        go_simp
        refine hK.out _ _ ?_
        (try simp only [Act.put, List.setIfInBounds_toArray, List.set_cons_zero, List.set_cons_succ])
        refine wpAny_done (by kernel_rfl) ?_ _
        have hz := HX1.out.size
        have hz2 := HX2.out.size
        have hz3 := HX3.out.size
        have hn := HN.out
        have hsn := HSN.out
        have hvn := HVN.out
        have hrl := HRL.out
        have hO : ∀ a0 a1 a2 a3 a4 a5 a6, Only w.heap.size v3 (((((((v3.setCell ⟨w.heap.size, 0, none⟩ a0).setCell ⟨w.heap.size, 1, none⟩ a1).setCell ⟨w.heap.size, 2, none⟩ a2).setCell ⟨w.heap.size, 3, none⟩ a3).setCell ⟨w.heap.size, 4, none⟩ a4).setCell ⟨w.heap.size, 5, none⟩ a5).setCell ⟨w.heap.size, 6, none⟩ a6) := fun _ _ _ _ _ _ _ => (((((((Only.refl _ _).setCell _).setCell _).setCell _).setCell _).setCell _).setCell _).setCell _
        exact ⟨N, S, V, _, _, _, _, _, _, _, rfl, sets7 HR3.out _ _ _ _ _ _ _, ⟨lies_only HLN.out (hO _ _ _ _ _ _ _) (by omega), (hO _ _ _ _ _ _ _).blk HS3.out (by omega), (hO _ _ _ _ _ _ _).blk HV3.out (by omega), by omega, by omega, by omega, by omega, by simp only [baseRO, List.length_cons, List.length_nil]; omega, by simp only [baseRO, List.length_cons, List.length_nil]; omega⟩, ⟨HX.out.below.trans (HX3.out.below.mono HX.out.size) |>.trans ((hO _ _ _ _ _ _ _).below (Nat.le_refl _) (by omega))⟩⟩
      · go_simp
        have hx := Ext.alloc (Ext.refl v1) (.cells #[.slice none 0 0, .slice none 0 0, .slice none 0 0, .slice none 0 0] 42 (0, 0))
        have HX2 := hid (HX1.out.trans hx)
        have HS2 := hid (heap_alloc_new v1 (.cells #[.slice none 0 0, .slice none 0 0, .slice none 0 0, .slice none 0 0] 42 (0, 0)))
        obtain ⟨S, hSe⟩ : ∃ z, z = v1.heap.size := ⟨_, rfl⟩
        have HSN : Hid (S = v1.heap.size ∧ (v1.alloc (.cells #[.slice none 0 0, .slice none 0 0, .slice none 0 0, .slice none 0 0] 42 (0, 0))).heap.size = S + 1) := ⟨hSe, by rw [World.size_alloc, hSe]⟩
        rw [← hSe] at HS2
        have HV2 := hid (block_ext hx HV1.out)
        clear HV1
        rw [← hSe]
        generalize v1.alloc (.cells #[.slice none 0 0, .slice none 0 0, .slice none 0 0, .slice none 0 0] 42 (0, 0)) = v2 at *
        clear hx hSe
        have HR2 := hid (HRV.out v2 HX2.out)
        refine hK.out _ _ trivial ?_
        clear hK K' HR1
        (try simp only [Act.put, List.setIfInBounds_toArray, List.set_cons_zero, List.set_cons_succ])
        refine wpT_one 0 rfl (by kernel_rfl) (by rfl) (fun K' hK => ?_)
        go_simp
        refine (base_to _).mono ?_
        rintro e v3 ⟨N, rfl, hN, hl, hx, hs⟩
        have HX3 := hid (HX2.out.trans hx)
        have HLN := hid hl
        have HN := hid (And.intro hN.out hs)
        have HV3 := hid (block_ext hx HV2.out)
        clear HV2
        have HS3 := hid (block_ext hx HS2.out)
        clear HS2
        clear hN hl hx hs
        have HR3 := hid (HRV.out v3 HX3.out)
        refine hK.out _ _ trivial ?_
        clear hK K' HR2
        (try simp only [Act.put, List.setIfInBounds_toArray, List.set_cons_zero, List.set_cons_succ])
        have HSS : True := trivial
        refine wpT_take 4 (v := ?v60) rfl (by kernel_rfl) (by kernel_rfl) (by kernel_rfl) (by kernel_rfl) (by intro _ _ _ h; first | exact h | (obtain ⟨h, _⟩ := h; cases h)) (by rfl) HSS ?hy60 ?_
        case hy60 => (intro u hu; go_simp; first | done | (with_reducible rfl))
        (try simp only [Act.put, List.getElem_toArray, List.getElem_cons_zero, List.getElem_cons_succ, List.setIfInBounds_toArray, List.set_cons_zero, List.set_cons_succ])
        clear HSS
        refine wpT_done (by kernel_rfl) ?_
        refine wpAny_one 5 rfl (by kernel_rfl) (by rfl) (fun K' hK => ?_)
        have m0 := blk_cell HR3.out 0
        have f0 := blk_free HR3.out 0
        have m1 := blk_cell HR3.out 1
        have f1 := blk_free HR3.out 1
        have m2 := blk_cell HR3.out 2
        have f2 := blk_free HR3.out 2
        have m3 := blk_cell HR3.out 3
        have f3 := blk_free HR3.out 3
        have m4 := blk_cell HR3.out 4
        have f4 := blk_free HR3.out 4
        have m5 := blk_cell HR3.out 5
        have f5 := blk_free HR3.out 5
        have m6 := blk_cell HR3.out 6
        have f6 := blk_free HR3.out 6
        go_simp
        refine hK.out _ _ ?_
        (try simp only [Act.put, List.setIfInBounds_toArray, List.set_cons_zero, List.set_cons_succ])
        refine wpAny_done (by kernel_rfl) ?_ _
        have hz := HX1.out.size
        have hz2 := HX2.out.size
        have hz3 := HX3.out.size
        have hn := HN.out
        have hsn := HSN.out
        have hvn := HVN.out
        have hrl := HRL.out
        have hO : ∀ a0 a1 a2 a3 a4 a5 a6, Only w.heap.size v3 (((((((v3.setCell ⟨w.heap.size, 0, none⟩ a0).setCell ⟨w.heap.size, 1, none⟩ a1).setCell ⟨w.heap.size, 2, none⟩ a2).setCell ⟨w.heap.size, 3, none⟩ a3).setCell ⟨w.heap.size, 4, none⟩ a4).setCell ⟨w.heap.size, 5, none⟩ a5).setCell ⟨w.heap.size, 6, none⟩ a6) := fun _ _ _ _ _ _ _ => (((((((Only.refl _ _).setCell _).setCell _).setCell _).setCell _).setCell _).setCell _).setCell _
        exact ⟨N, S, V, _, _, _, _, _, _, _, rfl, sets7 HR3.out _ _ _ _ _ _ _, ⟨lies_only HLN.out (hO _ _ _ _ _ _ _) (by omega), (hO _ _ _ _ _ _ _).blk HS3.out (by omega), (hO _ _ _ _ _ _ _).blk HV3.out (by omega), by omega, by omega, by omega, by omega, by simp only [baseRO, List.length_cons, List.length_nil]; omega, by simp only [baseRO, List.length_cons, List.length_nil]; omega⟩, ⟨HX.out.below.trans (HX3.out.below.mono HX.out.size) |>.trans ((hO _ _ _ _ _ _ _).below (Nat.le_refl _) (by omega))⟩⟩
  · refine fun a' y => ex_elim fun N => ex_elim fun S => ex_elim fun V => ex_elim fun u0 => ex_elim fun u1 => ex_elim fun u3 => ex_elim fun u4 => ex_elim fun u5 => ex_elim fun u6 => ex_elim fun u7 => ?_
    rintro ⟨rfl, hy, hH, hx⟩
    have m0 := blk_cell hy 0
    have m1 := blk_cell hy 1
    have m2 := blk_cell hy 2
    have m3 := blk_cell hy 3
    have m4 := blk_cell hy 4
    have m5 := blk_cell hy 5
    have m6 := blk_cell hy 6
    simp only [List.getElem?_toArray, List.getElem?_cons_zero, List.getElem?_cons_succ] at m0 m1 m2 m3 m4 m5 m6
    go_wp2
    exact bodyPost_ret (v := helpV N S V h) (by simp [results, Tryz.results13, go_sem, m0, m1, m2, m3, m4, m5, m6]) rfl ⟨N, S, V, rfl, hH, hx⟩
end Go.Proofs.YtbllibgddiiboaaGreatDoor

namespace Go.Proofs.YtbllibgddiiboaaGreatDoor
open Go.RowKit

theorem read_ok (w : World) {l : List UInt8} (h : scrOk l = true) : Calls Tryz.prog 14 #[.string (str l)] w (ReadGood (scrR ⟨l, 0⟩).1 w) := by
  obtain ⟨h1, h2, h3, h4⟩ := progOk_iff.2 h
  have hs := progOk_same h
  obtain ⟨q, s, hq⟩ : ∃ q s, scrP ⟨⟨l, 0⟩, false⟩ = (q, s) := ⟨_, _, rfl⟩
  rw [hq] at h2 h3 h4 hs
  have hs' : q = (scrR ⟨l, 0⟩).1 := hs
  have h3' : s.r.s = [] := h3
  subst hs'
  exact read_good w l h1 _ s hq h2 (by rw [h3']; rfl) h4
theorem read_no (w : World) {l : List UInt8} (h : scrOk l = false) : Calls Tryz.prog 14 #[.string (str l)] w (ReadBad w) := by
  by_cases hl : l.length ≤ 40000
  · obtain ⟨q, s, hq⟩ : ∃ q s, scrP ⟨⟨l, 0⟩, false⟩ = (q, s) := ⟨_, _, rfl⟩
    refine read_bad w l hl q s hq ?_
    cases hw : s.wrong
    · by_cases hz : s.r.s.length = 0
      · refine .inr (.inr ⟨rfl, hz, fun hi => ?_⟩)
        have hp : progOk l := by
          unfold progOk
          rw [hq]
          exact ⟨hl, hw, List.eq_nil_of_length_eq_zero hz, hi⟩
        rw [progOk_iff.1 hp] at h
        cases h
      · exact .inr (.inl ⟨rfl, by omega⟩)
    · exact .inl rfl
  · exact (read_large w l (by omega)).mono fun e w' ⟨he, hx⟩ => ⟨12, by decide, he, hx⟩
theorem scrBytes_of (w : World) (s : Scr) (pv dv sv av : Value) (hc : ScrV w s pv dv sv av) (hi : isScr s = 0 → CnfIn s.conf) (hb : isScr s = 0 → (allBytes s).length ≤ 80000) :
    Calls Tryz.prog 11 #[scrV s pv dv sv av] w (Yields w (.string (str (scrBytes s)))) := by
  by_cases h : isScr s = 0
  · rw [scrBytes_ok h]; exact scrBytes_yes w s pv dv sv av hc h (hi h) (hb h)
  · rw [scrBytes_bad h]; exact scrBytes_no w s pv dv sv av hc h

/-! ### A script that lies as the statements' own does -/
structure SV (N S V : Nat) (h : Int) (s : Scr) (w : World) : Prop where
  v : ScrV w s (.slice (some ⟨N + 3, 0, none⟩) 2 2) (.slice (some ⟨N + 13, 0, none⟩) 4 4) (.slice (some ⟨S, 0, none⟩) 4 4) (.slice (some ⟨V, 0, none⟩) 4 4)
  f : s.conf.frame = 8
  e : s.conf.epoch = 2
  h : s.horizon = h
theorem SV.ext {N S V : Nat} {h : Int} {s : Scr} {w w' : World} (x : Ext w w') (k : SV N S V h s w) : SV N S V h s w' := ⟨k.v.ext x, k.f, k.e, k.h⟩
theorem SV.val {N S V : Nat} {h : Int} {s : Scr} {w : World} (k : SV N S V h s w) : scrV s (.slice (some ⟨N + 3, 0, none⟩) 2 2) (.slice (some ⟨N + 13, 0, none⟩) 4 4) (.slice (some ⟨S, 0, none⟩) 4 4) (.slice (some ⟨V, 0, none⟩) 4 4) = helpV N S V h := by
  unfold scrV helpV
  rw [k.f, k.e, k.h]
/-- The elements of a row of rows, each in its cell. -/
theorem HelpS.script {base N S V : Nat} {os : List RO} {ss vs : List Value} {w : World} (h : HelpS base N S V os ss vs w) {hz : Int} {c : Cnf} {st : List (List Axn)} {ar : List (List Arv)} (hc : confOf os 8 2 (.s 3 2) (.s 13 4) = some c)
    (l1 : st.length = 4) (l2 : ar.length = 4) (hs : ∀ (i : Nat) l, st[i]? = some l → ∃ v, ss[i]? = some v ∧ AxnsV w v l) (hv : ∀ (i : Nat) l, ar[i]? = some l → ∃ v, vs[i]? = some v ∧ ArvsV w v l) : SV N S V hz ⟨c, hz, st, ar⟩ w := by
  obtain ⟨hf, he, hcv⟩ := conf_lies h.lies (pv := .s 3 2) (dv := .s 13 4) (RV.wf_of rfl) (RV.wf_of rfl) hc
  refine ⟨⟨hcv, ?_, ?_⟩, hf, he, rfl⟩
  · refine ⟨some ⟨S, 0, none⟩, 4, by rw [l1], by rw [l1]; omega, by unfold maxLen; omega, fun _ => ⟨S, 0, rfl, fun i x hi => ?_⟩⟩
    obtain ⟨v, h1, h2⟩ := hs i x hi
    refine ⟨v, ?_, h2⟩
    rw [blk_cell h.sb]
    simpa using h1
  · refine ⟨some ⟨V, 0, none⟩, 4, by rw [l2], by rw [l2]; omega, by unfold maxLen; omega, fun _ => ⟨V, 0, rfl, fun i x hi => ?_⟩⟩
    obtain ⟨v, h1, h2⟩ := hv i x hi
    refine ⟨v, ?_, h2⟩
    rw [blk_cell h.vb]
    simpa using h1
theorem axns_nil (w : World) : AxnsV w (.slice none 0 0) [] := ⟨none, 0, rfl, by simp, by unfold maxLen; omega, fun h => by simp at h⟩
theorem arvs_nil (w : World) : ArvsV w (.slice none 0 0) [] := ⟨none, 0, rfl, by simp, by unfold maxLen; omega, fun h => by simp at h⟩
theorem axns_one {w : World} {g : Nat} {x : Axn} (h : w.heap[g]? = some (.cells #[.int .i64 x.op, .int .i64 x.a, .int .i64 x.b] 41 (0, 0))) : AxnsV w (.slice (some ⟨g, 0, none⟩) 1 1) [x] :=
  ⟨_, _, rfl, by simp, by unfold maxLen; omega, fun _ => ⟨g, 0, rfl, fun i y hi => by
    match i, hi with
    | 0, hi =>
      simp at hi; subst hi
      exact ⟨blk_cell h 0, blk_cell h 1, blk_cell h 2⟩⟩⟩
theorem arvs_one {w : World} {g : Nat} {x : Arv} (h : w.heap[g]? = some (.cells #[.int .i64 x.tick, .int .i64 x.obj] 44 (0, 0))) : ArvsV w (.slice (some ⟨g, 0, none⟩) 1 1) [x] :=
  ⟨_, _, rfl, by simp, by unfold maxLen; omega, fun _ => ⟨g, 0, rfl, fun i y hi => by
    match i, hi with
    | 0, hi =>
      simp at hi; subst hi
      exact ⟨blk_cell h 0, blk_cell h 1⟩⟩⟩
theorem arvs_two {w : World} {g : Nat} {x y : Arv} (h : w.heap[g]? = some (.cells #[.int .i64 x.tick, .int .i64 x.obj, .int .i64 y.tick, .int .i64 y.obj] 44 (0, 0))) : ArvsV w (.slice (some ⟨g, 0, none⟩) 2 2) [x, y] :=
  ⟨_, _, rfl, by simp, by unfold maxLen; omega, fun _ => ⟨g, 0, rfl, fun i z hi => by
    match i, hi with
    | 0, hi =>
      simp at hi; subst hi
      exact ⟨blk_cell h 0, blk_cell h 1⟩
    | 1, hi =>
      simp at hi; subst hi
      exact ⟨blk_cell h 2, blk_cell h 3⟩⟩⟩

/-! ### The scripts of the check -/
def kS : Scr := ⟨baseC, 20, [[], [⟨1, 0, 3⟩], [], []], [[], [], [⟨3, 1⟩], []]⟩
def kU : Scr := ⟨baseC, 20, [[], [], [], []], [[⟨3, 0⟩, ⟨2, 0⟩], [], [], []]⟩
def kV : Scr := ⟨baseC, -1, [[], [], [], []], [[], [], [], []]⟩
theorem kS_is : isScr kS = 0 := by decide
theorem kU_is : isScr kU = 10 := by decide
theorem kV_is : isScr kV = 12 := by decide
theorem cats_ok {c : Cnf} (h : c.doms.all (fun d => decide (0 ≤ d.cats) && decide (d.cats < 18446744073709551616)) = true) : ∀ d ∈ c.doms, U64 d.cats := fun d hd => by
  have := List.all_eq_true.1 h d hd
  simp only [Bool.and_eq_true, decide_eq_true_eq] at this
  exact this
theorem base_in : CnfIn baseC := isConf_in baseC_is (isConf_held baseC_is (cats_ok (by decide)))
theorem kS_len : (allBytes kS).length ≤ 40000 := allBytes_length kS_is base_in (fun d hd r hr => by have := (isConf_held baseC_is (cats_ok (by decide))).route d hd r hr; revert d r; decide)
theorem dom_len (d : Dom) : 17 ≤ (domBytes d).length := by
  have h1 := numB_pos d.level
  have h2 := bitsB_length d.cats
  have h3 := numB_pos d.routes.length
  have h4 := numB_pos d.to
  have h5 := numB_pos d.release.length
  have h6 := numB_pos d.threads
  have h7 := numB_pos d.groups
  have h8 := numB_pos d.ring
  have h9 := numB_pos d.sends
  have h10 := numB_pos d.box
  simp only [domBytes, rowB, List.length_append]
  omega
theorem kS_long : 60 < (allBytes kS).length := by
  have h : ∀ l : List Dom, 17 * l.length ≤ (l.flatMap domBytes).length := fun l => by
    induction l with
    | nil => simp
    | cons d l ih =>
      have := dom_len d
      rw [List.flatMap_cons, List.length_append, List.length_cons]
      omega
  have h4 := h kS.conf.doms
  have e : kS.conf.doms.length = 4 := rfl
  simp only [allBytes, confBytes, List.length_append]
  omega
theorem kS_ok : scrOk (allBytes kS) = true := scrOk_bytes kS_is base_in kS_len
theorem kS_read : (scrR ⟨allBytes kS, 0⟩).1 = kS := by rw [scr_back' kS_is base_in]
theorem no_ok : scrOk [] = false := by decide
end Go.Proofs.YtbllibgddiiboaaGreatDoor

namespace Go.Proofs.YtbllibgddiiboaaGreatDoor
open Go.RowKit

abbrev helpO (N S V : Nat) (h : Int) : Obj := .cells #[.int .i64 8, .int .i64 2, .slice (some ⟨N + 3, 0, none⟩) 2 2, .slice (some ⟨N + 13, 0, none⟩) 4 4, .int .i64 h, .slice (some ⟨S, 0, none⟩) 4 4, .slice (some ⟨V, 0, none⟩) 4 4] 29 (0, 0)
abbrev axnO (a b c : Int) : Obj := .cells #[.int .i64 a, .int .i64 b, .int .i64 c] 41 (0, 0)
theorem HelpS.putS {base N S V : Nat} {os : List RO} {ss vs : List Value} {w : World} (h : HelpS base N S V os ss vs w) (j : Nat) (u : Value) : HelpS base N S V os (ss.set j u) vs (w.setCell ⟨S, j, none⟩ u) :=
  ⟨h.lies.other u h.sn, by rw [blk_set h.sb j u]; simp, (Below.heap_setCell _ _ _ _ (by simp; exact h.sv.symm)).trans h.vb, h.hN, h.hS, h.hV, h.sv, h.sn, h.vn⟩
theorem HelpS.putV {base N S V : Nat} {os : List RO} {ss vs : List Value} {w : World} (h : HelpS base N S V os ss vs w) (j : Nat) (u : Value) : HelpS base N S V os ss (vs.set j u) (w.setCell ⟨V, j, none⟩ u) :=
  ⟨h.lies.other u h.vn, (Below.heap_setCell _ _ _ _ (by simp; exact h.sv)).trans h.sb, by rw [blk_set h.vb j u]; simp, h.hN, h.hS, h.hV, h.sv, h.sn, h.vn⟩
theorem heap_new3 (w : World) (o1 o2 o3 : Obj) : (((w.alloc o1).alloc o2).alloc o3).heap[w.heap.size + 2]? = some o3 := by
  have := heap_new2 (w.alloc o1) o2 o3
  rwa [World.size_alloc] at this
theorem heap_new2' (w : World) (p : Addr) (u : Value) (o1 o2 : Obj) : (((w.setCell p u).alloc o1).alloc o2).heap[w.heap.size]? = some o1 ∧ (((w.setCell p u).alloc o1).alloc o2).heap[w.heap.size + 1]? = some o2 := by
  have h1 := heap_alloc_new (w.setCell p u) o1
  have h2 := heap_new2 (w.setCell p u) o1 o2
  have e : (w.setCell p u).heap.size = w.heap.size := by simp [World.setCell]
  rw [e] at h1 h2
  exact ⟨block_ext (Ext.alloc (Ext.refl _) _) h1, h2⟩
abbrev arvO (a b : Int) : Obj := .cells #[.int .i64 a, .int .i64 b] 44 (0, 0)
theorem heap_new1' (w : World) (p : Addr) (u : Value) (o1 : Obj) : ((w.setCell p u).alloc o1).heap[w.heap.size]? = some o1 := by
  have h1 := heap_alloc_new (w.setCell p u) o1
  have e : (w.setCell p u).heap.size = w.heap.size := by simp [World.setCell]
  rwa [e] at h1
theorem kBytes {N S V : Nat} {w : World} (k : SV N S V 20 kS w) : Calls Tryz.prog 11 #[helpV N S V 20] w (Yields w (.string (str (allBytes kS)))) := by
  have := scrBytes_yes w kS _ _ _ _ k.v kS_is base_in (by have := kS_len; omega)
  rwa [k.val] at this
theorem is_errno_to' {n m : Int} {r : Bool} (e : (n == m) = r) (w : World) : Calls Tryz.prog 15 #[.iface 49 (.int .i64 n), .iface 49 (.int .i64 m)] w (Yields w (.bool r)) := e ▸ Err.is_errno n m w
theorem sIs {N S V : Nat} {h : Int} {s : Scr} {n : Nat} (e : isScr s = n) {w : World} (k : SV N S V h s w) : Calls Tryz.prog 7 #[helpV N S V h] w (Yields w (errV n)) := by
  have := scrIs_to e w _ _ _ _ k.v
  rwa [k.val] at this
theorem kIs0 {N S V : Nat} {w : World} (k : SV N S V 20 kS w) : Calls Tryz.prog 7 #[helpV N S V 20] w (Yields w .nilIface) := sIs kS_is k
theorem kIsU {N S V : Nat} {w : World} (k : SV N S V 20 kU w) : Calls Tryz.prog 7 #[helpV N S V 20] w (Yields w (.iface 49 (.int .i64 10))) := sIs kU_is k
theorem kIsV {N S V : Nat} {w : World} (k : SV N S V (-1) kV w) : Calls Tryz.prog 7 #[helpV N S V (-1)] w (Yields w (.iface 49 (.int .i64 12))) := sIs kV_is k
theorem kBytesV {N S V : Nat} {w : World} (k : SV N S V (-1) kV w) : Calls Tryz.prog 11 #[helpV N S V (-1)] w (Yields w (.string { data := #[] })) := by
  have := scrBytes_no w kV _ _ _ _ k.v (by rw [kV_is]; decide)
  rw [k.val] at this
  exact this
theorem kSameV {N S V N' S' V' : Nat} {w : World} (k : SV N S V 20 kS w) (k' : SV N' S' V' (-1) kV w) : Calls Tryz.prog 9 #[helpV N S V 20, helpV N' S' V' (-1)] w (Yields w (.bool false)) := by
  have := scrSame_to (r := false) (by decide) w _ _ _ _ _ _ _ _ k.v k'.v
  rwa [k.val, k'.val] at this
theorem kSameT {N S V cp cd cs ca : Nat} {pp pd ps pa : Option Addr} {w : World} (k : SV N S V 20 kS w) (k' : ScrV w kS (.slice pp 2 cp) (.slice pd 4 cd) (.slice ps 4 cs) (.slice pa 4 ca)) : Calls Tryz.prog 9 #[helpV N S V 20, .agg #[.int .i64 8, .int .i64 2, .slice pp 2 cp, .slice pd 4 cd, .int .i64 20, .slice ps 4 cs, .slice pa 4 ca]] w (Yields w (.bool true)) := by
  have := scrSame_to (sameS_self kS) w _ _ _ _ _ _ _ _ k.v k'
  rw [k.val] at this
  exact this
theorem kRead (w : World) : Calls Tryz.prog 14 #[.string (str (allBytes kS))] w (fun e w' => ∃ pp cp pd cd ps cs pa ca, e = .returned (.tuple #[.agg #[.int .i64 8, .int .i64 2, .slice pp 2 cp, .slice pd 4 cd, .int .i64 20, .slice ps 4 cs, .slice pa 4 ca], .nilIface]) ∧ ScrV w' kS (.slice pp 2 cp) (.slice pd 4 cd) (.slice ps 4 cs) (.slice pa 4 ca) ∧ Ext w w') := by
  have := read_ok w kS_ok
  rw [kS_read] at this
  exact this
theorem kNo (w : World) : Calls Tryz.prog 14 #[.string { data := #[] }] w (ReadBad w) := by
  exact read_no w no_ok
set_option maxRecDepth 100000 in
set_option maxHeartbeats 8000000 in
theorem known4_any (w : World) : Calls Tryz.prog 4 #[] w (Yields w (.bool true)) := by
  go_enter Tryz.func4, Tryz.ntmps4
  go_wp2_with fail
  refine (help_any _ 20).mono ?_
  rintro e w1 ⟨N1, S1, V1, rfl, h1, x1⟩
  have c1 := blk_cell h1.sb 1
  have f1 := blk_free h1.sb 1
  have b1 := lt_of_block h1.sb
  simp only [nil4, List.getElem?_toArray, List.getElem?_cons_zero, List.getElem?_cons_succ] at c1
  go_upto_region 3 with fail
  refine wp_forget (fun v => HelpS w.heap.size N1 S1 V1 baseRO [.slice none 0 0, .slice (some ⟨w1.heap.size + 1, 0, none⟩) 1 1, .slice none 0 0, .slice none 0 0] nil4 v ∧ v.heap[w1.heap.size]? = some (helpO N1 S1 V1 20) ∧ v.heap[w1.heap.size + 1]? = some (axnO 1 0 3) ∧ Ext w v)
    ⟨(h1.putS 1 _).ext (Ext.alloc (Ext.alloc (Ext.refl _) _) _), (heap_new2' w1 _ _ _ _).1, (heap_new2' w1 _ _ _ _).2, Ext.alloc (Ext.alloc (Ext.setCell x1 h1.hS _) _) _⟩ ?_
  rintro v2 ⟨h2, hA2, hL2, x2⟩
  clear c1 f1 b1 h1 x1
  generalize w1.heap.size = A1 at *
  clear w1
  have c2 := blk_cell h2.vb 2
  have f2 := blk_free h2.vb 2
  have b2 := lt_of_block h2.vb
  have b3 := lt_of_block hA2
  have k6 := blk_cell hA2 6
  simp only [nil4, List.getElem?_toArray, List.getElem?_cons_zero, List.getElem?_cons_succ] at c2 k6
  go_upto_region 4 with fail
  refine wp_forget (fun v => SV N1 S1 V1 20 kS v ∧ v.heap[A1]? = some (helpO N1 S1 V1 20) ∧ Ext w v) ⟨?_, ?_, Ext.alloc (Ext.setCell x2 h2.hV _) _⟩ ?_
  · have h3 := (h2.putV 2 (.slice (some ⟨v2.heap.size, 0, none⟩) 1 1)).ext (Ext.alloc (Ext.refl _) (arvO 3 1))
    have hn := heap_new1' v2 ⟨V1, 2, none⟩ (.slice (some ⟨v2.heap.size, 0, none⟩) 1 1) (arvO 3 1)
    have hl : ((v2.setCell ⟨V1, 2, none⟩ (.slice (some ⟨v2.heap.size, 0, none⟩) 1 1)).alloc (arvO 3 1)).heap[A1 + 1]? = some (axnO 1 0 3) := block_ext (Ext.alloc (Ext.refl _) _) ((Below.heap_setCell _ _ _ _ (fun e => by
      have h4 := h2.vb
      simp only at e
      rw [← e, hL2] at h4
      simp at h4)).trans hL2)
    refine h3.script baseC_of rfl rfl (fun i l hi => ?_) (fun i l hi => ?_)
    · match i, hi with
      | 0, hi => simp at hi; subst hi; exact ⟨_, rfl, axns_nil _⟩
      | 1, hi => simp at hi; subst hi; exact ⟨_, rfl, axns_one (x := ⟨1, 0, 3⟩) hl⟩
      | 2, hi => simp at hi; subst hi; exact ⟨_, rfl, axns_nil _⟩
      | 3, hi => simp at hi; subst hi; exact ⟨_, rfl, axns_nil _⟩
    · match i, hi with
      | 0, hi => simp at hi; subst hi; exact ⟨_, rfl, arvs_nil _⟩
      | 1, hi => simp at hi; subst hi; exact ⟨_, rfl, arvs_nil _⟩
      | 2, hi => simp at hi; subst hi; exact ⟨_, rfl, arvs_one (x := ⟨3, 1⟩) hn⟩
      | 3, hi => simp at hi; subst hi; exact ⟨_, rfl, arvs_nil _⟩
  · exact block_ext (Ext.alloc (Ext.refl _) _) ((Below.heap_setCell _ _ _ _ (fun e => by
      have h4 := h2.vb
      simp only at e
      rw [← e, hA2] at h4
      simp at h4)).trans hA2)
  clear c2 f2 b2 b3 k6 h2 hA2 hL2 x2
  rintro v3 ⟨hs, hA, hx⟩
  have HS := hid hs
  have HA := hid hA
  have HX := hid hx
  have k0 := blk_cell hA 0
  have k1 := blk_cell hA 1
  have k2 := blk_cell hA 2
  have k3 := blk_cell hA 3
  have k4 := blk_cell hA 4
  have k5 := blk_cell hA 5
  have k6 := blk_cell hA 6
  simp only [List.getElem?_toArray, List.getElem?_cons_zero, List.getElem?_cons_succ] at k0 k1 k2 k3 k4 k5 k6
  clear hs hA hx
  go_upto_region 5 with (go_at_call 11; refine (kBytes HS.out).yields ?_; intro p1)
  refine wp_forget (fun v => SV N1 S1 V1 20 kS v ∧ v.heap[A1]? = some (helpO N1 S1 V1 20) ∧ Ext w v) ⟨HS.out.ext (by repeat (first | exact Ext.refl _ | assumption | refine Ext.more ?_ _ | refine Ext.drew ?_ | refine Ext.drewN ?_ _ | refine Ext.alloc ?_ _ | refine Ext.setCell ?_ (by simp; try omega) _ | refine Ext.trans ?_ (by assumption))), block_ext (by repeat (first | exact Ext.refl _ | assumption | refine Ext.more ?_ _ | refine Ext.drew ?_ | refine Ext.drewN ?_ _ | refine Ext.alloc ?_ _ | refine Ext.setCell ?_ (by simp; try omega) _ | refine Ext.trans ?_ (by assumption))) HA.out, HX.out.trans (by repeat (first | exact Ext.refl _ | assumption | refine Ext.more ?_ _ | refine Ext.drew ?_ | refine Ext.drewN ?_ _ | refine Ext.alloc ?_ _ | refine Ext.setCell ?_ (by simp; try omega) _ | refine Ext.trans ?_ (by assumption)))⟩ ?_
  clear k0 k1 k2 k3 k4 k5 k6 HS HA HX
  clear p1
  rintro v4 ⟨hs, hA, hx⟩
  have HS := hid hs
  have HA := hid hA
  have HX := hid hx
  clear hs hA hx
  go_upto_region 6 with (go_at_call 14; refine (kRead _).mono ?_; rintro e v5 ⟨pp, cp, pd, cd, ps, cs, pa, ca, rfl, ht, hx5⟩; have HT := hid ht; have HX5 := hid hx5; clear ht hx5)
  refine wp_forget (fun v => SV N1 S1 V1 20 kS v ∧ v.heap[A1]? = some (helpO N1 S1 V1 20) ∧ Ext w v ∧ ScrV v kS (.slice pp 2 cp) (.slice pd 4 cd) (.slice ps 4 cs) (.slice pa 4 ca) ∧ v.heap[v5.heap.size]? = some (.cells #[.int .i64 8, .int .i64 2, .slice pp 2 cp, .slice pd 4 cd, .int .i64 20, .slice ps 4 cs, .slice pa 4 ca] 29 (0, 0))) ⟨(HS.out.ext HX5.out).ext (by repeat (first | exact Ext.refl _ | assumption | refine Ext.more ?_ _ | refine Ext.drew ?_ | refine Ext.drewN ?_ _ | refine Ext.alloc ?_ _ | refine Ext.setCell ?_ (by simp; try omega) _ | refine Ext.trans ?_ (by assumption))), block_ext (by repeat (first | exact Ext.refl _ | assumption | refine Ext.more ?_ _ | refine Ext.drew ?_ | refine Ext.drewN ?_ _ | refine Ext.alloc ?_ _ | refine Ext.setCell ?_ (by simp; try omega) _ | refine Ext.trans ?_ (by assumption))) (block_ext HX5.out HA.out), (HX.out.trans HX5.out).trans (by repeat (first | exact Ext.refl _ | assumption | refine Ext.more ?_ _ | refine Ext.drew ?_ | refine Ext.drewN ?_ _ | refine Ext.alloc ?_ _ | refine Ext.setCell ?_ (by simp; try omega) _ | refine Ext.trans ?_ (by assumption))), HT.out.ext (by repeat (first | exact Ext.refl _ | assumption | refine Ext.more ?_ _ | refine Ext.drew ?_ | refine Ext.drewN ?_ _ | refine Ext.alloc ?_ _ | refine Ext.setCell ?_ (by simp; try omega) _ | refine Ext.trans ?_ (by assumption))), heap_alloc_new v5 _⟩ ?_
  clear HS HA HX HT HX5
  generalize v5.heap.size = A3 at *
  rintro v6 ⟨hs, hA, hx, ht, hA3⟩
  have HS := hid hs
  have HA := hid hA
  have HX := hid hx
  have HT := hid ht
  have HA3 := hid hA3
  clear hs hA hx ht hA3
  go_upto_region 7 with (go_at_call 14; refine (kNo _).mono ?_; rintro e v7 ⟨n, hn, rfl, hx7⟩; have HNN := hid hn; have HX7 := hid hx7; clear hn hx7)
  refine wp_forget (fun v => Ext v6 v) (HX7.out.alloc _) ?_
  clear HX7
  rintro v8 hx8
  have HS' := hid (HS.out.ext hx8)
  have HA' := hid (block_ext hx8 HA.out)
  have HX' := hid (HX.out.trans hx8)
  have HT' := hid (HT.out.ext hx8)
  have HA3' := hid (block_ext hx8 HA3.out)
  clear HS HA HX HT HA3 hx8
  go_upto_region 8 with (go_at_call 13; refine (help_any _ 20).mono ?_; rintro e v9 ⟨N2, S2, V2, rfl, h9, x9⟩; have H9 := hid h9; have X9 := hid x9; clear h9 x9)
  refine wp_forget (fun v => HelpS v8.heap.size N2 S2 V2 baseRO nil4 nil4 v ∧ v.heap[v9.heap.size]? = some (helpO N2 S2 V2 20) ∧ Ext v8 v) ⟨H9.out.ext (by repeat (first | exact Ext.refl _ | assumption | refine Ext.more ?_ _ | refine Ext.drew ?_ | refine Ext.drewN ?_ _ | refine Ext.alloc ?_ _ | refine Ext.setCell ?_ (by simp; try omega) _ | refine Ext.trans ?_ (by assumption))), heap_alloc_new v9 _, X9.out.trans (by repeat (first | exact Ext.refl _ | assumption | refine Ext.more ?_ _ | refine Ext.drew ?_ | refine Ext.drewN ?_ _ | refine Ext.alloc ?_ _ | refine Ext.setCell ?_ (by simp; try omega) _ | refine Ext.trans ?_ (by assumption)))⟩ ?_
  clear H9 X9
  generalize v9.heap.size = A7 at *
  rintro va ⟨h2, hA7, x2⟩
  have c2 := blk_cell h2.vb 0
  have f2 := blk_free h2.vb 0
  have b2 := lt_of_block h2.vb
  have b3 := lt_of_block hA7
  have k6 := blk_cell hA7 6
  simp only [nil4, List.getElem?_toArray, List.getElem?_cons_zero, List.getElem?_cons_succ] at c2 k6
  have H2 := hid h2
  have HA7 := hid hA7
  have X2 := hid x2
  clear h2 hA7 x2
  go_upto_region 9 with fail
  refine wp_forget (fun v => SV N2 S2 V2 20 kU v ∧ v.heap[A7]? = some (helpO N2 S2 V2 20) ∧ Ext v8 v) ⟨?_, ?_, Ext.alloc (Ext.setCell X2.out H2.out.hV _) _⟩ ?_
  · have h3 := (H2.out.putV 0 (.slice (some ⟨va.heap.size, 0, none⟩) 2 2)).ext (Ext.alloc (Ext.refl _) (.cells #[.int .i64 3, .int .i64 0, .int .i64 2, .int .i64 0] 44 (0, 0)))
    have hn := heap_new1' va ⟨V2, 0, none⟩ (.slice (some ⟨va.heap.size, 0, none⟩) 2 2) (.cells #[.int .i64 3, .int .i64 0, .int .i64 2, .int .i64 0] 44 (0, 0))
    refine h3.script baseC_of rfl rfl (fun i l hi => ?_) (fun i l hi => ?_)
    · match i, hi with
      | 0, hi => simp at hi; subst hi; exact ⟨_, rfl, axns_nil _⟩
      | 1, hi => simp at hi; subst hi; exact ⟨_, rfl, axns_nil _⟩
      | 2, hi => simp at hi; subst hi; exact ⟨_, rfl, axns_nil _⟩
      | 3, hi => simp at hi; subst hi; exact ⟨_, rfl, axns_nil _⟩
    · match i, hi with
      | 0, hi => simp at hi; subst hi; exact ⟨_, rfl, arvs_two (x := ⟨3, 0⟩) (y := ⟨2, 0⟩) hn⟩
      | 1, hi => simp at hi; subst hi; exact ⟨_, rfl, arvs_nil _⟩
      | 2, hi => simp at hi; subst hi; exact ⟨_, rfl, arvs_nil _⟩
      | 3, hi => simp at hi; subst hi; exact ⟨_, rfl, arvs_nil _⟩
  · exact block_ext (Ext.alloc (Ext.refl _) _) ((Below.heap_setCell _ _ _ _ (fun e => by
      have h4 := H2.out.vb
      simp only at e
      rw [← e, HA7.out] at h4
      simp at h4)).trans HA7.out)
  clear c2 f2 b2 b3 k6 H2 HA7 X2
  rintro vb ⟨hu, hA7, hxb⟩
  have HU := hid hu
  have HA7 := hid hA7
  have HXB := hid hxb
  clear hu hA7 hxb
  go_upto_region 10 with (go_at_call 13; refine (help_any _ (-1)).mono ?_; rintro e vc ⟨N3, S3, V3, rfl, h9, x9⟩; have H9 := hid h9; have X9 := hid x9; clear h9 x9)
  refine wp_forget (fun v => HelpS vb.heap.size N3 S3 V3 baseRO nil4 nil4 v ∧ v.heap[vc.heap.size]? = some (helpO N3 S3 V3 (-1)) ∧ Ext vb v) ⟨H9.out.ext (by repeat (first | exact Ext.refl _ | assumption | refine Ext.more ?_ _ | refine Ext.drew ?_ | refine Ext.drewN ?_ _ | refine Ext.alloc ?_ _ | refine Ext.setCell ?_ (by simp; try omega) _ | refine Ext.trans ?_ (by assumption))), heap_alloc_new vc _, X9.out.trans (by repeat (first | exact Ext.refl _ | assumption | refine Ext.more ?_ _ | refine Ext.drew ?_ | refine Ext.drewN ?_ _ | refine Ext.alloc ?_ _ | refine Ext.setCell ?_ (by simp; try omega) _ | refine Ext.trans ?_ (by assumption)))⟩ ?_
  clear H9 X9
  generalize vc.heap.size = A8 at *
  rintro W ⟨h3, hA8, x3⟩
  have hV : SV N3 S3 V3 (-1) kV W := h3.script baseC_of rfl rfl (fun i l hi => by
      match i, hi with
      | 0, hi => simp at hi; subst hi; exact ⟨_, rfl, axns_nil _⟩
      | 1, hi => simp at hi; subst hi; exact ⟨_, rfl, axns_nil _⟩
      | 2, hi => simp at hi; subst hi; exact ⟨_, rfl, axns_nil _⟩
      | 3, hi => simp at hi; subst hi; exact ⟨_, rfl, axns_nil _⟩) (fun i l hi => by
      match i, hi with
      | 0, hi => simp at hi; subst hi; exact ⟨_, rfl, arvs_nil _⟩
      | 1, hi => simp at hi; subst hi; exact ⟨_, rfl, arvs_nil _⟩
      | 2, hi => simp at hi; subst hi; exact ⟨_, rfl, arvs_nil _⟩
      | 3, hi => simp at hi; subst hi; exact ⟨_, rfl, arvs_nil _⟩)
  have xb : Ext v8 W := HXB.out.trans x3
  have QS := hid (HS'.out.ext xb)
  have QT := hid (HT'.out.ext xb)
  have QU := hid (HU.out.ext x3)
  have QV := hid hV
  have QX := hid (HX'.out.trans xb)
  have hA := block_ext xb HA'.out
  have hA3 := block_ext xb HA3'.out
  have hA7 := block_ext x3 HA7.out
  have a0 := blk_cell hA 0
  have a1 := blk_cell hA 1
  have a2 := blk_cell hA 2
  have a3 := blk_cell hA 3
  have a4 := blk_cell hA 4
  have a5 := blk_cell hA 5
  have a6 := blk_cell hA 6
  have b0 := blk_cell hA3 0
  have b1 := blk_cell hA3 1
  have b2 := blk_cell hA3 2
  have b3 := blk_cell hA3 3
  have b4 := blk_cell hA3 4
  have b5 := blk_cell hA3 5
  have b6 := blk_cell hA3 6
  have c0 := blk_cell hA7 0
  have c1 := blk_cell hA7 1
  have c2 := blk_cell hA7 2
  have c3 := blk_cell hA7 3
  have c4 := blk_cell hA7 4
  have c5 := blk_cell hA7 5
  have c6 := blk_cell hA7 6
  have d0 := blk_cell hA8 0
  have d1 := blk_cell hA8 1
  have d2 := blk_cell hA8 2
  have d3 := blk_cell hA8 3
  have d4 := blk_cell hA8 4
  have d5 := blk_cell hA8 5
  have d6 := blk_cell hA8 6
  simp only [List.getElem?_toArray, List.getElem?_cons_zero, List.getElem?_cons_succ] at a0 a1 a2 a3 a4 a5 a6 b0 b1 b2 b3 b4 b5 b6 c0 c1 c2 c3 c4 c5 c6 d0 d1 d2 d3 d4 d5 d6
  have l1 := lt_of_block hA
  have l2 := lt_of_block hA3
  have l3 := lt_of_block hA7
  have l4 := lt_of_block hA8
  obtain ⟨tb, tof, hts, tv, t0, tn⟩ := QT.out.streams.at 1 (show 1 < kS.streams.length by decide)
  obtain ⟨tp, tc, rfl, -, -⟩ := tn.shape
  have hts' := hts
  subst hts'
  have t0' : W.cell? ⟨tb, tof + 1, none⟩ = some (.slice tp 1 tc) := t0
  have l5 := World.block_lt_of_cell? _ _ t0'
  have hl60 : (60 : Int) < ((allBytes kS).length : Int) := by have := kS_long; omega
  have hne := fun v w => run_neq_iface_nil (P := Tryz.prog) w 49 v Tryz.underlying34
  have hnn := fun w => run_neq_nil_nil' (P := Tryz.prog) w Tryz.underlying34
  have hee := fun v w => run_eql_iface_nil (P := Tryz.prog) w 49 v Tryz.underlying34
  have hen := fun w => run_eql_nil_nil' (P := Tryz.prog) w Tryz.underlying34
  clear hts t0 tn hA hA3 hA7 hA8 h3 x3 xb hV HS' HA' HT' HX' HA3' HU HA7 HXB
  go_wp2_with (first
    | (go_at_call 7; (with_reducible refine (kIs0 (QS.out.ext (by repeat (first | exact Ext.refl _ | assumption | refine Ext.more ?_ _ | refine Ext.drew ?_ | refine Ext.drewN ?_ _ | refine Ext.alloc ?_ _ | refine Ext.setCell ?_ (by simp; try omega) _ | refine Ext.trans ?_ (by assumption))))).yields ?_); intro p1)
    | (go_at_call 7; (with_reducible refine (kIsU (QU.out.ext (by repeat (first | exact Ext.refl _ | assumption | refine Ext.more ?_ _ | refine Ext.drew ?_ | refine Ext.drewN ?_ _ | refine Ext.alloc ?_ _ | refine Ext.setCell ?_ (by simp; try omega) _ | refine Ext.trans ?_ (by assumption))))).yields ?_); intro p2)
    | (go_at_call 7; (with_reducible refine (kIsV (QV.out.ext (by repeat (first | exact Ext.refl _ | assumption | refine Ext.more ?_ _ | refine Ext.drew ?_ | refine Ext.drewN ?_ _ | refine Ext.alloc ?_ _ | refine Ext.setCell ?_ (by simp; try omega) _ | refine Ext.trans ?_ (by assumption))))).yields ?_); intro p3)
    | (go_at_call 15; (with_reducible refine (is_errno_to' (r := true) rfl _).yields ?_); intro p4)
    | (go_at_call 9; (with_reducible refine (kSameT (QS.out.ext (by repeat (first | exact Ext.refl _ | assumption | refine Ext.more ?_ _ | refine Ext.drew ?_ | refine Ext.drewN ?_ _ | refine Ext.alloc ?_ _ | refine Ext.setCell ?_ (by simp; try omega) _ | refine Ext.trans ?_ (by assumption)))) (QT.out.ext (by repeat (first | exact Ext.refl _ | assumption | refine Ext.more ?_ _ | refine Ext.drew ?_ | refine Ext.drewN ?_ _ | refine Ext.alloc ?_ _ | refine Ext.setCell ?_ (by simp; try omega) _ | refine Ext.trans ?_ (by assumption))))).yields ?_); intro p5)
    | (go_at_call 11; (with_reducible refine (kBytesV (QV.out.ext (by repeat (first | exact Ext.refl _ | assumption | refine Ext.more ?_ _ | refine Ext.drew ?_ | refine Ext.drewN ?_ _ | refine Ext.alloc ?_ _ | refine Ext.setCell ?_ (by simp; try omega) _ | refine Ext.trans ?_ (by assumption))))).yields ?_); intro p6)
    | (go_at_call 9; (with_reducible refine (kSameV (QS.out.ext (by repeat (first | exact Ext.refl _ | assumption | refine Ext.more ?_ _ | refine Ext.drew ?_ | refine Ext.drewN ?_ _ | refine Ext.alloc ?_ _ | refine Ext.setCell ?_ (by simp; try omega) _ | refine Ext.trans ?_ (by assumption)))) (QV.out.ext (by repeat (first | exact Ext.refl _ | assumption | refine Ext.more ?_ _ | refine Ext.drew ?_ | refine Ext.drewN ?_ _ | refine Ext.alloc ?_ _ | refine Ext.setCell ?_ (by simp; try omega) _ | refine Ext.trans ?_ (by assumption))))).yields ?_); intro p7))
  go_returns
  exact ⟨rfl, QX.out.trans (by repeat (first | exact Ext.refl _ | assumption | refine Ext.more ?_ _ | refine Ext.drew ?_ | refine Ext.drewN ?_ _ | refine Ext.alloc ?_ _ | refine Ext.setCell ?_ (by simp; try omega) _ | refine Ext.trans ?_ (by assumption)))⟩
end Go.Proofs.YtbllibgddiiboaaGreatDoor

namespace Go.Proofs.YtbllibgddiiboaaGreatDoor
open Go.RowKit

theorem arrB_drop {l : List Arv} {k : Nat} (t : Int) (h : k < l.length) : arrB t (l.drop k) = (withB l[k].tick 0 2000 && withB l[k].obj 0 3 && decide (t ≤ l[k].tick) && arrB l[k].tick (l.drop (k + 1))) := by
  rw [List.drop_eq_getElem_cons h]; rfl
theorem isScr_conf {s : Scr} {n : Nat} (h : isConf s.conf = n + 1) : isScr s = n + 1 := by rw [isScr, if_pos (by omega), h]
theorem isScr_large {s : Scr} (h : isConf s.conf = 0) (h2 : largeB s = false) : isScr s = 12 := by rw [isScr, if_neg (by omega), if_pos h2]
theorem isScr_form {s : Scr} (h : isConf s.conf = 0) (h2 : largeB s = true) (h3 : s.arrivals.all (arrB 0) = false) : isScr s = 10 := by rw [isScr, if_neg (by omega), if_neg (by simp [h2]), if_pos h3]
theorem isScr_good {s : Scr} (h : isConf s.conf = 0) (h2 : largeB s = true) (h3 : s.arrivals.all (arrB 0) = true) : isScr s = 0 := by rw [isScr, if_neg (by omega), if_neg (by simp [h2]), if_neg (by simp [h3])]

set_option maxRecDepth 100000 in
set_option maxHeartbeats 3000000 in
theorem rIsScr_any (w : World) (s : Scr) (pv dv sv av : Value) (hc : ScrV w s pv dv sv av) (hr : ∀ d ∈ s.conf.doms, ∀ r ∈ d.routes, r.length ≤ 300) :
    Calls Tryz.prog 8 #[scrV s pv dv sv av] w (Yields w (.int .i64 (isScr s))) := by
  obtain ⟨pp, cp, rfl, hp1, hp2⟩ := hc.conf.plans.shape
  obtain ⟨pd, cd, rfl, hd1, hd2⟩ := hc.conf.doms.shape
  obtain ⟨ps, cs, rfl, hs1, hs2⟩ := hc.streams.shape
  obtain ⟨pa, ca, rfl, ha1, ha2⟩ := hc.arrivals.shape
  unfold maxLen at hp2 hd2 hs2 ha2
  have HC := hid hc
  have HR := hid hr
  clear hc hr
  cases hn : isConf s.conf with
  | succ m =>
    have HN := hid hn
    have HI := hid (isScr_conf hn)
    clear hn
    have hm : (((m + 1 : Nat) : Int) == 0) = false := by simp; omega
    have hm' : (((m + 1 : Nat) : Int) != 0) = true := by simp; omega
    go_enter Tryz.func8, Tryz.ntmps8
    go_wp2_with (go_at_call 22; (with_reducible refine (isConf_to HN.out _ _ _ (HC.out.conf.ext (by repeat (first | exact Ext.refl _ | assumption | refine Ext.more ?_ _ | refine Ext.drew ?_ | refine Ext.drewN ?_ _ | refine Ext.alloc ?_ _ | refine Ext.setCell ?_ (by simp; try omega) _ | refine Ext.trans ?_ (by assumption)))) HR.out).yields ?_); intro p0)
    go_returns
    exact ⟨by rw [HI.out]; simp, (by repeat (first | exact Ext.refl _ | assumption | refine Ext.more ?_ _ | refine Ext.drew ?_ | refine Ext.drewN ?_ _ | refine Ext.alloc ?_ _ | refine Ext.setCell ?_ (by simp; try omega) _ | refine Ext.trans ?_ (by assumption)))⟩
  | zero =>
  have HN := hid hn
  clear hn
  have hm : (((0 : Nat) : Int) == 0) = true := by simp
  have hm' : (((0 : Nat) : Int) != 0) = false := by simp
  cases h0 : withB s.horizon 0 2000
  · have H0 := hid h0
    have HI := hid (isScr_large HN.out (by simp [largeB, h0]))
    clear h0
    go_enter Tryz.func8, Tryz.ntmps8
    go_wp2_with (first | (go_at_call 22; (with_reducible refine (isConf_to HN.out _ _ _ (HC.out.conf.ext (by repeat (first | exact Ext.refl _ | assumption | refine Ext.more ?_ _ | refine Ext.drew ?_ | refine Ext.drewN ?_ _ | refine Ext.alloc ?_ _ | refine Ext.setCell ?_ (by simp; try omega) _ | refine Ext.trans ?_ (by assumption)))) HR.out).yields ?_); intro p0) | (go_at_call 23; (with_reducible refine (within_to H0.out _).yields ?_); intro p1))
    go_returns
    exact ⟨by rw [HI.out]; rfl, (by repeat (first | exact Ext.refl _ | assumption | refine Ext.more ?_ _ | refine Ext.drew ?_ | refine Ext.drewN ?_ _ | refine Ext.alloc ?_ _ | refine Ext.setCell ?_ (by simp; try omega) _ | refine Ext.trans ?_ (by assumption)))⟩
  have H0 := hid h0
  by_cases hl1 : s.streams.length = s.conf.doms.length
  case neg =>
    have l1 : ((s.streams.length : Int) == (s.conf.doms.length : Int)) = false := by simp; omega
    have l2 : ((s.streams.length : Int) != (s.conf.doms.length : Int)) = true := by simp; omega
    have HI := hid (isScr_large HN.out (by simp [largeB, hl1]))
    clear h0 hl1
    go_enter Tryz.func8, Tryz.ntmps8
    go_wp2_with (first | (go_at_call 22; (with_reducible refine (isConf_to HN.out _ _ _ (HC.out.conf.ext (by repeat (first | exact Ext.refl _ | assumption | refine Ext.more ?_ _ | refine Ext.drew ?_ | refine Ext.drewN ?_ _ | refine Ext.alloc ?_ _ | refine Ext.setCell ?_ (by simp; try omega) _ | refine Ext.trans ?_ (by assumption)))) HR.out).yields ?_); intro p0) | (go_at_call 23; (with_reducible refine (within_to H0.out _).yields ?_); intro p1))
    go_returns
    exact ⟨by rw [HI.out]; rfl, (by repeat (first | exact Ext.refl _ | assumption | refine Ext.more ?_ _ | refine Ext.drew ?_ | refine Ext.drewN ?_ _ | refine Ext.alloc ?_ _ | refine Ext.setCell ?_ (by simp; try omega) _ | refine Ext.trans ?_ (by assumption)))⟩
  have l1 : ((s.streams.length : Int) == (s.conf.doms.length : Int)) = true := by simp; omega
  have l2 : ((s.streams.length : Int) != (s.conf.doms.length : Int)) = false := by simp; omega
  by_cases hl2 : s.arrivals.length = s.conf.doms.length
  case neg =>
    have l3 : ((s.arrivals.length : Int) == (s.conf.doms.length : Int)) = false := by simp; omega
    have l4 : ((s.arrivals.length : Int) != (s.conf.doms.length : Int)) = true := by simp; omega
    have HI := hid (isScr_large HN.out (by simp [largeB, hl2]))
    clear h0 hl1 hl2
    go_enter Tryz.func8, Tryz.ntmps8
    go_wp2_with (first | (go_at_call 22; (with_reducible refine (isConf_to HN.out _ _ _ (HC.out.conf.ext (by repeat (first | exact Ext.refl _ | assumption | refine Ext.more ?_ _ | refine Ext.drew ?_ | refine Ext.drewN ?_ _ | refine Ext.alloc ?_ _ | refine Ext.setCell ?_ (by simp; try omega) _ | refine Ext.trans ?_ (by assumption)))) HR.out).yields ?_); intro p0) | (go_at_call 23; (with_reducible refine (within_to H0.out _).yields ?_); intro p1))
    go_returns
    exact ⟨by rw [HI.out]; rfl, (by repeat (first | exact Ext.refl _ | assumption | refine Ext.more ?_ _ | refine Ext.drew ?_ | refine Ext.drewN ?_ _ | refine Ext.alloc ?_ _ | refine Ext.setCell ?_ (by simp; try omega) _ | refine Ext.trans ?_ (by assumption)))⟩
  have l3 : ((s.arrivals.length : Int) == (s.conf.doms.length : Int)) = true := by simp; omega
  have l4 : ((s.arrivals.length : Int) != (s.conf.doms.length : Int)) = false := by simp; omega
  have HL := hid hl1
  have HM := hid hl2
  have HBIG := hid (show s.streams.all streamB = true → s.arrivals.all (fun l => decide (l.length ≤ 100)) = true → largeB s = true from fun a b => by simp only [largeB, h0, a, b, hl1, hl2, Bool.and_true, beq_self_eq_true])
  have HSM1 := hid (show s.streams.all streamB = false → isScr s = 12 from fun a => isScr_large HN.out (by simp only [largeB, a, Bool.and_false, Bool.false_and]))
  have HSM2 := hid (show s.arrivals.all (fun l => decide (l.length ≤ 100)) = false → isScr s = 12 from fun a => isScr_large HN.out (by simp only [largeB, a, Bool.and_false]))
  clear h0 hl1 hl2
  go_enter Tryz.func8, Tryz.ntmps8
  go_wp2_with (first | (go_at_call 22; (with_reducible refine (isConf_to HN.out _ _ _ (HC.out.conf.ext (by repeat (first | exact Ext.refl _ | assumption | refine Ext.more ?_ _ | refine Ext.drew ?_ | refine Ext.drewN ?_ _ | refine Ext.alloc ?_ _ | refine Ext.setCell ?_ (by simp; try omega) _ | refine Ext.trans ?_ (by assumption)))) HR.out).yields ?_); intro p0) | (go_at_call 23; (with_reducible refine (within_to H0.out _).yields ?_); intro p1))
  have hbx : ∀ w' : World, Ext (w.alloc (.cells #[.int .i64 s.conf.frame, .int .i64 s.conf.epoch, .slice pp s.conf.plans.length cp, .slice pd s.conf.doms.length cd, .int .i64 s.horizon, .slice ps s.streams.length cs, .slice pa s.arrivals.length ca] 29 (0, 0))) w' → _ := fun w' h => And.intro (box_cells h 5 (by simp)) (box_cells h 6 (by simp))
  have hx0 : Ext w (w.alloc (.cells #[.int .i64 s.conf.frame, .int .i64 s.conf.epoch, .slice pp s.conf.plans.length cp, .slice pd s.conf.doms.length cd, .int .i64 s.horizon, .slice ps s.streams.length cs, .slice pa s.arrivals.length ca] 29 (0, 0))) := Ext.alloc (Ext.refl _) _
  generalize w.alloc (.cells #[.int .i64 s.conf.frame, .int .i64 s.conf.epoch, .slice pp s.conf.plans.length cp, .slice pd s.conf.doms.length cd, .int .i64 s.horizon, .slice ps s.streams.length cs, .slice pa s.arrivals.length ca] 29 (0, 0)) = W1 at *
  simp only [List.getElem?_toArray, List.getElem?_cons_succ, List.getElem?_cons_zero] at hbx
  have HBX := hid hbx
  clear hbx
  go_loopw [5] (fun v wr => Ext W1 wr ∧ ∃ k : Nat, v = .int .i64 k ∧ k ≤ s.conf.doms.length ∧ Hid ((s.streams.take k).all streamB = true) ∧ Hid ((s.arrivals.take k).all (fun l => decide (l.length ≤ 100)) = true)) (fun v _ => (s.conf.doms.length - intOf v).toNat)
  case atStart => exact ⟨(by repeat (first | exact Ext.refl _ | refine Ext.more ?_ _)), 0, rfl, by omega, rfl, rfl⟩
  case round =>
    obtain ⟨hx, k, rfl, hk, ht1, ht2⟩ := hrel
    obtain ⟨b5, b6⟩ := HBX.out _ hx
    have hw := hx0.trans hx
    have hbs : w.heap.size < wr.heap.size := World.block_lt_of_cell? _ _ b5
    by_cases hlt : k < s.conf.doms.length
    · have hlt1 : k < s.streams.length := by have := HL.out; omega
      have hlt2 : k < s.arrivals.length := by have := HM.out; omega
      obtain ⟨sb, so, rfl, rv, r0, rn⟩ := HC.out.streams.at k hlt1
      obtain ⟨ab, ao, rfl, qv, q0, qn⟩ := HC.out.arrivals.at k hlt2
      obtain ⟨qp, qc, rfl, -, hq2⟩ := qn.shape
      unfold maxLen at hq2
      simp only [Nat.mul_one] at r0 q0
      have e0 := hw.cell r0
      have e1 := hw.cell q0
      have hsb : sb < wr.heap.size := World.block_lt_of_cell? _ _ e0
      have hab : ab < wr.heap.size := World.block_lt_of_cell? _ _ e1
      have RN := hid (rn.ext hw)
      have hA1 := hid (all_take s.streams streamB k hlt1 ht1.out)
      have hB1 := hid (all_bad s.streams streamB k hlt1)
      have hA2 := hid (all_take s.arrivals (fun l => decide (l.length ≤ 100)) k hlt2 ht2.out)
      have hB2 := hid (all_bad s.arrivals (fun l => decide (l.length ≤ 100)) k hlt2)
      clear r0 q0 rn qn
      generalize s.streams[k] = x at *
      generalize s.arrivals[k] = y at *
      have i0 : (k : Int) < s.conf.doms.length := by omega
      have i1 : (k : Int) < s.streams.length := by omega
      have i2 : (k : Int) < s.arrivals.length := by omega
      cases hst : streamB x
      · have HST := hid hst
        clear hst
        go_wp2_with (first | (go_at_call 24; (with_reducible refine (rstream_to HST.out _ _ (RN.out.ext (by repeat (first | exact Ext.refl _ | assumption | refine Ext.more ?_ _ | refine Ext.drew ?_ | refine Ext.drewN ?_ _ | refine Ext.alloc ?_ _ | refine Ext.setCell ?_ (by simp; try omega) _ | refine Ext.trans ?_ (by assumption))))).yields ?_); intro p2))
        go_returns
        have h1 := HSM1.out (hB1.out HST.out)
        exact ⟨by rw [h1]; rfl, (by repeat (first | exact Ext.refl _ | assumption | refine Ext.more ?_ _ | refine Ext.drew ?_ | refine Ext.drewN ?_ _ | refine Ext.alloc ?_ _ | refine Ext.setCell ?_ (by simp; try omega) _ | refine Ext.trans ?_ (by assumption)))⟩
      have HST := hid hst
      clear hst
      by_cases h100 : y.length ≤ 100
      · have h100' : (y.length : Int) ≤ 100 := by omega
        have h100b : decide ((100 : Int) < (y.length : Int)) = false := by simpa using h100'
        go_wp2_with (first | (go_at_call 24; (with_reducible refine (rstream_to HST.out _ _ (RN.out.ext (by repeat (first | exact Ext.refl _ | assumption | refine Ext.more ?_ _ | refine Ext.drew ?_ | refine Ext.drewN ?_ _ | refine Ext.alloc ?_ _ | refine Ext.setCell ?_ (by simp; try omega) _ | refine Ext.trans ?_ (by assumption))))).yields ?_); intro p2))
        go_roundw
        case rel => exact ⟨(by repeat (first | exact Ext.refl _ | assumption | refine Ext.more ?_ _ | refine Ext.drew ?_ | refine Ext.drewN ?_ _ | refine Ext.alloc ?_ _ | refine Ext.setCell ?_ (by simp; try omega) _ | refine Ext.trans ?_ (by assumption))), k + 1, by go_num, by omega, by unfold Hid; rw [hA1.out]; exact HST.out, by unfold Hid; rw [hA2.out]; simpa using h100⟩
        case measure => simp [intOf]; omega
      · have h100' : (100 : Int) < (y.length : Int) := by omega
        go_wp2_with (first | (go_at_call 24; (with_reducible refine (rstream_to HST.out _ _ (RN.out.ext (by repeat (first | exact Ext.refl _ | assumption | refine Ext.more ?_ _ | refine Ext.drew ?_ | refine Ext.drewN ?_ _ | refine Ext.alloc ?_ _ | refine Ext.setCell ?_ (by simp; try omega) _ | refine Ext.trans ?_ (by assumption))))).yields ?_); intro p2))
        go_returns
        have h1 := HSM2.out (hB2.out (by simpa using h100))
        exact ⟨by rw [h1]; rfl, (by repeat (first | exact Ext.refl _ | assumption | refine Ext.more ?_ _ | refine Ext.drew ?_ | refine Ext.drewN ?_ _ | refine Ext.alloc ?_ _ | refine Ext.setCell ?_ (by simp; try omega) _ | refine Ext.trans ?_ (by assumption)))⟩
    · obtain rfl : k = s.conf.doms.length := by omega
      have e1 := ht1.out
      have e2 := ht2.out
      rw [← HL.out, List.take_length] at e1
      rw [← HM.out, List.take_length] at e2
      have HBIG2 := hid (HBIG.out e1 e2)
      clear e1 e2 ht1 ht2 HBIG HSM1 HSM2 b5 b6
      have HF := hid (isScr_form HN.out HBIG2.out)
      have HG := hid (isScr_good HN.out HBIG2.out)
      go_wp2_with fail
      go_loopw [6] (fun v wr => Ext W1 wr ∧ ∃ k : Nat, v = .int .i64 k ∧ k ≤ s.conf.doms.length ∧ Hid ((s.arrivals.take k).all (arrB 0) = true)) (fun v _ => (s.conf.doms.length - intOf v).toNat)
      case atStart => exact ⟨hx, 0, rfl, by omega, rfl⟩
      case round =>
        clear hw hx hbs
        obtain ⟨hx, k, rfl, hk, ht1⟩ := hrel
        obtain ⟨b5, b6⟩ := HBX.out _ hx
        have hw := hx0.trans hx
        have hbs : w.heap.size < wr.heap.size := World.block_lt_of_cell? _ _ b5
        by_cases hlt : k < s.conf.doms.length
        · have hlt2 : k < s.arrivals.length := by have := HM.out; omega
          obtain ⟨ab, ao, rfl, qv, q0, qn⟩ := HC.out.arrivals.at k hlt2
          obtain ⟨qp, qc, rfl, hq1, hq2⟩ := qn.shape
          unfold maxLen at hq2
          simp only [Nat.mul_one] at q0
          have e1 := hw.cell q0
          have hab : ab < wr.heap.size := World.block_lt_of_cell? _ _ e1
          have QN := hid qn
          have hA2 := hid (all_take s.arrivals (arrB 0) k hlt2 ht1.out)
          have hB2 := hid (all_bad s.arrivals (arrB 0) k hlt2)
          clear q0 qn ht1
          generalize s.arrivals[k] = y at *
          have i0 : (k : Int) < s.conf.doms.length := by omega
          have i2 : (k : Int) < s.arrivals.length := by omega
          go_wp2_with fail
          go_loopw [8] (fun v wr => Ext W1 wr ∧ ∃ i t : Int, v = .int .i64 i ∧ i ≤ y.length ∧ ((i = 0 ∧ Hid (arrB 0 y = arrB t (y.drop 0)) ∧ t = 0) ∨ ∃ j : Nat, ∃ hj : j < y.length, i = (j : Int) + 1 ∧ Hid (arrB 0 y = arrB t (y.drop (j + 1))) ∧ t = y[j].tick)) (fun v _ => (y.length - intOf v).toNat)
          case atStart => exact ⟨hx, 0, 0, rfl, by omega, Or.inl ⟨rfl, rfl, rfl⟩⟩
          case round =>
            clear hx hw hbs b5 b6 e1 hab
            obtain ⟨hx, i, t, rfl, hi, hcase⟩ := hrel
            have hw := hx0.trans hx
            rcases hcase with ⟨rfl, hd, rfl⟩ | ⟨j, hj, rfl, hd, rfl⟩
            · by_cases hy : 0 < y.length
              · obtain ⟨yb, yo, rfl, y0, y1⟩ := QN.out.at 0 hy
                have m0 := more_cell (hw.cell y0)
                have m1 := more_cell (hw.cell y1)
                simp only [Nat.zero_mul, Nat.add_zero] at m0 m1
                have hdr := hid (hd.out.trans (arrB_drop 0 hy))
                have hnx := hid (show (y[0]'hy) = (y[0]'hy) from rfl)
                clear y0 y1 hd
                have hgo := hid (fun (h1 : withB (y[0]'hy).tick 0 2000 = true) (h2 : withB (y[0]'hy).obj 0 3 = true) => hdr.out.trans (show _ = arrB (y[0]'hy).tick (y.drop (0 + 1)) by
                  rw [h1, h2, decide_eq_true ((withB_iff.mp h1).1)]; rfl))
                have hy' : (0 : Int) < y.length := by omega
                have hkeep : Hid (∃ hj : 0 < y.length, (y[0]'hy).tick = (y[0]'hj).tick) := ⟨hy, rfl⟩
                generalize (y[0]'hy) = x at *
                cases h1 : withB x.tick 0 2000
                · have H1 := hid h1
                  clear h1
                  have hf := hid (HF.out (hB2.out (by rw [hdr.out, H1.out]; rfl)))
                  go_wp2_with fail
                  ((first | refine wp_region_more (by kernel_rfl) (by kernel_rfl) ?_ | refine wp_region_ext (by kernel_rfl) (by kernel_rfl) ?_); (try dsimp only [append_cons', append_nil']); (repeat (go_big_quiet_step ((go_at_call 23; with_reducible refine Calls.more_of (within_to H1.out _))))); refine wpQuiet_nil ?_; rintro _ ⟨pq, rfl⟩)
                  go_wp2
                  go_returns
                  exact ⟨by rw [hf.out]; rfl, hw.trans (ext_more _ _)⟩
                have H1 := hid h1
                clear h1
                cases h2 : withB x.obj 0 3
                · have H2 := hid h2
                  clear h2
                  have hf := hid (HF.out (hB2.out (by rw [hdr.out, H2.out, Bool.and_false]; rfl)))
                  go_wp2_with fail
                  ((first | refine wp_region_more (by kernel_rfl) (by kernel_rfl) ?_ | refine wp_region_ext (by kernel_rfl) (by kernel_rfl) ?_); (try dsimp only [append_cons', append_nil']); (repeat (go_big_quiet_step ((first | (go_at_call 23; with_reducible refine Calls.more_of (within_to H1.out _)) | (go_at_call 23; with_reducible refine Calls.more_of (within_to H2.out _)))))); refine wpQuiet_nil ?_; rintro _ ⟨pq, rfl⟩)
                  go_wp2
                  go_returns
                  exact ⟨by rw [hf.out]; rfl, hw.trans (ext_more _ _)⟩
                have H2 := hid h2
                clear h2
                go_wp2_with fail
                ((first | refine wp_region_more (by kernel_rfl) (by kernel_rfl) ?_ | refine wp_region_ext (by kernel_rfl) (by kernel_rfl) ?_); (try dsimp only [append_cons', append_nil']); (repeat (go_big_quiet_step ((first | (go_at_call 23; with_reducible refine Calls.more_of (within_to H1.out _)) | (go_at_call 23; with_reducible refine Calls.more_of (within_to H2.out _)))))); refine wpQuiet_nil ?_; rintro _ ⟨pq, rfl⟩)
                go_wp2
                go_roundw
                case rel => exact ⟨hx.trans (ext_more _ _), 1, x.tick, rfl, by omega, Or.inr ⟨0, hkeep.out.1, rfl, hid (hgo.out H1.out H2.out), hkeep.out.2⟩⟩
                case measure => simp [intOf]; omega
              · have hall : arrB 0 y = true := by
                  have : y = [] := List.eq_nil_of_length_eq_zero (by omega)
                  rw [this]; rfl
                have hgd := hid (hA2.out.trans hall)
                go_wp2
                go_roundw
                case rel => exact ⟨hx, k + 1, by go_num, by omega, hgd⟩
                case measure => simp [intOf]; omega
            · by_cases hy : j + 1 < y.length
              · obtain ⟨yb, yo, rfl, y0, -⟩ := QN.out.at j hj
                obtain ⟨_, _, hpp, z0, z1⟩ := QN.out.at (j + 1) hy
                cases hpp
                have m0 := more_cell (hw.cell y0)
                have m1 := more_cell (hw.cell z0)
                have m2 := more_cell (hw.cell z1)
                have hdr := hid (hd.out.trans (arrB_drop _ hy))
                clear y0 z0 z1 hd
                have hgo := hid (fun (h1 : withB (y[j + 1]'hy).tick 0 2000 = true) (h2 : withB (y[j + 1]'hy).obj 0 3 = true) (h3 : (y[j]'hj).tick ≤ (y[j + 1]'hy).tick) => hdr.out.trans (show _ = arrB (y[j + 1]'hy).tick (y.drop (j + 1 + 1)) by
                  rw [h1, h2, decide_eq_true h3]; rfl))
                have hkeep : Hid (∃ hj : j + 1 < y.length, (y[j + 1]'hy).tick = (y[j + 1]'hj).tick) := ⟨hy, rfl⟩
                have i3 : (0 : Int) ≤ (j : Int) := by omega
                have i4 : (j : Int) < y.length := by omega
                have i5 : (j : Int) + 1 < y.length := by omega
                have i6 : (0 : Int) ≤ (j : Int) + 1 := by omega
                have i7 : ((j : Int) + 1).toNat = j + 1 := by omega
                have i8 : (0 : Int) < (j : Int) + 1 := by omega
                generalize (y[j + 1]'hy) = x at *
                generalize (y[j]'hj) = p at *
                cases h1 : withB x.tick 0 2000
                · have H1 := hid h1
                  clear h1
                  have hf := hid (HF.out (hB2.out (by rw [hdr.out, H1.out]; rfl)))
                  go_wp2_with fail
                  ((first | refine wp_region_more (by kernel_rfl) (by kernel_rfl) ?_ | refine wp_region_ext (by kernel_rfl) (by kernel_rfl) ?_); (try dsimp only [append_cons', append_nil']); (repeat (go_big_quiet_step ((go_at_call 23; with_reducible refine Calls.more_of (within_to H1.out _))))); refine wpQuiet_nil ?_; rintro _ ⟨pq, rfl⟩)
                  go_wp2
                  go_returns
                  exact ⟨by rw [hf.out]; rfl, hw.trans (ext_more _ _)⟩
                have H1 := hid h1
                clear h1
                cases h2 : withB x.obj 0 3
                · have H2 := hid h2
                  clear h2
                  have hf := hid (HF.out (hB2.out (by rw [hdr.out, H2.out, Bool.and_false]; rfl)))
                  go_wp2_with fail
                  ((first | refine wp_region_more (by kernel_rfl) (by kernel_rfl) ?_ | refine wp_region_ext (by kernel_rfl) (by kernel_rfl) ?_); (try dsimp only [append_cons', append_nil']); (repeat (go_big_quiet_step ((first | (go_at_call 23; with_reducible refine Calls.more_of (within_to H1.out _)) | (go_at_call 23; with_reducible refine Calls.more_of (within_to H2.out _)))))); refine wpQuiet_nil ?_; rintro _ ⟨pq, rfl⟩)
                  go_wp2
                  go_returns
                  exact ⟨by rw [hf.out]; rfl, hw.trans (ext_more _ _)⟩
                have H2 := hid h2
                clear h2
                by_cases h3 : p.tick ≤ x.tick
                · have h3b : decide (x.tick < p.tick) = false := by simpa using h3
                  have H3 := hid h3
                  go_wp2_with fail
                  ((first | refine wp_region_more (by kernel_rfl) (by kernel_rfl) ?_ | refine wp_region_ext (by kernel_rfl) (by kernel_rfl) ?_); (try dsimp only [append_cons', append_nil']); (repeat (go_big_quiet_step ((first | (go_at_call 23; with_reducible refine Calls.more_of (within_to H1.out _)) | (go_at_call 23; with_reducible refine Calls.more_of (within_to H2.out _)))))); refine wpQuiet_nil ?_; rintro _ ⟨pq, rfl⟩)
                  go_wp2
                  go_roundw
                  case rel => exact ⟨hx.trans (ext_more _ _), (j : Int) + 1 + 1, x.tick, rfl, by omega, Or.inr ⟨j + 1, hkeep.out.1, by go_num, hid (hgo.out H1.out H2.out H3.out), hkeep.out.2⟩⟩
                  case measure => simp [intOf]; omega
                · have h3' : x.tick < p.tick := by omega
                  have hf := hid (HF.out (hB2.out (by rw [hdr.out, decide_eq_false h3, Bool.and_false]; rfl)))
                  go_wp2_with fail
                  ((first | refine wp_region_more (by kernel_rfl) (by kernel_rfl) ?_ | refine wp_region_ext (by kernel_rfl) (by kernel_rfl) ?_); (try dsimp only [append_cons', append_nil']); (repeat (go_big_quiet_step ((first | (go_at_call 23; with_reducible refine Calls.more_of (within_to H1.out _)) | (go_at_call 23; with_reducible refine Calls.more_of (within_to H2.out _)))))); refine wpQuiet_nil ?_; rintro _ ⟨pq, rfl⟩)
                  go_wp2
                  go_returns
                  exact ⟨by rw [hf.out]; rfl, hw.trans (ext_more _ _)⟩
              · have hall : arrB 0 y = true := by
                  rw [hd.out, List.drop_eq_nil_of_le (by omega)]; rfl
                have e9 : j + 1 = y.length := by omega
                have i5 : ¬ ((j : Int) + 1 < y.length) := by omega
                have hgd := hid (hA2.out.trans hall)
                go_wp2
                go_roundw
                case rel => exact ⟨hx, k + 1, by go_num, by omega, hgd⟩
                case measure => simp [intOf]; omega
        · obtain rfl : k = s.conf.doms.length := by omega
          have e2 := ht1.out
          rw [← HM.out, List.take_length] at e2
          have HG2 := hid (HG.out e2)
          clear e2
          go_wp2
          go_returns
          exact ⟨by rw [HG2.out]; rfl, hw⟩
end Go.Proofs.YtbllibgddiiboaaGreatDoor

namespace Go.Proofs.YtbllibgddiiboaaGreatDoor
open Go.RowKit

theorem sameConf_to' {a b : Cnf} {r : Bool} (e : sameC a b = r) (w : World) (pa da pb db : Value) (ha : ConfV w a pa da) (hb : ConfV w b pb db) :
    Calls Tryz.prog 28 #[confV a pa da, confV b pb db] w (Yields w (.bool r)) := e ▸ sameConf_any w a b pa da pb db ha hb

set_option maxRecDepth 100000 in
set_option maxHeartbeats 3000000 in
theorem sameScr_any (w : World) (a b : Scr) (pa da sa va pb db sb vb : Value) (ha : ScrV w a pa da sa va) (hb : ScrV w b pb db sb vb) :
    Calls Tryz.prog 10 #[scrV a pa da sa va, scrV b pb db sb vb] w (Yields w (.bool (sameS a b))) := by
  obtain ⟨ppa, cpa, rfl, -, -⟩ := ha.conf.plans.shape
  obtain ⟨pda, cda, rfl, -, -⟩ := ha.conf.doms.shape
  obtain ⟨psa, csa, rfl, hsa1, hsa2⟩ := ha.streams.shape
  obtain ⟨pva, cva, rfl, hva1, hva2⟩ := ha.arrivals.shape
  obtain ⟨ppb, cpb, rfl, -, -⟩ := hb.conf.plans.shape
  obtain ⟨pdb, cdb, rfl, -, -⟩ := hb.conf.doms.shape
  obtain ⟨psb, csb, rfl, hsb1, hsb2⟩ := hb.streams.shape
  obtain ⟨pvb, cvb, rfl, hvb1, hvb2⟩ := hb.arrivals.shape
  unfold maxLen at hsa2 hva2 hsb2 hvb2
  have HA := hid ha
  have HB := hid hb
  clear ha hb
  cases h0 : sameC a.conf b.conf
  · have Q0 := hid h0
    clear h0
    go_enter Tryz.func10, Tryz.ntmps10
    go_wp2_with (go_at_call 28; (with_reducible refine (sameConf_to' Q0.out _ _ _ _ _ (HA.out.conf.ext (by repeat (first | exact Ext.refl _ | assumption | refine Ext.more ?_ _ | refine Ext.drew ?_ | refine Ext.drewN ?_ _ | refine Ext.alloc ?_ _ | refine Ext.setCell ?_ (by simp; try omega) _ | refine Ext.trans ?_ (by assumption)))) (HB.out.conf.ext (by repeat (first | exact Ext.refl _ | assumption | refine Ext.more ?_ _ | refine Ext.drew ?_ | refine Ext.drewN ?_ _ | refine Ext.alloc ?_ _ | refine Ext.setCell ?_ (by simp; try omega) _ | refine Ext.trans ?_ (by assumption))))).yields ?_); intro p1)
    go_returns
    exact ⟨by simp [sameS, Q0.out], (by repeat (first | exact Ext.refl _ | assumption | refine Ext.more ?_ _ | refine Ext.drew ?_ | refine Ext.drewN ?_ _ | refine Ext.alloc ?_ _ | refine Ext.setCell ?_ (by simp; try omega) _ | refine Ext.trans ?_ (by assumption)))⟩
  have Q0 := hid h0
  clear h0
  cases h1 : a.horizon == b.horizon
  · have n1 := ne_of_eqf h1
    go_enter Tryz.func10, Tryz.ntmps10
    go_wp2_with (go_at_call 28; (with_reducible refine (sameConf_to' Q0.out _ _ _ _ _ (HA.out.conf.ext (by repeat (first | exact Ext.refl _ | assumption | refine Ext.more ?_ _ | refine Ext.drew ?_ | refine Ext.drewN ?_ _ | refine Ext.alloc ?_ _ | refine Ext.setCell ?_ (by simp; try omega) _ | refine Ext.trans ?_ (by assumption)))) (HB.out.conf.ext (by repeat (first | exact Ext.refl _ | assumption | refine Ext.more ?_ _ | refine Ext.drew ?_ | refine Ext.drewN ?_ _ | refine Ext.alloc ?_ _ | refine Ext.setCell ?_ (by simp; try omega) _ | refine Ext.trans ?_ (by assumption))))).yields ?_); intro p1)
    go_returns
    exact ⟨by simp [sameS, h1], (by repeat (first | exact Ext.refl _ | assumption | refine Ext.more ?_ _ | refine Ext.drew ?_ | refine Ext.drewN ?_ _ | refine Ext.alloc ?_ _ | refine Ext.setCell ?_ (by simp; try omega) _ | refine Ext.trans ?_ (by assumption)))⟩
  have n1 := ne_of_eqt h1
  have Q1 := hid h1
  by_cases hl1 : a.streams.length = b.streams.length
  case neg =>
    have l1 : ((a.streams.length : Int) == (b.streams.length : Int)) = false := by simp; omega
    have l2 : ((a.streams.length : Int) != (b.streams.length : Int)) = true := by simp; omega
    have HF : Hid (sameS a b = false) := by
      unfold Hid sameS
      rw [decide_eq_false (show ¬ a.streams = b.streams from fun h => hl1 (by rw [h])), Bool.and_false, Bool.false_and]
    clear hl1
    go_enter Tryz.func10, Tryz.ntmps10
    go_wp2_with (go_at_call 28; (with_reducible refine (sameConf_to' Q0.out _ _ _ _ _ (HA.out.conf.ext (by repeat (first | exact Ext.refl _ | assumption | refine Ext.more ?_ _ | refine Ext.drew ?_ | refine Ext.drewN ?_ _ | refine Ext.alloc ?_ _ | refine Ext.setCell ?_ (by simp; try omega) _ | refine Ext.trans ?_ (by assumption)))) (HB.out.conf.ext (by repeat (first | exact Ext.refl _ | assumption | refine Ext.more ?_ _ | refine Ext.drew ?_ | refine Ext.drewN ?_ _ | refine Ext.alloc ?_ _ | refine Ext.setCell ?_ (by simp; try omega) _ | refine Ext.trans ?_ (by assumption))))).yields ?_); intro p1)
    go_returns
    exact ⟨by simp [HF.out], (by repeat (first | exact Ext.refl _ | assumption | refine Ext.more ?_ _ | refine Ext.drew ?_ | refine Ext.drewN ?_ _ | refine Ext.alloc ?_ _ | refine Ext.setCell ?_ (by simp; try omega) _ | refine Ext.trans ?_ (by assumption)))⟩
  have l1 : ((a.streams.length : Int) == (b.streams.length : Int)) = true := by simp; omega
  have l2 : ((a.streams.length : Int) != (b.streams.length : Int)) = false := by simp; omega
  by_cases hl2 : a.arrivals.length = b.arrivals.length
  case neg =>
    have l3 : ((a.arrivals.length : Int) == (b.arrivals.length : Int)) = false := by simp; omega
    have l4 : ((a.arrivals.length : Int) != (b.arrivals.length : Int)) = true := by simp; omega
    have HF : Hid (sameS a b = false) := by
      unfold Hid sameS
      rw [decide_eq_false (show ¬ a.arrivals = b.arrivals from fun h => hl2 (by rw [h])), Bool.and_false]
    clear hl1 hl2
    go_enter Tryz.func10, Tryz.ntmps10
    go_wp2_with (go_at_call 28; (with_reducible refine (sameConf_to' Q0.out _ _ _ _ _ (HA.out.conf.ext (by repeat (first | exact Ext.refl _ | assumption | refine Ext.more ?_ _ | refine Ext.drew ?_ | refine Ext.drewN ?_ _ | refine Ext.alloc ?_ _ | refine Ext.setCell ?_ (by simp; try omega) _ | refine Ext.trans ?_ (by assumption)))) (HB.out.conf.ext (by repeat (first | exact Ext.refl _ | assumption | refine Ext.more ?_ _ | refine Ext.drew ?_ | refine Ext.drewN ?_ _ | refine Ext.alloc ?_ _ | refine Ext.setCell ?_ (by simp; try omega) _ | refine Ext.trans ?_ (by assumption))))).yields ?_); intro p1)
    go_returns
    exact ⟨by simp [HF.out], (by repeat (first | exact Ext.refl _ | assumption | refine Ext.more ?_ _ | refine Ext.drew ?_ | refine Ext.drewN ?_ _ | refine Ext.alloc ?_ _ | refine Ext.setCell ?_ (by simp; try omega) _ | refine Ext.trans ?_ (by assumption)))⟩
  have l3 : ((a.arrivals.length : Int) == (b.arrivals.length : Int)) = true := by simp; omega
  have l4 : ((a.arrivals.length : Int) != (b.arrivals.length : Int)) = false := by simp; omega
  have HL := hid hl1
  have HM := hid hl2
  clear hl1 hl2
  go_enter Tryz.func10, Tryz.ntmps10
  go_wp2_with (go_at_call 28; (with_reducible refine (sameConf_to' Q0.out _ _ _ _ _ (HA.out.conf.ext (by repeat (first | exact Ext.refl _ | assumption | refine Ext.more ?_ _ | refine Ext.drew ?_ | refine Ext.drewN ?_ _ | refine Ext.alloc ?_ _ | refine Ext.setCell ?_ (by simp; try omega) _ | refine Ext.trans ?_ (by assumption)))) (HB.out.conf.ext (by repeat (first | exact Ext.refl _ | assumption | refine Ext.more ?_ _ | refine Ext.drew ?_ | refine Ext.drewN ?_ _ | refine Ext.alloc ?_ _ | refine Ext.setCell ?_ (by simp; try omega) _ | refine Ext.trans ?_ (by assumption))))).yields ?_); intro p1)
  have hbx := fun (w' : World) (h : Ext ((w.alloc (.cells #[.int .i64 a.conf.frame, .int .i64 a.conf.epoch, .slice ppa a.conf.plans.length cpa, .slice pda a.conf.doms.length cda, .int .i64 a.horizon, .slice psa a.streams.length csa, .slice pva a.arrivals.length cva] 29 (0, 0))).alloc (.cells #[.int .i64 b.conf.frame, .int .i64 b.conf.epoch, .slice ppb b.conf.plans.length cpb, .slice pdb b.conf.doms.length cdb, .int .i64 b.horizon, .slice psb b.streams.length csb, .slice pvb b.arrivals.length cvb] 29 (0, 0))) w') => And.intro (boxed (Ext.trans (Ext.alloc (Ext.refl _) _) h) 5 (by simp)) (And.intro (boxed (Ext.trans (Ext.alloc (Ext.refl _) _) h) 6 (by simp)) (And.intro (boxed h 5 (by simp)) (boxed h 6 (by simp))))
  have hx0 : Ext w ((w.alloc (.cells #[.int .i64 a.conf.frame, .int .i64 a.conf.epoch, .slice ppa a.conf.plans.length cpa, .slice pda a.conf.doms.length cda, .int .i64 a.horizon, .slice psa a.streams.length csa, .slice pva a.arrivals.length cva] 29 (0, 0))).alloc (.cells #[.int .i64 b.conf.frame, .int .i64 b.conf.epoch, .slice ppb b.conf.plans.length cpb, .slice pdb b.conf.doms.length cdb, .int .i64 b.horizon, .slice psb b.streams.length csb, .slice pvb b.arrivals.length cvb] 29 (0, 0))) := Ext.alloc (Ext.alloc (Ext.refl _) _) _
  generalize (w.alloc (.cells #[.int .i64 a.conf.frame, .int .i64 a.conf.epoch, .slice ppa a.conf.plans.length cpa, .slice pda a.conf.doms.length cda, .int .i64 a.horizon, .slice psa a.streams.length csa, .slice pva a.arrivals.length cva] 29 (0, 0))).alloc (.cells #[.int .i64 b.conf.frame, .int .i64 b.conf.epoch, .slice ppb b.conf.plans.length cpb, .slice pdb b.conf.doms.length cdb, .int .i64 b.horizon, .slice psb b.streams.length csb, .slice pvb b.arrivals.length cvb] 29 (0, 0)) = W1 at *
  simp only [List.getElem?_toArray, List.getElem?_cons_succ, List.getElem?_cons_zero, World.size_alloc] at hbx
  have HBX := hid hbx
  clear hbx
  go_loopw [5] (fun v wr => Ext W1 wr ∧ ∃ k : Nat, v = .int .i64 k ∧ k ≤ a.streams.length ∧ Hid (a.streams.take k = b.streams.take k)) (fun v _ => (a.streams.length - intOf v).toNat)
  case atStart => exact ⟨(by repeat (first | exact Ext.refl _ | refine Ext.more ?_ _)), 0, rfl, by omega, rfl⟩
  case round =>
    obtain ⟨hx, k, rfl, hk, ht⟩ := hrel
    obtain ⟨b1, b2, b3, b4⟩ := HBX.out _ hx
    have hw := hx0.trans hx
    have hbs : w.heap.size + 1 < wr.heap.size := World.block_lt_of_cell? _ _ b4
    have hbs' : w.heap.size < wr.heap.size := by omega
    by_cases hlt : k < a.streams.length
    · obtain ⟨ba, oa, rfl, ra, a0, na⟩ := HA.out.streams.at k hlt
      obtain ⟨bb, ob, rfl, rb, b0, nb⟩ := HB.out.streams.at k (by have := HL.out; omega)
      simp only [Nat.mul_one] at a0 b0
      have m0 := more_cell (hw.cell a0)
      have m1 := more_cell (hw.cell b0)
      have m2 := more_cell b1
      have m3 := more_cell b3
      have hs : Hid (a.streams[k] = b.streams[k]'(by have := HL.out; omega) → a.streams.take (k + 1) = b.streams.take (k + 1)) := fun h => by
        rw [List.take_succ_eq_append_getElem hlt, List.take_succ_eq_append_getElem (by have := HL.out; omega), ht.out, h]
      have hn : Hid (a.streams[k] ≠ b.streams[k]'(by have := HL.out; omega) → sameS a b = false) := fun h => by
        unfold sameS
        rw [decide_eq_false (show ¬ a.streams = b.streams from fun e => h (by simp [e])), Bool.and_false, Bool.false_and]
      have ea := hid (na.ext hw)
      have eb := hid (nb.ext hw)
      clear a0 b0 na nb
      generalize a.streams[k] = x at *
      generalize b.streams[k]'(by have := HL.out; omega) = y at *
      have i1 : (k : Int) < a.streams.length := by omega
      have i2 : (k : Int) < b.streams.length := by have := HL.out; omega
      by_cases he : x = y
      · have hsx := hs.out he
        have hd : Hid (decide (x = y) = true) := by simpa [Hid] using he
        clear hs he hn
        go_wp2_with fail
        ((first | refine wp_region_more (by kernel_rfl) (by kernel_rfl) ?_ | refine wp_region_ext (by kernel_rfl) (by kernel_rfl) ?_); (try dsimp only [append_cons', append_nil']); (repeat (go_big_quiet_step ((go_at_call 29; with_reducible refine Calls.more_of (sameStream_to hd.out _ _ _ (ea.out.ext (ext_more _ _)) (eb.out.ext (ext_more _ _))))))); refine wpQuiet_nil ?_; rintro _ ⟨pq, rfl⟩)
        go_wp2
        go_roundw
        case rel => exact ⟨hx.trans (ext_more _ _), k + 1, by go_num, by omega, hid hsx⟩
        case measure => simp [intOf]; omega
      · have hd : Hid (decide (x = y) = false) := by simpa [Hid] using he
        have hne := hid (hn.out he)
        clear hn he hs
        go_wp2_with fail
        ((first | refine wp_region_more (by kernel_rfl) (by kernel_rfl) ?_ | refine wp_region_ext (by kernel_rfl) (by kernel_rfl) ?_); (try dsimp only [append_cons', append_nil']); (repeat (go_big_quiet_step ((go_at_call 29; with_reducible refine Calls.more_of (sameStream_to hd.out _ _ _ (ea.out.ext (ext_more _ _)) (eb.out.ext (ext_more _ _))))))); refine wpQuiet_nil ?_; rintro _ ⟨pq, rfl⟩)
        go_wp2
        go_returns
        exact ⟨by simp [hne.out], hw.trans (ext_more _ _)⟩
    · obtain rfl : k = a.streams.length := by omega
      have he := ht.out
      rw [List.take_length, HL.out, List.take_length] at he
      have HE := hid he
      clear he ht
      go_wp2_with fail
      go_loopw [6] (fun v wr => Ext W1 wr ∧ ∃ k : Nat, v = .int .i64 k ∧ k ≤ a.arrivals.length ∧ Hid (a.arrivals.take k = b.arrivals.take k)) (fun v _ => (a.arrivals.length - intOf v).toNat)
      case atStart => exact ⟨hx, 0, rfl, by omega, rfl⟩
      case round =>
        clear hx hw hbs hbs' b1 b2 b3 b4
        obtain ⟨hx, k, rfl, hk, ht⟩ := hrel
        obtain ⟨b1, b2, b3, b4⟩ := HBX.out _ hx
        have hw := hx0.trans hx
        have hbs : w.heap.size + 1 < wr.heap.size := World.block_lt_of_cell? _ _ b4
        have hbs' : w.heap.size < wr.heap.size := by omega
        by_cases hlt : k < a.arrivals.length
        · obtain ⟨ba, oa, rfl, ra, a0, na⟩ := HA.out.arrivals.at k hlt
          obtain ⟨bb, ob, rfl, rb, b0, nb⟩ := HB.out.arrivals.at k (by have := HM.out; omega)
          simp only [Nat.mul_one] at a0 b0
          have m0 := more_cell (hw.cell a0)
          have m1 := more_cell (hw.cell b0)
          have m2 := more_cell b2
          have m3 := more_cell b4
          have hs : Hid (a.arrivals[k] = b.arrivals[k]'(by have := HM.out; omega) → a.arrivals.take (k + 1) = b.arrivals.take (k + 1)) := fun h => by
            rw [List.take_succ_eq_append_getElem hlt, List.take_succ_eq_append_getElem (by have := HM.out; omega), ht.out, h]
          have hn : Hid (a.arrivals[k] ≠ b.arrivals[k]'(by have := HM.out; omega) → sameS a b = false) := fun h => by
            unfold sameS
            rw [decide_eq_false (show ¬ a.arrivals = b.arrivals from fun e => h (by simp [e])), Bool.and_false]
          have ea := hid (na.ext hw)
          have eb := hid (nb.ext hw)
          clear a0 b0 na nb
          generalize a.arrivals[k] = x at *
          generalize b.arrivals[k]'(by have := HM.out; omega) = y at *
          have i1 : (k : Int) < a.arrivals.length := by omega
          have i2 : (k : Int) < b.arrivals.length := by have := HM.out; omega
          by_cases he : x = y
          · have hsx := hs.out he
            have hd : Hid (decide (x = y) = true) := by simpa [Hid] using he
            clear hs he hn
            go_wp2_with fail
            ((first | refine wp_region_more (by kernel_rfl) (by kernel_rfl) ?_ | refine wp_region_ext (by kernel_rfl) (by kernel_rfl) ?_); (try dsimp only [append_cons', append_nil']); (repeat (go_big_quiet_step ((go_at_call 30; with_reducible refine Calls.more_of (sameArr_to hd.out _ _ _ (ea.out.ext (ext_more _ _)) (eb.out.ext (ext_more _ _))))))); refine wpQuiet_nil ?_; rintro _ ⟨pq, rfl⟩)
            go_wp2
            go_roundw
            case rel => exact ⟨hx.trans (ext_more _ _), k + 1, by go_num, by omega, hid hsx⟩
            case measure => simp [intOf]; omega
          · have hd : Hid (decide (x = y) = false) := by simpa [Hid] using he
            have hne := hid (hn.out he)
            clear hn he hs
            go_wp2_with fail
            ((first | refine wp_region_more (by kernel_rfl) (by kernel_rfl) ?_ | refine wp_region_ext (by kernel_rfl) (by kernel_rfl) ?_); (try dsimp only [append_cons', append_nil']); (repeat (go_big_quiet_step ((go_at_call 30; with_reducible refine Calls.more_of (sameArr_to hd.out _ _ _ (ea.out.ext (ext_more _ _)) (eb.out.ext (ext_more _ _))))))); refine wpQuiet_nil ?_; rintro _ ⟨pq, rfl⟩)
            go_wp2
            go_returns
            exact ⟨by simp [hne.out], hw.trans (ext_more _ _)⟩
        · obtain rfl : k = a.arrivals.length := by omega
          have he := ht.out
          rw [List.take_length, HM.out, List.take_length] at he
          have HF := hid he
          clear he ht
          go_wp2
          go_returns
          exact ⟨by unfold sameS; rw [Q0.out, Q1.out, decide_eq_true HE.out, decide_eq_true HF.out]; rfl, hw⟩
theorem sameScr_to {a b : Scr} {r : Bool} (e : sameS a b = r) (w : World) (pa da sa va pb db sb vb : Value) (ha : ScrV w a pa da sa va) (hb : ScrV w b pb db sb vb) :
    Calls Tryz.prog 10 #[scrV a pa da sa va, scrV b pb db sb vb] w (Yields w (.bool r)) := e ▸ sameScr_any w a b pa da sa va pb db sb vb ha hb
end Go.Proofs.YtbllibgddiiboaaGreatDoor

namespace Go.Proofs.YtbllibgddiiboaaGreatDoor
open Go.RowKit

theorem int_eq {k : IntKind} {a b : Int} (h : a = b) : Value.int k a = Value.int k b := by rw [h]

end Go.Proofs.YtbllibgddiiboaaGreatDoor

namespace Go.Proofs.YtbllibgddiiboaaGreatDoor
open Go.RowKit

theorem leB_get : ∀ (K n j : Nat), j < K → (leB K n)[j]? = some (UInt8.ofNat (n / 256 ^ j % 256))
  | K + 1, n, 0, _ => by simp [leB]
  | K + 1, n, j + 1, h => by
    have := leB_get K (n / 256) j (by omega)
    rw [leB, List.getElem?_cons_succ, this, Nat.div_div_eq_div_mul, Nat.pow_succ, Nat.mul_comm 256]

theorem one_byte (w : World) (c : UInt8) (x : Int) (h : x = c.toNat) : (convert 114 9 (.slice (some ⟨w.heap.size, 0, none⟩) 1 1)).run Tryz.prog (w.alloc (.cells #[.int .u8 x] 5)) = .ok (.string (str [c])) (w.alloc (.cells #[.int .u8 x] 5)) := by
  subst h
  exact run_string_of_bytes (P := Tryz.prog) _ 114 9 5 ⟨w.heap.size, 0, none⟩ 1 [c] Tryz.underlying114 Tryz.underlying5 Tryz.underlying9 (fun j hj => by
    match j, hj with
    | 0, _ => simp [Addr.add])

def NumM (n : Int) (w : World) (a' : Act) (wx : World) : Prop := ∃ (u1 u3 u4 u5 u6 u7 u8 u9 u10 u11 u12 u13 u14 u15 u16 u17 u18 u19 u20 u21 u22 u23 u24 u25 : Value), a' = { tmps := #[.int .i64 n, u1, .string ⟨#[]⟩, u3, u4, u5, u6, u7, u8, u9, u10, u11, u12, u13, u14, u15, u16, u17, u18, u19, u20, u21, u22, u23, u24, u25], defers := [] } ∧ w = wx
set_option maxRecDepth 100000 in
set_option maxHeartbeats 1000000 in
theorem fnum_any (n : Int) (w : World) : Calls Tryz.prog 36 #[.int .i64 n] w (Yields w (.string (str (numB n)))) := by
  have hh := heldN_le n
  go_enter Tryz.func36, Tryz.ntmps36
  refine wp_mid (NumM n w) ?_ ?_
  · go_wp2
    exact ⟨_, _, _, _, _, _, _, _, _, _, _, _, _, _, _, _, _, _, _, _, _, _, _, _, rfl, rfl⟩
  refine fun a' wx => ex_elim fun u1 => ex_elim fun u3 => ex_elim fun u4 => ex_elim fun u5 => ex_elim fun u6 => ex_elim fun u7 => ex_elim fun u8 => ex_elim fun u9 => ex_elim fun u10 => ex_elim fun u11 => ex_elim fun u12 => ex_elim fun u13 => ex_elim fun u14 => ex_elim fun u15 => ex_elim fun u16 => ex_elim fun u17 => ex_elim fun u18 => ex_elim fun u19 => ex_elim fun u20 => ex_elim fun u21 => ex_elim fun u22 => ex_elim fun u23 => ex_elim fun u24 => ex_elim fun u25 => ?_
  rintro ⟨rfl, rfl⟩
  refine wp_mid (NumM (heldN n) w) ?_ ?_
  · rcases (show n < -1 ∨ (-1 ≤ n ∧ n ≤ 1048576) ∨ 1048576 < n from by omega) with h1 | h1 | h1
    · have hv := heldN_low h1
      go_wp2
      all_goals (first | (intros; omega) | exact ⟨_, _, _, _, _, _, _, _, _, _, _, _, _, _, _, _, _, _, _, _, _, _, _, _, rfl, rfl⟩ | (obtain rfl : n = -1 := (by omega); exact ⟨_, _, _, _, _, _, _, _, _, _, _, _, _, _, _, _, _, _, _, _, _, _, _, _, rfl, rfl⟩))
    · have hv := heldN_in h1.1 h1.2
      go_wp2
      all_goals (first | (intros; omega) | exact ⟨_, _, _, _, _, _, _, _, _, _, _, _, _, _, _, _, _, _, _, _, _, _, _, _, rfl, rfl⟩ | (obtain rfl : n = -1 := (by omega); exact ⟨_, _, _, _, _, _, _, _, _, _, _, _, _, _, _, _, _, _, _, _, _, _, _, _, rfl, rfl⟩))
    · have hv := heldN_high h1
      go_wp2
      all_goals (first | (intros; omega) | exact ⟨_, _, _, _, _, _, _, _, _, _, _, _, _, _, _, _, _, _, _, _, _, _, _, _, rfl, rfl⟩ | (obtain rfl : n = -1 := (by omega); exact ⟨_, _, _, _, _, _, _, _, _, _, _, _, _, _, _, _, _, _, _, _, _, _, _, _, rfl, rfl⟩))
  refine fun a' wx => ex_elim fun u1 => ex_elim fun u3 => ex_elim fun u4 => ex_elim fun u5 => ex_elim fun u6 => ex_elim fun u7 => ex_elim fun u8 => ex_elim fun u9 => ex_elim fun u10 => ex_elim fun u11 => ex_elim fun u12 => ex_elim fun u13 => ex_elim fun u14 => ex_elim fun u15 => ex_elim fun u16 => ex_elim fun u17 => ex_elim fun u18 => ex_elim fun u19 => ex_elim fun u20 => ex_elim fun u21 => ex_elim fun u22 => ex_elim fun u23 => ex_elim fun u24 => ex_elim fun u25 => ?_
  rintro ⟨rfl, rfl⟩
  go_wp2_with fail
  go_loopw [0, 3] (fun v0 v3 wr => ∃ (r : Nat) (pre : List UInt8), v0 = .int .i64 r ∧ v3 = .string (str pre) ∧ r ≤ 1048577 ∧ Hid (pre ++ encN r = numB n) ∧ pre.length ≤ 3 ∧ Ext w wr) (fun v0 _ _ => (intOf v0).toNat)
  case atStart => exact ⟨heldN n, [], rfl, rfl, hh, rfl, by simp, Ext.refl _⟩
  case round =>
    obtain ⟨r, pre, rfl, rfl, hr, HP, hpl, hx⟩ := hrel
    by_cases hge : 128 ≤ r
    · have HE := hid (encN_ge hge)
      have hcv := one_byte wr (UInt8.ofNat (128 + r % 128)) ((r : Int) % 128 + 128) (by rw [UInt8.toNat_ofNat']; omega)
      have HL : Hid (pre.length + 1 ≤ 3) := by
        have := congrArg List.length HP.out
        rw [HE.out] at this
        simp only [List.length_append, List.length_cons] at this
        have h3 := numB_length n
        unfold Hid; omega
      generalize hc : UInt8.ofNat (128 + r % 128) = c at *
      have HC := hid hc
      clear hc
      go_wp2_with fail
      exact ⟨⟨r / 128, pre ++ [c], by simp, rfl, by omega, by have h1 := HP.out; rw [HE.out] at h1; unfold Hid; rw [← h1]; simp, by simpa using HL.out, hx.alloc _⟩, by simp [intOf]; omega⟩
    · have HE := hid (encN_lt (show r < 128 by omega))
      have hcv := one_byte wr (UInt8.ofNat r) (r : Int) (by rw [UInt8.toNat_ofNat']; omega)
      generalize hc : UInt8.ofNat r = c at *
      have HC := hid hc
      clear hc
      go_wp2_with fail
      go_returns
      refine ⟨?_, hx.alloc _⟩
      rw [← HP.out, HE.out]
      rfl

set_option maxRecDepth 100000 in
set_option maxHeartbeats 1000000 in
theorem fbits_any (n : Int) (hn : 0 ≤ n) (w : World) : Calls Tryz.prog 37 #[.int .u64 n] w (Yields w (.string (str (bitsB n)))) := by
  obtain ⟨i0, hi, hz0, hz1, hz2⟩ := info_parts Tryz.info5
  have hmk := run_make (P := Tryz.prog) w 114 5 i0 (.int .u8 0) Tryz.underlying114 hi hz0 .i64 .i64 8 8 (by omega) (by omega) (by rw [hz2]; omega) (by omega)
  rw [hz1] at hmk
  have hmade : (madeCells (Value.int .u8 0).cells (Int.toNat 8 * 1)) = Array.replicate 8 (.int .u8 0) := by kernel_rfl
  rw [hmade] at hmk
  obtain ⟨w1, hw1⟩ : ∃ w1, w1 = w.alloc (.cells (Array.replicate 8 (.int .u8 0)) 5) := ⟨_, rfl⟩
  rw [← hw1] at hmk
  have hx1 : Ext w w1 := by rw [hw1]; exact Ext.alloc (Ext.refl _) _
  have hb1 : w1.heap[w.heap.size]? = some (.cells (Array.replicate 8 (.int .u8 0)) 5 (0, 0)) := by rw [hw1]; exact heap_alloc_new w _
  clear hmade hw1
  go_enter Tryz.func37, Tryz.ntmps37
  go_wp2_with fail
  go_loopw [4] (fun v4 wr => ∃ (k : Nat) (cs : Array Value), v4 = .int .i64 k ∧ k ≤ 8 ∧ wr.heap[w.heap.size]? = some (.cells cs 5 (0, 0)) ∧ cs.size = 8 ∧ (∀ j, j < k → cs[j]? = some (bcell (UInt8.ofNat (n.toNat / 256 ^ j % 256)))) ∧ Ext w wr) (fun v4 _ => (8 - intOf v4).toNat)
  case atStart => exact ⟨0, _, rfl, by omega, hb1, by simp, fun j hj => by omega, hx1⟩
  case round =>
    obtain ⟨k, cs, rfl, hk, hblk, hcs, hin, hx⟩ := hrel
    have HI := hid hin
    clear hin
    by_cases hlt : k < 8
    · have hc := blk_cell hblk k
      rw [Array.getElem?_eq_getElem (by omega)] at hc
      have hf := blk_free hblk k
      have HB : Hid (((UInt8.ofNat (n.toNat / 256 ^ k % 256)).toNat : Int) = n / 2 ^ (8 * k) % 256) := by
        have := byte_shr hn k
        rwa [IntKind.wrap_u8] at this
      go_wp2_with fail
      refine ⟨⟨k + 1, cs.setIfInBounds k (bcell (UInt8.ofNat (n.toNat / 256 ^ k % 256))), by simp, by omega, ?_, by simpa using hcs, fun j hj => ?_, hx.setCell (Nat.le_refl _) _⟩, by simp [intOf]; omega⟩
      · have := blk_set hblk k (bcell (UInt8.ofNat (n.toNat / 256 ^ k % 256)))
        unfold bcell at *
        rw [HB.out] at *
        exact this
      · by_cases he : j = k
        · subst he; simp [hcs, hlt]
        · rw [Array.getElem?_setIfInBounds_ne (by omega)]
          exact HI.out j (by omega)
    · obtain rfl : k = 8 := by omega
      have hcv := run_string_of_bytes (P := Tryz.prog) wr 114 9 5 ⟨w.heap.size, 0, none⟩ 8 (bitsB n) Tryz.underlying114 Tryz.underlying5 Tryz.underlying9 (fun j hj => by
        have h8 : (bitsB n).length = 8 := bitsB_length n
        rw [add_add, Nat.zero_add, blk_cell hblk, HI.out j (by omega)]
        have := leB_get 8 n.toNat j (by omega)
        have hg : (bitsB n)[j]? = some (bitsB n)[j] := List.getElem?_eq_getElem hj
        rw [show (bitsB n)[j]? = _ from this] at hg
        rw [← Option.some.inj hg]
        rfl)
      rw [bitsB_length] at hcv
      go_wp2
      go_returns
      exact ⟨rfl, hx⟩
end Go.Proofs.YtbllibgddiiboaaGreatDoor

namespace Go.Proofs.YtbllibgddiiboaaGreatDoor
open Go.RowKit

theorem take_flat {α : Type} (g : α → List UInt8) {l : List α} {k : Nat} (h : k < l.length) : (l.take (k + 1)).flatMap g = (l.take k).flatMap g ++ g l[k] := by
  rw [List.take_succ_eq_append_getElem h, List.flatMap_append, List.flatMap_singleton]

set_option maxRecDepth 100000 in
set_option maxHeartbeats 1000000 in
theorem rrow_any (w : World) (va : Value) (la : List Int) (ha : Nums .i64 w va la) (hl : la.length ≤ 1000000) :
    Calls Tryz.prog 38 #[va] w (Yields w (.string (str (rowB la)))) := by
  obtain ⟨pa, ca, rfl, hca, hma⟩ := ha.shape
  unfold maxLen at hma
  have HA := hid ha
  clear ha
  go_enter Tryz.func38, Tryz.ntmps38
  go_wp2_with (go_at_call 36; (with_reducible refine (fnum_any _ _).yields ?_); intro p0)
  have hx0 : Ext w (more w p0) := ext_more _ _
  generalize more w p0 = W1 at *
  go_loopw [3, 4] (fun v3 v4 wr => Ext w wr ∧ ∃ (k : Nat) (pre : List UInt8), v3 = .string (str pre) ∧ v4 = .int .i64 k ∧ k ≤ la.length ∧ pre.length ≤ 3000003 ∧ Hid (pre = numB la.length ++ (la.take k).flatMap numB ∧ pre.length ≤ 3 + 3 * k)) (fun v3 v4 _ => (la.length - intOf v4).toNat)
  case atStart => exact ⟨by first | exact hx0 | exact hx0.trans (by repeat (first | exact Ext.refl _ | assumption | refine Ext.more ?_ _ | refine Ext.drew ?_ | refine Ext.drewN ?_ _ | refine Ext.alloc ?_ _ | refine Ext.setCell ?_ (by simp; try omega) _ | refine Ext.trans ?_ (by assumption))), 0, numB la.length, rfl, rfl, by omega, by have := numB_length la.length; omega, by simp, by have := numB_length la.length; omega⟩
  case round =>
    obtain ⟨hx, k, pre, rfl, rfl, hk, hp, ht⟩ := hrel
    by_cases hlt : k < la.length
    · obtain ⟨ba, oa, rfl, a0, _⟩ := HA.out.at k hlt
      simp only [Nat.mul_one] at a0
      have c0 := hx.cell a0
      have hba : ba < wr.heap.size := World.block_lt_of_cell? _ _ c0
      have hT := hid (take_flat numB hlt)
      clear a0
      generalize la[k] = x at *
      have i1 : (k : Int) < la.length := by omega
      have hlen : (numB x).length ≤ 3 := numB_length x
      have hsum : pre.length + (numB x).length ≤ 3000006 := by omega
      go_wp2_with (go_at_call 36; (with_reducible refine (fnum_any _ _).yields ?_); intro p1)
      go_roundw
      case rel => exact ⟨(by repeat (first | exact Ext.refl _ | assumption | refine Ext.more ?_ _ | refine Ext.drew ?_ | refine Ext.drewN ?_ _ | refine Ext.alloc ?_ _ | refine Ext.setCell ?_ (by simp; try omega) _ | refine Ext.trans ?_ (by assumption))), k + 1, pre ++ numB x, rfl, by go_num, by omega, by have := ht.out.2; simp; omega, by rw [hT.out, ht.out.1, List.append_assoc], by have := ht.out.2; simp; omega⟩
      case measure => simp [intOf]; omega
    · obtain rfl : k = la.length := by omega
      have he := ht.out.1
      rw [List.take_length] at he
      have HE := hid he
      clear he
      go_wp2
      go_returns
      exact ⟨by rw [HE.out]; rfl, hx⟩
end Go.Proofs.YtbllibgddiiboaaGreatDoor

namespace Go.Proofs.YtbllibgddiiboaaGreatDoor
open Go.RowKit

theorem rIsScr_to {s : Scr} {n : Nat} (e : isScr s = n) (w : World) (pv dv sv av : Value) (hc : ScrV w s pv dv sv av) (hr : ∀ d ∈ s.conf.doms, ∀ r ∈ d.routes, r.length ≤ 300) :
    Calls Tryz.prog 8 #[scrV s pv dv sv av] w (Yields w (.int .i64 n)) := e ▸ rIsScr_any w s pv dv sv av hc hr
theorem flat_take_le {α : Type} (g : α → List UInt8) (l : List α) (k : Nat) : ((l.take k).flatMap g).length ≤ (l.flatMap g).length := by
  have := congrArg List.length (List.flatMap_append (xs := l.take k) (ys := l.drop k) (f := g))
  rw [List.take_append_drop, List.length_append] at this
  omega

set_option maxRecDepth 100000 in
set_option maxHeartbeats 3000000 in
theorem rBytes_bad (w : World) (s : Scr) (pv dv sv av : Value) (hc : ScrV w s pv dv sv av) (hr : ∀ d ∈ s.conf.doms, ∀ r ∈ d.routes, r.length ≤ 300) {n : Nat} (hn : isScr s = n + 1) :
    Calls Tryz.prog 12 #[scrV s pv dv sv av] w (Yields w (.string (str []))) := by
  have HC := hid hc
  have HR := hid hr
  have HN := hid hn
  clear hc hr hn
  have hm : (((n + 1 : Nat) : Int) == 0) = false := by simp; omega
  have hm' : (((n + 1 : Nat) : Int) != 0) = true := by simp; omega
  go_enter Tryz.func12, Tryz.ntmps12
  go_wp2_with (go_at_call 8; (with_reducible refine (rIsScr_to HN.out _ _ _ _ _ (HC.out.ext (by repeat (first | exact Ext.refl _ | assumption | refine Ext.more ?_ _ | refine Ext.drew ?_ | refine Ext.drewN ?_ _ | refine Ext.alloc ?_ _ | refine Ext.setCell ?_ (by simp; try omega) _ | refine Ext.trans ?_ (by assumption)))) HR.out).yields ?_); intro p0)
  go_returns
  exact ⟨by simp [str_nil], (by repeat (first | exact Ext.refl _ | assumption | refine Ext.more ?_ _ | refine Ext.drew ?_ | refine Ext.drewN ?_ _ | refine Ext.alloc ?_ _ | refine Ext.setCell ?_ (by simp; try omega) _ | refine Ext.trans ?_ (by assumption)))⟩

set_option maxRecDepth 100000 in
set_option maxHeartbeats 6000000 in
theorem rBytes_good (w : World) (s : Scr) (pv dv sv av : Value) (hc : ScrV w s pv dv sv av) (hi : CnfIn s.conf) (hn : isScr s = 0) (hb : (allBytes s).length ≤ 40000) :
    Calls Tryz.prog 12 #[scrV s pv dv sv av] w (Yields w (.string (str (allBytes s)))) := by
  obtain ⟨pp, cp, rfl, hp1, hp2⟩ := hc.conf.plans.shape
  obtain ⟨pd, cd, rfl, hd1, hd2⟩ := hc.conf.doms.shape
  obtain ⟨ps, cs, rfl, hs1, hs2⟩ := hc.streams.shape
  obtain ⟨pa, ca, rfl, ha1, ha2⟩ := hc.arrivals.shape
  unfold maxLen at hp2 hd2 hs2 ha2
  have HC := hid hc
  have HR := hid (fun d hd r h => ((hi.dom d hd).route r h).1)
  have HI := hid hi
  have HN := hid hn
  have hbl : (headBytes s.conf).length + (plansBytes s.conf.plans).length + (s.conf.doms.flatMap domBytes).length + (numB s.horizon).length + (s.streams.flatMap streamBytes).length + (s.arrivals.flatMap arrBytes).length ≤ 40000 := by
    simp only [allBytes, confBytes, List.length_append] at hb
    omega
  have HB := hid hbl
  clear hc hi hn hb hbl
  have hm : (((0 : Nat) : Int) == 0) = true := by simp
  have hm' : (((0 : Nat) : Int) != 0) = false := by simp
  go_enter Tryz.func12, Tryz.ntmps12
  go_wp2_with (go_at_call 8; (with_reducible refine (rIsScr_to HN.out _ _ _ _ _ (HC.out.ext (by repeat (first | exact Ext.refl _ | assumption | refine Ext.more ?_ _ | refine Ext.drew ?_ | refine Ext.drewN ?_ _ | refine Ext.alloc ?_ _ | refine Ext.setCell ?_ (by simp; try omega) _ | refine Ext.trans ?_ (by assumption)))) HR.out).yields ?_); intro p0)
  have hbx := fun (w' : World) (h : Ext ((more (w.alloc (.cells #[.int .i64 s.conf.frame, .int .i64 s.conf.epoch, .slice pp s.conf.plans.length cp, .slice pd s.conf.doms.length cd, .int .i64 s.horizon, .slice ps s.streams.length cs, .slice pa s.arrivals.length ca] 29 (0, 0))) p0).alloc (.cells #[.int .i64 s.conf.frame, .int .i64 s.conf.epoch, .slice pp s.conf.plans.length cp, .slice pd s.conf.doms.length cd] 25 (0, 0))) w') => And.intro (box_cells h 0 (by simp)) (And.intro (box_cells h 1 (by simp)) (And.intro (box_cells h 2 (by simp)) (And.intro (box_cells h 3 (by simp)) (And.intro (box_cells (Ext.trans (Ext.alloc (ext_more _ _) _) h) 4 (by simp)) (And.intro (box_cells (Ext.trans (Ext.alloc (ext_more _ _) _) h) 5 (by simp)) (box_cells (Ext.trans (Ext.alloc (ext_more _ _) _) h) 6 (by simp)))))))
  have hx0 : Ext w ((more (w.alloc (.cells #[.int .i64 s.conf.frame, .int .i64 s.conf.epoch, .slice pp s.conf.plans.length cp, .slice pd s.conf.doms.length cd, .int .i64 s.horizon, .slice ps s.streams.length cs, .slice pa s.arrivals.length ca] 29 (0, 0))) p0).alloc (.cells #[.int .i64 s.conf.frame, .int .i64 s.conf.epoch, .slice pp s.conf.plans.length cp, .slice pd s.conf.doms.length cd] 25 (0, 0))) := Ext.alloc ((Ext.alloc (Ext.refl _) _).trans (ext_more _ _)) _
  have hsz : w.heap.size + 1 + p0.os.size < ((more (w.alloc (.cells #[.int .i64 s.conf.frame, .int .i64 s.conf.epoch, .slice pp s.conf.plans.length cp, .slice pd s.conf.doms.length cd, .int .i64 s.horizon, .slice ps s.streams.length cs, .slice pa s.arrivals.length ca] 29 (0, 0))) p0).alloc (.cells #[.int .i64 s.conf.frame, .int .i64 s.conf.epoch, .slice pp s.conf.plans.length cp, .slice pd s.conf.doms.length cd] 25 (0, 0))).heap.size := by simp only [World.size_alloc, more_size]; omega
  generalize ((more (w.alloc (.cells #[.int .i64 s.conf.frame, .int .i64 s.conf.epoch, .slice pp s.conf.plans.length cp, .slice pd s.conf.doms.length cd, .int .i64 s.horizon, .slice ps s.streams.length cs, .slice pa s.arrivals.length ca] 29 (0, 0))) p0).alloc (.cells #[.int .i64 s.conf.frame, .int .i64 s.conf.epoch, .slice pp s.conf.plans.length cp, .slice pd s.conf.doms.length cd] 25 (0, 0))) = W1 at *
  simp only [List.getElem?_toArray, List.getElem?_cons_succ, List.getElem?_cons_zero, World.size_alloc, more_size] at hbx
  have HBX := hid hbx
  clear hbx
  generalize hM : w.heap.size + 1 + p0.os.size = M at *
  clear hM
  obtain ⟨q0, q1, q2, q3, q4, q5, q6⟩ := HBX.out _ (Ext.refl _)
  have m0 := more_cell q0
  have m1 := more_cell q1
  have m2 := more_cell q2
  have m3 := more_cell q3
  have n0 := numB_length s.conf.frame
  have n1 := numB_length s.conf.epoch
  have n2 := numB_length s.conf.plans.length
  have n3 := numB_length s.conf.doms.length
  ((first | refine wp_region_more (by kernel_rfl) (by kernel_rfl) ?_ | refine wp_region_ext (by kernel_rfl) (by kernel_rfl) ?_); (try dsimp only [append_cons', append_nil']); (repeat (go_big_quiet_step ((go_at_call 36; with_reducible refine Calls.more_of (fnum_any _ _))))); refine wpQuiet_nil ?_; rintro _ ⟨pq, rfl⟩)
  go_wp2_with fail
  go_loopw [4, 5] (fun v4 v5 wr => Ext W1 wr ∧ ∃ (k : Nat) (pre : List UInt8), v4 = .string (str pre) ∧ v5 = .int .i64 k ∧ k ≤ s.conf.plans.length ∧ pre.length ≤ 40000 ∧ Hid (pre = headBytes s.conf ++ plansBytes (s.conf.plans.take k))) (fun _ v5 _ => (s.conf.plans.length - intOf v5).toNat)
  case atStart =>
    refine ⟨ext_more _ _, 0, headBytes s.conf, ?_, rfl, by omega, ?_, ?_⟩
    · simp only [headBytes, List.append_assoc]
    · have := HB.out; omega
    · simp [plansBytes, Hid]
  case round =>
    clear q0 q1 q2 q3 q4 q5 q6 m0 m1 m2 m3
    obtain ⟨hx, k, pre, rfl, rfl, hk, hp, ht⟩ := hrel
    obtain ⟨q0, q1, q2, q3, q4, q5, q6⟩ := HBX.out _ hx
    have hw := hx0.trans hx
    have hbs : M < wr.heap.size := World.block_lt_of_cell? _ _ q0
    by_cases hlt : k < s.conf.plans.length
    · obtain ⟨rb, ro, rfl, rv, r0, rn⟩ := HC.out.conf.plans.at k hlt
      obtain ⟨rp, rc, rfl, hrr1, hrr2⟩ := rn.shape
      unfold maxLen at hrr2
      simp only [Nat.mul_one] at r0
      have RN := hid rn
      have R0 := hid r0
      have hT := hid (take_flat (fun p : List Int => p.flatMap numB) hlt)
      have hTL := hid (flat_take_le (fun p : List Int => p.flatMap numB) s.conf.plans (k + 1))
      have i1 : (k : Int) < s.conf.plans.length := by omega
      clear r0 rn
      generalize s.conf.plans[k] = row at *
      go_wp2_with fail
      go_loopw [4, 6] (fun v4 v6 wr => Ext W1 wr ∧ ∃ (j : Nat) (pre' : List UInt8), v4 = .string (str pre') ∧ v6 = .int .i64 j ∧ j ≤ row.length ∧ pre'.length ≤ 40000 ∧ Hid (pre' = pre ++ (row.take j).flatMap numB)) (fun _ v6 _ => (row.length - intOf v6).toNat)
      case atStart => exact ⟨hx, 0, pre, rfl, rfl, by omega, hp, by simp [Hid]⟩
      case round =>
        clear q0 q1 q2 q3 q4 q5 q6 hbs hw hx
        obtain ⟨hx, j, pre', rfl, rfl, hj, hp', ht'⟩ := hrel
        obtain ⟨q0, q1, q2, q3, q4, q5, q6⟩ := HBX.out _ hx
        have hw := hx0.trans hx
        have hbs : M < wr.heap.size := World.block_lt_of_cell? _ _ q0
        have c0 := hw.cell R0.out
        have hrb : rb < wr.heap.size := World.block_lt_of_cell? _ _ c0
        by_cases hjl : j < row.length
        · obtain ⟨eb, eo, rfl, s0, _⟩ := RN.out.at j hjl
          simp only [Nat.mul_one] at s0
          have c1 := hw.cell s0
          have heb : eb < wr.heap.size := World.block_lt_of_cell? _ _ c1
          have hTj := hid (take_flat numB hjl)
          have hTLj := hid (flat_take_le numB row (j + 1))
          generalize row[j] = x at *
          have i2 : (j : Int) < row.length := by omega
          have hlen : (numB x).length ≤ 3 := numB_length x
          have hsum : pre'.length + (numB x).length ≤ 40003 := by omega
          clear s0
          go_wp2_with (go_at_call 36; (with_reducible refine (fnum_any _ _).yields ?_); intro p1)
          go_roundw
          case rel =>
            refine ⟨(by repeat (first | exact Ext.refl _ | assumption | refine Ext.more ?_ _ | refine Ext.drew ?_ | refine Ext.drewN ?_ _ | refine Ext.alloc ?_ _ | refine Ext.setCell ?_ (by simp; try omega) _ | refine Ext.trans ?_ (by assumption))), j + 1, pre' ++ numB x, rfl, by go_num, by omega, ?_, ?_⟩
            · have e1 := congrArg List.length (hTj.out)
              have e2 := congrArg List.length (hT.out)
              have e3 := congrArg List.length ht'.out
              have e4 := congrArg List.length ht.out
              have e5 := hTL.out
              have e6 := hTLj.out
              have e7 := HB.out
              simp only [List.length_append, plansBytes] at e1 e2 e3 e4 e7 ⊢
              omega
            · unfold Hid
              rw [hTj.out, ht'.out, List.append_assoc]
          case measure => simp [intOf]; omega
        · obtain rfl : j = row.length := by omega
          have he := ht'.out
          rw [List.take_length] at he
          have HE := hid he
          clear he
          go_wp2
          go_roundw
          case rel =>
            refine ⟨hx, k + 1, pre', rfl, by go_num, by omega, hp', ?_⟩
            unfold Hid plansBytes
            rw [hT.out, HE.out, ht.out, List.append_assoc]
            rfl
          case measure => simp [intOf]; omega
    · obtain rfl : k = s.conf.plans.length := by omega
      have he := ht.out
      rw [List.take_length] at he
      have HE := hid he
      clear he ht
      go_wp2_with fail
      go_loopw [4, 7] (fun v4 v7 wr => Ext W1 wr ∧ ∃ (k : Nat) (pre : List UInt8), v4 = .string (str pre) ∧ v7 = .int .i64 k ∧ k ≤ s.conf.doms.length ∧ pre.length ≤ 40000 ∧ Hid (pre = headBytes s.conf ++ plansBytes s.conf.plans ++ (s.conf.doms.take k).flatMap domBytes)) (fun _ v7 _ => (s.conf.doms.length - intOf v7).toNat)
      case atStart => exact ⟨hx, 0, pre, rfl, rfl, by omega, by have e1 := congrArg List.length HE.out; have e7 := HB.out; simp only [List.length_append] at e1; omega, by simp [Hid, HE.out]⟩
      case round =>
        clear q0 q1 q2 q3 q4 q5 q6 hbs hw hx HE hp
        obtain ⟨hx, k, pre, rfl, rfl, hk, hp, ht⟩ := hrel
        obtain ⟨q0, q1, q2, q3, q4, q5, q6⟩ := HBX.out _ hx
        have hw := hx0.trans hx
        have hbs : M < wr.heap.size := World.block_lt_of_cell? _ _ q0
        by_cases hlt : k < s.conf.doms.length
        · obtain ⟨db, doff, rfl, vr, ve, D, DR, DE, hcat, -⟩ := HC.out.conf.doms.at k hlt
          obtain ⟨rp, rc, rfl, hrr1, hrr2⟩ := DR.shape
          obtain ⟨ep, ec, rfl, -, -⟩ := DE.shape
          unfold maxLen at hrr2
          have HD := hid (HI.out.dom _ (List.getElem_mem hlt))
          have D' := D.ext hw
          have DRh := hid DR
          have DEh := hid DE
          have hT := hid (take_flat domBytes hlt)
          have hTL := hid (flat_take_le domBytes s.conf.doms (k + 1))
          have i1 : (k : Int) < s.conf.doms.length := by omega
          clear D DR DE
          generalize s.conf.doms[k] = d at *
          obtain ⟨c0, c1, c2, c3, c4, c5, c6, c7, c8, c9⟩ := D'
          have hdb : db < wr.heap.size := World.block_lt_of_cell? _ _ c0
          go_wp2_with fail
          have hdx := fun (w' : World) (h : Ext (wr.alloc (.cells #[.int .i64 d.level, .int .u64 d.cats, .slice rp d.routes.length rc, .slice ep d.release.length ec, .int .i64 d.to, .int .i64 d.threads, .int .i64 d.groups, .int .i64 d.ring, .int .i64 d.sends, .int .i64 d.box] 77 (0, 0))) w') => And.intro (box_cells h 0 (by simp)) (And.intro (box_cells h 1 (by simp)) (And.intro (box_cells h 2 (by simp)) (And.intro (box_cells h 3 (by simp)) (And.intro (box_cells h 4 (by simp)) (And.intro (box_cells h 5 (by simp)) (And.intro (box_cells h 6 (by simp)) (And.intro (box_cells h 7 (by simp)) (And.intro (box_cells h 8 (by simp)) (box_cells h 9 (by simp))))))))))
          have hy0 : Ext W1 (wr.alloc (.cells #[.int .i64 d.level, .int .u64 d.cats, .slice rp d.routes.length rc, .slice ep d.release.length ec, .int .i64 d.to, .int .i64 d.threads, .int .i64 d.groups, .int .i64 d.ring, .int .i64 d.sends, .int .i64 d.box] 77 (0, 0))) := hx.alloc _
          have hsz2 : wr.heap.size < (wr.alloc (.cells #[.int .i64 d.level, .int .u64 d.cats, .slice rp d.routes.length rc, .slice ep d.release.length ec, .int .i64 d.to, .int .i64 d.threads, .int .i64 d.groups, .int .i64 d.ring, .int .i64 d.sends, .int .i64 d.box] 77 (0, 0))).heap.size := by simp
          generalize (wr.alloc (.cells #[.int .i64 d.level, .int .u64 d.cats, .slice rp d.routes.length rc, .slice ep d.release.length ec, .int .i64 d.to, .int .i64 d.threads, .int .i64 d.groups, .int .i64 d.ring, .int .i64 d.sends, .int .i64 d.box] 77 (0, 0))) = W2 at *
          simp only [List.getElem?_toArray, List.getElem?_cons_succ, List.getElem?_cons_zero] at hdx
          generalize wr.heap.size = N at *
          have HDX := hid hdx
          clear hdx c0 c1 c2 c3 c4 c5 c6 c7 c8 c9 q0 q1 q2 q3 q4 q5 q6 hbs hw hx hdb
          obtain ⟨d0, d1, d2, d3, d4, d5, d6, d7, d8, d9⟩ := HDX.out _ (Ext.refl _)
          have m0 := more_cell d0
          have m1 := more_cell d1
          have m2 := more_cell d2
          have g0 := numB_length d.level
          have g1 := bitsB_length d.cats
          have g2 := numB_length d.routes.length
          ((first | refine wp_region_more (by kernel_rfl) (by kernel_rfl) ?_ | refine wp_region_ext (by kernel_rfl) (by kernel_rfl) ?_); (try dsimp only [append_cons', append_nil']); (repeat (go_big_quiet_step ((first | (go_at_call 36; with_reducible refine Calls.more_of (fnum_any _ _)) | (go_at_call 37; with_reducible refine Calls.more_of (fbits_any _ hcat _)))))); refine wpQuiet_nil ?_; rintro _ ⟨pq, rfl⟩)
          go_wp2_with fail
          have HCAT := hid hcat
          clear hcat d0 d1 d2 d3 d4 d5 d6 d7 d8 d9 m0 m1 m2
          go_loopw [4, 9] (fun v4 v9 wr => Ext W2 wr ∧ ∃ (j : Nat) (pre' : List UInt8), v4 = .string (str pre') ∧ v9 = .int .i64 j ∧ j ≤ d.routes.length ∧ pre'.length ≤ 40000 ∧ Hid (pre' = pre ++ (numB d.level ++ (bitsB d.cats ++ numB d.routes.length)) ++ (d.routes.take j).flatMap rowB)) (fun _ v9 _ => (d.routes.length - intOf v9).toNat)
          case atStart =>
            refine ⟨ext_more _ _, 0, _, rfl, rfl, by omega, ?_, by simp [Hid]⟩
            have e2 := congrArg List.length (hT.out)
            have e4 := congrArg List.length ht.out
            have e5 := hTL.out
            have e7 := HB.out
            simp only [List.length_append, domBytes] at e2 e4 e5 e7 ⊢
            omega
          case round =>
            obtain ⟨hx, j, pre', rfl, rfl, hj, hp', ht'⟩ := hrel
            obtain ⟨d0, d1, d2, d3, d4, d5, d6, d7, d8, d9⟩ := HDX.out _ hx
            have hN : N < wr.heap.size := World.block_lt_of_cell? _ _ d0
            have hw := (hx0.trans hy0).trans hx
            by_cases hjl : j < d.routes.length
            · obtain ⟨eb, eo, rfl, sv, s0, sn⟩ := DRh.out.at j hjl
              obtain ⟨sp, sc, rfl, -, -⟩ := sn.shape
              simp only [Nat.mul_one] at s0
              have f1 := hw.cell s0
              have heb : eb < wr.heap.size := World.block_lt_of_cell? _ _ f1
              have SN := hid (sn.ext hw)
              have hTj := hid (take_flat rowB hjl)
              have hTLj := hid (flat_take_le rowB d.routes (j + 1))
              have h300 : d.routes[j].length ≤ 300 := (HD.out.route _ (List.getElem_mem hjl)).1
              clear s0 sn
              generalize d.routes[j] = r at *
              have i2 : (j : Int) < d.routes.length := by omega
              have hlen : (rowB r).length ≤ 903 := by have := rowB_length h300; omega
              have hsum : pre'.length + (rowB r).length ≤ 40903 := by omega
              go_wp2_with (go_at_call 38; (with_reducible refine (rrow_any _ _ _ (SN.out.ext (by repeat (first | exact Ext.refl _ | assumption | refine Ext.more ?_ _ | refine Ext.drew ?_ | refine Ext.drewN ?_ _ | refine Ext.alloc ?_ _ | refine Ext.setCell ?_ (by simp; try omega) _ | refine Ext.trans ?_ (by assumption)))) (by omega)).yields ?_); intro p1)
              go_roundw
              case rel =>
                refine ⟨(by repeat (first | exact Ext.refl _ | assumption | refine Ext.more ?_ _ | refine Ext.drew ?_ | refine Ext.drewN ?_ _ | refine Ext.alloc ?_ _ | refine Ext.setCell ?_ (by simp; try omega) _ | refine Ext.trans ?_ (by assumption))), j + 1, pre' ++ rowB r, rfl, by go_num, by omega, ?_, ?_⟩
                · have e1 := congrArg List.length (hTj.out)
                  have e2 := congrArg List.length (hT.out)
                  have e3 := congrArg List.length ht'.out
                  have e4 := congrArg List.length ht.out
                  have e5 := hTL.out
                  have e6 := hTLj.out
                  have e7 := HB.out
                  simp only [List.length_append, domBytes] at e1 e2 e3 e4 e7 ⊢
                  omega
                · unfold Hid
                  rw [hTj.out, ht'.out]
                  simp only [List.append_assoc]
              case measure => simp [intOf]; omega
            · obtain rfl : j = d.routes.length := by omega
              have he := ht'.out
              rw [List.take_length] at he
              have HE := hid he
              clear he
              have m0 := more_cell d0
              have m3 := more_cell d3
              have m4 := more_cell d4
              have m5 := more_cell d5
              have m6 := more_cell d6
              have m7 := more_cell d7
              have m8 := more_cell d8
              have m9 := more_cell d9
              have DEx := hid (DEh.out.ext hw)
              have HREL := hid HD.out.release.1
              have hrel4 : (rowB d.release).length ≤ 15 := by have := rowB_length HREL.out; omega
              have k3 := numB_length d.to
              have k4 := numB_length d.threads
              have k5 := numB_length d.groups
              have k6 := numB_length d.ring
              have k7 := numB_length d.sends
              have k8 := numB_length d.box
              go_wp2_with fail
              ((first | refine wp_region_more (by kernel_rfl) (by kernel_rfl) ?_ | refine wp_region_ext (by kernel_rfl) (by kernel_rfl) ?_); (try dsimp only [append_cons', append_nil']); (repeat (go_big_quiet_step ((first | (go_at_call 36; with_reducible refine Calls.more_of (fnum_any _ _)) | (go_at_call 38; with_reducible refine Calls.more_of (rrow_any _ _ _ (DEx.out.ext (ext_more _ _)) (by have := HREL.out; omega))))))); refine wpQuiet_nil ?_; rintro _ ⟨pq, rfl⟩)
              go_wp2_with fail
              go_roundw
              case rel =>
                refine ⟨((hy0.trans hx).trans (ext_more _ _)), k + 1, _, rfl, by go_num, by omega, ?_, ?_⟩
                · have e2 := congrArg List.length (hT.out)
                  have e3 := congrArg List.length HE.out
                  have e4 := congrArg List.length ht.out
                  have e5 := hTL.out
                  have e7 := HB.out
                  simp only [List.length_append, domBytes] at e2 e3 e4 e5 e7 ⊢
                  omega
                · unfold Hid
                  rw [hT.out, HE.out, ht.out]
                  simp only [List.append_assoc, domBytes]
              case measure => simp [intOf]; omega
        · obtain rfl : k = s.conf.doms.length := by omega
          have he := ht.out
          rw [List.take_length] at he
          have HE := hid he
          clear he ht
          have nh := numB_length s.horizon
          have hsum : pre.length + (numB s.horizon).length ≤ 40003 := by omega
          have hbs2 : w.heap.size < wr.heap.size := World.block_lt_of_cell? _ _ q4
          go_wp2_with (go_at_call 36; (with_reducible refine (fnum_any _ _).yields ?_); intro p1)
          clear q0 q1 q2 q3 q4 q5 q6 hbs hbs2
          go_loopw [4, 10] (fun v4 vi wr => Ext W1 wr ∧ ∃ (k : Nat) (pre : List UInt8), v4 = .string (str pre) ∧ vi = .int .i64 k ∧ k ≤ s.streams.length ∧ pre.length ≤ 40000 ∧ Hid (pre = (headBytes s.conf ++ plansBytes s.conf.plans ++ s.conf.doms.flatMap domBytes ++ numB s.horizon) ++ (s.streams.take k).flatMap streamBytes)) (fun _ vi _ => (s.streams.length - intOf vi).toNat)
          case atStart => 
            refine ⟨hx.trans (ext_more _ _), 0, _, rfl, rfl, by omega, ?_, by simp [Hid, HE.out]⟩
            have e1 := congrArg List.length HE.out
            have e7 := HB.out
            simp only [List.length_append] at e1 ⊢
            omega
          case round =>
            clear hx hw
            obtain ⟨hx, k, pre, rfl, rfl, hk, hp, ht⟩ := hrel
            obtain ⟨-, -, -, -, q4, q5, q6⟩ := HBX.out _ hx
            have hw := hx0.trans hx
            have hbs : w.heap.size < wr.heap.size := World.block_lt_of_cell? _ _ q5
            by_cases hlt : k < s.streams.length
            · obtain ⟨rb, ro, rfl, rv, r0, rn⟩ := HC.out.streams.at k hlt
              obtain ⟨rp, rc, rfl, hrr1, hrr2⟩ := rn.shape
              unfold maxLen at hrr2
              simp only [Nat.mul_one] at r0
              have RN := hid rn
              have R0 := hid r0
              have e0 := hw.cell r0
              have hrb : rb < wr.heap.size := World.block_lt_of_cell? _ _ e0
              have hT := hid (take_flat streamBytes hlt)
              have hTL := hid (flat_take_le streamBytes s.streams (k + 1))
              have i1 : (k : Int) < s.streams.length := by omega
              clear r0 rn
              generalize s.streams[k] = row at *
              have n0 := numB_length row.length
              have hsum : pre.length + (numB (row.length : Int)).length ≤ 40003 := by omega
              go_wp2_with (go_at_call 36; (with_reducible refine (fnum_any _ _).yields ?_); intro p1)
              have hE := hid (show pre ++ numB row.length = pre ++ numB row.length from rfl)
              go_loopw [4, 11] (fun v4 vj wr => Ext W1 wr ∧ ∃ (j : Nat) (pre' : List UInt8), v4 = .string (str pre') ∧ vj = .int .i64 j ∧ j ≤ row.length ∧ pre'.length ≤ 40000 ∧ Hid (pre' = pre ++ numB row.length ++ (row.take j).flatMap axnBytes)) (fun _ vj _ => (row.length - intOf vj).toNat)
              case atStart =>
                refine ⟨hx.trans (ext_more _ _), 0, _, rfl, rfl, by omega, ?_, by simp [Hid]⟩
                have e2 := congrArg List.length (hT.out)
                have e4 := congrArg List.length ht.out
                have e5 := hTL.out
                have e7 := HB.out
                simp only [List.length_append, streamBytes] at e2 e4 e5 e7 ⊢
                omega
              case round =>
                clear hx hw hbs q4 q5 q6 e0 hrb
                obtain ⟨hx, j, pre', rfl, rfl, hj, hp', ht'⟩ := hrel
                obtain ⟨-, -, -, -, q4, q5, q6⟩ := HBX.out _ hx
                have hw := hx0.trans hx
                have hbs : w.heap.size < wr.heap.size := World.block_lt_of_cell? _ _ q5
                have e0 := hw.cell R0.out
                have hrb : rb < wr.heap.size := World.block_lt_of_cell? _ _ e0
                by_cases hjl : j < row.length
                · obtain ⟨eb, eo, rfl, s0, s1, s2⟩ := RN.out.at j hjl
                  have f0 := hw.cell s0
                  have f1 := hw.cell s1
                  have f2 := hw.cell s2
                  have heb : eb < wr.heap.size := World.block_lt_of_cell? _ _ f0
                  have hTj := hid (take_flat axnBytes hjl)
                  have hTLj := hid (flat_take_le axnBytes row (j + 1))
                  clear s0 s1 s2
                  generalize row[j] = x at *
                  have i2 : (j : Int) < row.length := by omega
                  have k0 := numB_length x.op
                  have k1 := numB_length x.a
                  have k2 := numB_length x.b
                  go_wp2_with fail
                  have z0 := box_cells (w := wr) (cs := #[.int .i64 x.op, .int .i64 x.a, .int .i64 x.b]) (T := 41) (Ext.refl _) 0 (by simp)
                  have z1 := box_cells (w := wr) (cs := #[.int .i64 x.op, .int .i64 x.a, .int .i64 x.b]) (T := 41) (Ext.refl _) 1 (by simp)
                  have z2 := box_cells (w := wr) (cs := #[.int .i64 x.op, .int .i64 x.a, .int .i64 x.b]) (T := 41) (Ext.refl _) 2 (by simp)
                  have hy : Ext W1 (wr.alloc (.cells #[.int .i64 x.op, .int .i64 x.a, .int .i64 x.b] 41 (0, 0))) := hx.alloc _
                  generalize (wr.alloc (.cells #[.int .i64 x.op, .int .i64 x.a, .int .i64 x.b] 41 (0, 0))) = W3 at *
                  simp only [List.getElem?_toArray, List.getElem?_cons_succ, List.getElem?_cons_zero] at z0 z1 z2
                  have m0 := more_cell z0
                  have m1 := more_cell z1
                  have m2 := more_cell z2
                  ((first | refine wp_region_more (by kernel_rfl) (by kernel_rfl) ?_ | refine wp_region_ext (by kernel_rfl) (by kernel_rfl) ?_); (try dsimp only [append_cons', append_nil']); (repeat (go_big_quiet_step ((go_at_call 36; with_reducible refine Calls.more_of (fnum_any _ _))))); refine wpQuiet_nil ?_; rintro _ ⟨pq, rfl⟩)
                  go_wp2_with fail
                  go_roundw
                  case rel =>
                    refine ⟨hy.trans (ext_more _ _), j + 1, _, rfl, by go_num, by omega, ?_, ?_⟩
                    · have e1 := congrArg List.length (hTj.out)
                      have e2 := congrArg List.length (hT.out)
                      have e3 := congrArg List.length ht'.out
                      have e4 := congrArg List.length ht.out
                      have e5 := hTL.out
                      have e6 := hTLj.out
                      have e7 := HB.out
                      simp only [List.length_append, streamBytes, axnBytes] at e1 e2 e3 e4 e5 e6 e7 ⊢
                      omega
                    · unfold Hid
                      rw [hTj.out, ht'.out]
                      simp only [List.append_assoc, axnBytes]
                  case measure => simp [intOf]; omega
                · obtain rfl : j = row.length := by omega
                  have he := ht'.out
                  rw [List.take_length] at he
                  have HE := hid he
                  clear he
                  go_wp2_with fail
                  go_roundw
                  case rel =>
                    refine ⟨hx, k + 1, pre', rfl, by go_num, by omega, hp', ?_⟩
                    unfold Hid
                    rw [hT.out, HE.out, ht.out]
                    simp only [List.append_assoc, streamBytes]
                  case measure => simp [intOf]; omega
            · obtain rfl : k = s.streams.length := by omega
              have he := ht.out
              rw [List.take_length] at he
              have HE := hid he
              clear he ht
              go_wp2_with fail
              clear q4 q5 q6 hbs
              go_loopw [4, 13] (fun v4 vi wr => Ext W1 wr ∧ ∃ (k : Nat) (pre : List UInt8), v4 = .string (str pre) ∧ vi = .int .i64 k ∧ k ≤ s.arrivals.length ∧ pre.length ≤ 40000 ∧ Hid (pre = ((headBytes s.conf ++ plansBytes s.conf.plans ++ s.conf.doms.flatMap domBytes ++ numB s.horizon) ++ s.streams.flatMap streamBytes) ++ (s.arrivals.take k).flatMap arrBytes)) (fun _ vi _ => (s.arrivals.length - intOf vi).toNat)
              case atStart => 
                refine ⟨hx, 0, pre, rfl, rfl, by omega, hp, by simp [Hid, HE.out]⟩
              case round =>
                clear hx hw
                obtain ⟨hx, k, pre, rfl, rfl, hk, hp, ht⟩ := hrel
                obtain ⟨-, -, -, -, q4, q5, q6⟩ := HBX.out _ hx
                have hw := hx0.trans hx
                have hbs : w.heap.size < wr.heap.size := World.block_lt_of_cell? _ _ q6
                by_cases hlt : k < s.arrivals.length
                · obtain ⟨rb, ro, rfl, rv, r0, rn⟩ := HC.out.arrivals.at k hlt
                  obtain ⟨rp, rc, rfl, hrr1, hrr2⟩ := rn.shape
                  unfold maxLen at hrr2
                  simp only [Nat.mul_one] at r0
                  have RN := hid rn
                  have R0 := hid r0
                  have e0 := hw.cell r0
                  have hrb : rb < wr.heap.size := World.block_lt_of_cell? _ _ e0
                  have hT := hid (take_flat arrBytes hlt)
                  have hTL := hid (flat_take_le arrBytes s.arrivals (k + 1))
                  have i1 : (k : Int) < s.arrivals.length := by omega
                  clear r0 rn
                  generalize s.arrivals[k] = row at *
                  have n0 := numB_length row.length
                  have hsum : pre.length + (numB (row.length : Int)).length ≤ 40003 := by omega
                  go_wp2_with (go_at_call 36; (with_reducible refine (fnum_any _ _).yields ?_); intro p1)
                  have hE := hid (show pre ++ numB row.length = pre ++ numB row.length from rfl)
                  go_loopw [4, 14] (fun v4 vj wr => Ext W1 wr ∧ ∃ (j : Nat) (pre' : List UInt8), v4 = .string (str pre') ∧ vj = .int .i64 j ∧ j ≤ row.length ∧ pre'.length ≤ 40000 ∧ Hid (pre' = pre ++ numB row.length ++ (row.take j).flatMap arvBytes)) (fun _ vj _ => (row.length - intOf vj).toNat)
                  case atStart =>
                    refine ⟨hx.trans (ext_more _ _), 0, _, rfl, rfl, by omega, ?_, by simp [Hid]⟩
                    have e2 := congrArg List.length (hT.out)
                    have e4 := congrArg List.length ht.out
                    have e5 := hTL.out
                    have e7 := HB.out
                    simp only [List.length_append, arrBytes] at e2 e4 e5 e7 ⊢
                    omega
                  case round =>
                    clear hx hw hbs q4 q5 q6 e0 hrb
                    obtain ⟨hx, j, pre', rfl, rfl, hj, hp', ht'⟩ := hrel
                    obtain ⟨-, -, -, -, q4, q5, q6⟩ := HBX.out _ hx
                    have hw := hx0.trans hx
                    have hbs : w.heap.size < wr.heap.size := World.block_lt_of_cell? _ _ q6
                    have e0 := hw.cell R0.out
                    have hrb : rb < wr.heap.size := World.block_lt_of_cell? _ _ e0
                    by_cases hjl : j < row.length
                    · obtain ⟨eb, eo, rfl, s0, s1⟩ := RN.out.at j hjl
                      have f0 := hw.cell s0
                      have f1 := hw.cell s1
                      have heb : eb < wr.heap.size := World.block_lt_of_cell? _ _ f0
                      have hTj := hid (take_flat arvBytes hjl)
                      have hTLj := hid (flat_take_le arvBytes row (j + 1))
                      clear s0 s1
                      generalize row[j] = x at *
                      have i2 : (j : Int) < row.length := by omega
                      have k0 := numB_length x.tick
                      have k1 := numB_length x.obj
                      have m0 := more_cell q6
                      have m1 := more_cell e0
                      have m2 := more_cell f0
                      have m3 := more_cell f1
                      go_wp2_with fail
                      ((first | refine wp_region_more (by kernel_rfl) (by kernel_rfl) ?_ | refine wp_region_ext (by kernel_rfl) (by kernel_rfl) ?_); (try dsimp only [append_cons', append_nil']); (repeat (go_big_quiet_step ((go_at_call 36; with_reducible refine Calls.more_of (fnum_any _ _))))); refine wpQuiet_nil ?_; rintro _ ⟨pq, rfl⟩)
                      go_wp2_with fail
                      go_roundw
                      case rel =>
                        refine ⟨hx.trans (ext_more _ _), j + 1, _, rfl, by go_num, by omega, ?_, ?_⟩
                        · have e1 := congrArg List.length (hTj.out)
                          have e2 := congrArg List.length (hT.out)
                          have e3 := congrArg List.length ht'.out
                          have e4 := congrArg List.length ht.out
                          have e5 := hTL.out
                          have e6 := hTLj.out
                          have e7 := HB.out
                          simp only [List.length_append, arrBytes, arvBytes] at e1 e2 e3 e4 e5 e6 e7 ⊢
                          omega
                        · unfold Hid
                          rw [hTj.out, ht'.out]
                          simp only [List.append_assoc, arvBytes]
                      case measure => simp [intOf]; omega
                    · obtain rfl : j = row.length := by omega
                      have he := ht'.out
                      rw [List.take_length] at he
                      have HE := hid he
                      clear he
                      go_wp2_with fail
                      go_roundw
                      case rel =>
                        refine ⟨hx, k + 1, pre', rfl, by go_num, by omega, hp', ?_⟩
                        unfold Hid
                        rw [hT.out, HE.out, ht.out]
                        simp only [List.append_assoc, arrBytes]
                      case measure => simp [intOf]; omega
                · obtain rfl : k = s.arrivals.length := by omega
                  have he := ht.out
                  rw [List.take_length] at he
                  have HE := hid he
                  clear he ht
                  go_wp2
                  go_returns
                  exact ⟨by rw [HE.out]; simp [allBytes, confBytes, List.append_assoc], hw⟩
theorem rBytes_any (w : World) (s : Scr) (pv dv sv av : Value) (hc : ScrV w s pv dv sv av) (hr : ∀ d ∈ s.conf.doms, ∀ r ∈ d.routes, r.length ≤ 300) (hi : isScr s = 0 → CnfIn s.conf) (hb : isScr s = 0 → (allBytes s).length ≤ 40000) :
    Calls Tryz.prog 12 #[scrV s pv dv sv av] w (Yields w (.string (str (scrBytes s)))) := by
  cases h : isScr s with
  | zero => rw [scrBytes_ok h]; exact rBytes_good w s pv dv sv av hc (hi h) h (hb h)
  | succ n => rw [scrBytes_bad (by omega)]; exact rBytes_bad w s pv dv sv av hc hr h
end Go.Proofs.YtbllibgddiiboaaGreatDoor

namespace Go.Proofs.YtbllibgddiiboaaGreatDoor
open Go.RowKit Go.Extern.Stop Go.Stop Go.Extern

namespace As
/-- reflectlite's Value of a pointer to an api.Errno, of an api.Errno, of what such a pointer leads to. -/
abbrev vPtr (x : Addr) : Value := .agg #[.pointer (some ⟨1, 52, none⟩), .pointer (some x), .int .u64 150]
abbrev vErr (x : Addr) : Value := .agg #[.pointer (some ⟨1, 49, none⟩), .pointer (some x), .int .u64 130]
abbrev vDst (x : Addr) : Value := .agg #[.pointer (some ⟨1, 49, none⟩), .pointer (some x), .int .u64 386]
abbrev tPtr : Value := .iface 127 (.agg #[.pointer (some ⟨1, 52, none⟩)])
abbrev tErr : Value := .iface 127 (.agg #[.pointer (some ⟨1, 49, none⟩)])
abbrev tAny : Value := .iface 127 (.agg #[.pointer (some ⟨1, 34, none⟩)])

theorem valueOfPtr (a : Addr) (w : World) : (callFunc 46 #[.iface 52 (.pointer (some a))]).run Tryz.prog w = .ok (.value (vPtr ⟨w.heap.size, 0, none⟩)) (w.alloc (.cells #[.pointer (some a)] 52)) := by kernel_rfl
theorem valueOfErr (n : Int) (w : World) : (callFunc 46 #[.iface 49 (.int .i64 n)]).run Tryz.prog w = .ok (.value (vErr ⟨w.heap.size, 0, none⟩)) (w.alloc (.cells #[.int .i64 n] 49)) := by kernel_rfl
theorem typeOf (n : Int) (w : World) : (callFunc 44 #[.iface 49 (.int .i64 n)]).run Tryz.prog w = .ok (.value tErr) w := by kernel_rfl
theorem valueType (x : Addr) (w : World) : (callFunc 47 #[vPtr x]).run Tryz.prog w = .ok (.value tPtr) w := by kernel_rfl
theorem kindPtr (w : World) : (callFunc 123 #[.pointer (some ⟨1, 52, none⟩)]).run Tryz.prog w = .ok (.value (.int .u8 22)) w := by kernel_rfl
theorem kindErr (w : World) : (callFunc 123 #[.pointer (some ⟨1, 49, none⟩)]).run Tryz.prog w = .ok (.value (.int .u8 2)) w := by kernel_rfl
theorem typeElem (w : World) : (callFunc 133 #[.agg #[.pointer (some ⟨1, 52, none⟩)]]).run Tryz.prog w = .ok (.value tErr) w := by kernel_rfl
theorem implements (w : World) : (callFunc 134 #[.agg #[.pointer (some ⟨1, 49, none⟩)], tAny]).run Tryz.prog w = .ok (.value (.bool true)) w := by kernel_rfl
theorem assignable (w : World) : (callFunc 131 #[.agg #[.pointer (some ⟨1, 49, none⟩)], tErr]).run Tryz.prog w = .ok (.value (.bool true)) w := by kernel_rfl

theorem loadPtr {a x : Addr} {w : World} (hc : w.cell? x = some (.pointer (some a))) : (loadVar 52 x).run Tryz.prog w = .ok (.pointer (some a)) w := by
  have h : (isAgg 52).run Tryz.prog w = .ok false w := by kernel_rfl
  simp [loadVar, h, go_sem, hc]
theorem loadErr {n : Int} {x : Addr} {w : World} (hc : w.cell? x = some (.int .i64 n)) : (loadVar 49 x).run Tryz.prog w = .ok (.int .i64 n) w := by
  have h : (isAgg 49).run Tryz.prog w = .ok false w := by kernel_rfl
  simp [loadVar, h, go_sem, hc]
theorem partsPtr (x : Addr) (w : World) : (ReflectliteValue.parts (vPtr x)).run Tryz.prog w = .ok (some (52, x, 150)) w := by kernel_rfl
theorem partsErr (x : Addr) (w : World) : (ReflectliteValue.parts (vErr x)).run Tryz.prog w = .ok (some (49, x, 130)) w := by kernel_rfl
theorem partsDst (x : Addr) (w : World) : (ReflectliteValue.parts (vDst x)).run Tryz.prog w = .ok (some (49, x, 386)) w := by kernel_rfl

theorem method_run {Z : Sem Value} {f : TypeId → Addr → Nat → Nat → Sem Value} {v : Value} {t : TypeId} {a : Addr} {fl : Nat} {w : World} (h : (ReflectliteValue.parts v).run Tryz.prog w = .ok (some (t, a, fl)) w) :
    (ReflectliteValue.method Z f #[v]).run Tryz.prog w = (f t a fl (fl % 32)).run Tryz.prog w := by
  show (ReflectliteValue.parts v >>= fun r => match r with | none => Z | some (t, a, fl) => f t a fl (fl % 32)).run Tryz.prog w = _
  simp only [Sem.run_bind, h, Result.andThen_ok]

theorem isNil {a x : Addr} {w : World} (hc : w.cell? x = some (.pointer (some a))) : (callFunc 48 #[vPtr x]).run Tryz.prog w = .ok (.value (.bool false)) w := by
  rw [@run_callFunc_extern Tryz.prog 48 _ (ReflectliteValue.method (ReflectliteValue.valueError "reflectlite.Value.IsNil" 0) ReflectliteValue.isNil) Tryz.func48 (by kernel_rfl) (by kernel_rfl) (by kernel_rfl) (by kernel_rfl)]
  rw [method_run (partsPtr x w)]
  simp [ReflectliteValue.isNil, hc, go_sem]
theorem elemOf (w : World) : (Extern.Rtype.elem? 52).run Tryz.prog w = .ok (some 49) w := by kernel_rfl
theorem mkDst (a : Addr) (w : World) : (ReflectliteValue.mk 49 a 256).run Tryz.prog w = .ok (vDst a) w := by kernel_rfl
theorem elem {a x : Addr} {w : World} (hc : w.cell? x = some (.pointer (some a))) : (callFunc 78 #[vPtr x]).run Tryz.prog w = .ok (.value (vDst a)) w := by
  rw [@run_callFunc_extern Tryz.prog 78 _ (ReflectliteValue.method (ReflectliteValue.valueError "reflectlite.Value.Elem" 0) ReflectliteValue.elem) Tryz.func78 (by kernel_rfl) (by kernel_rfl) (by kernel_rfl) (by kernel_rfl)]
  rw [method_run (partsPtr x w)]
  simp [ReflectliteValue.elem, hc, elemOf, mkDst, ReflectliteValue.flagAddr, go_sem]
theorem direct (w : World) : (Extern.Rtype.directlyAssignable 49 49).run Tryz.prog w = .ok true w := by kernel_rfl
theorem storeErr {n m : Int} {a : Addr} {w : World} (hc : w.cell? a = some (.int .i64 m)) (hf : w.frozen? a = false) : (storeVar 49 a (.int .i64 n)).run Tryz.prog w = .ok () (w.setCell a (.int .i64 n)) := by
  have h : (sizeOf 49).run Tryz.prog w = .ok 1 w := by kernel_rfl
  simp [storeVar, h, Value.cells, go_sem, hc, hf]
theorem set {n m : Int} {a x : Addr} {w : World} (hc : w.cell? a = some (.int .i64 m)) (hf : w.frozen? a = false) (hx : w.cell? x = some (.int .i64 n)) :
    (callFunc 79 #[vDst a, vErr x]).run Tryz.prog w = .ok (.value (.tuple #[])) (w.setCell a (.int .i64 n)) := by
  rw [@run_callFunc_extern Tryz.prog 79 _ ReflectliteValue.set Tryz.func79 (by kernel_rfl) (by kernel_rfl) (by kernel_rfl) (by kernel_rfl)]
  show ((ReflectliteValue.parts (vDst a) >>= fun p => ReflectliteValue.parts (vErr x) >>= fun q => (match (p, q) with
    | (some (dst, a, fl), some (src, b, _)) => do
      if fl / ReflectliteValue.flagAddr % 2 == 0 then unsupported (.noEntry "extern/(internal/reflectlite.Value).Set.unaddressable")
      let val ← loadVar src b
      if ← Extern.Rtype.directlyAssignable dst src then storeVar dst a val
      else if ← Extern.Rtype.implements dst src then
        if (← Extern.Rtype.kind src) == 20 then
          match val with
          | .nilIface => unsupported (.noEntry "extern/reflectlite: a nil value of one interface type handed on as a value of another")
          | _ => storeVar dst a val
        else storeVar dst a (.iface src val)
      else panicString ("reflectlite.Set: value of type " ++ (← Extern.Rtype.spelt src) ++ " is not assignable to type " ++ (← Extern.Rtype.spelt dst))
      pure (.tuple #[])
    | _ => unsupported (.noEntry "extern/(internal/reflectlite.Value).Set.zeroValue") : Sem Value)).run Tryz.prog w).andThen _ = _
  simp [partsDst, partsErr, hx, hc, hf, direct, ReflectliteValue.flagAddr, go_sem]

/-- What errors.As leaves: the number at a, nothing else turned. -/
def Puts (w : World) (a : Addr) (n : Int) (e : Ending) (w' : World) : Prop :=
  e = .returned (.bool true) ∧ w'.cell? a = some (.int .i64 n) ∧ ∀ w0, Ext w0 w → w0.heap.size ≤ a.block → Ext w0 w'

set_option maxHeartbeats 2000000 in
set_option maxRecDepth 100000 in
theorem as_errno (n m : Int) (b : Nat) (x : Addr) (w : World) (hx : w.cell? x = some (.pointer (some ⟨b, 0, none⟩))) (ha : w.cell? ⟨b, 0, none⟩ = some (.int .i64 m)) (hf : w.frozen? ⟨b, 0, none⟩ = false) :
    Calls Tryz.prog 49 #[.iface 49 (.int .i64 n), .iface 52 (.pointer (some ⟨b, 0, none⟩)), vPtr x, tErr] w (Puts w ⟨b, 0, none⟩ n) := by
  have lb : b < w.heap.size := World.block_lt_of_cell? w _ ha
  have lx := World.block_lt_of_cell? w _ hx
  have f1 := typeOf n
  have f2 := assignable
  have f3 := fun (w' : World) (hc : w'.cell? x = some (.pointer (some ⟨b, 0, none⟩))) => elem (a := ⟨b, 0, none⟩) (x := x) (w := w') hc
  have f4 := valueOfErr n
  go_enter Tryz.func49, Tryz.ntmps49
  go_wp2
  refine wp_loop_rounds 1 ?_
  rw [rounds_succ]
  go_wp2
  rw [set (n := n) (m := m) ?h1 ?h2 ?h3]
  case h1 => simp [go_sem, lb, ha]
  case h2 => simp [go_sem, lb, hf]
  case h3 => simp [go_sem]
  go_wp2
  go_returns
  refine ⟨rfl, ?_, fun w0 h0 h1 => ?_⟩
  · simp [go_sem, lb, ha]
  · exact Ext.alloc (Ext.alloc (Ext.setCell h0 h1 _) _) _

set_option maxRecDepth 100000 in
set_option maxHeartbeats 2000000 in
theorem as_any (n m : Int) (b : Nat) (w : World) (hg : w.cell? ⟨0, 0, none⟩ = some tAny) (ha : w.cell? ⟨b, 0, none⟩ = some (.int .i64 m)) (hf : w.frozen? ⟨b, 0, none⟩ = false) :
    Calls Tryz.prog 17 #[.iface 49 (.int .i64 n), .iface 52 (.pointer (some ⟨b, 0, none⟩))] w (Puts w ⟨b, 0, none⟩ n) := by
  have lb : b < w.heap.size := World.block_lt_of_cell? w _ ha
  have l0 : 0 < w.heap.size := World.block_lt_of_cell? w _ hg
  have f1 := valueOfPtr ⟨b, 0, none⟩
  have f2 := valueType
  have f3 := kindPtr
  have f4 := fun (w' : World) (hc : w'.cell? ⟨w.heap.size, 0, none⟩ = some (.pointer (some ⟨b, 0, none⟩))) => isNil (a := ⟨b, 0, none⟩) (x := ⟨w.heap.size, 0, none⟩) (w := w') hc
  have f5 := typeElem
  have f6 := kindErr
  have f7 := implements
  go_enter Tryz.func17, Tryz.ntmps17
  go_wp2_with (go_at_call 49; refine (as_errno n m b _ _ ?_ ?_ ?_).mono ?_; (· simp [go_sem]); (· simp [go_sem, lb, ha]); (· simp [go_sem, lb, hf]); rintro e w' ⟨rfl, h1, h2⟩)
  go_returns
  exact ⟨rfl, h1, fun w0 h0 hb => h2 w0 (Ext.alloc (Ext.alloc h0 _) _) hb⟩

set_option maxHeartbeats 1000000 in
theorem code4_errno (n : Int) (w : World) (hg : w.cell? ⟨0, 0, none⟩ = some tAny) : Calls Tryz.prog 6 #[.iface 49 (.int .i64 n)] w (Yields w (.int .i64 n)) := by
  have l0 : 0 < w.heap.size := World.block_lt_of_cell? w _ hg
  go_enter Tryz.func6, Tryz.ntmps6
  go_wp2_with (go_at_call 17; refine (as_any n 0 _ _ ?_ ?_ ?_).mono ?_; (· simp [go_sem, l0, hg]); (· simp [go_sem]); (· simp [go_sem]); rintro e w' ⟨rfl, h1, h2⟩)
  go_returns
  exact ⟨rfl, h2 w (Ext.alloc (Ext.refl _) _) (Nat.le_refl _)⟩

theorem code4_nil (w : World) : Calls Tryz.prog 6 #[.nilIface] w (Yields w (.int .i64 0)) := by
  go_enter Tryz.func6, Tryz.ntmps6
  go_wp2
  go_returns
  exact ⟨rfl, (by repeat (first | exact Ext.refl _ | assumption | refine Ext.more ?_ _ | refine Ext.drew ?_ | refine Ext.drewN ?_ _ | refine Ext.alloc ?_ _ | refine Ext.setCell ?_ (by simp; try omega) _ | refine Ext.trans ?_ (by assumption)))⟩
end As
end Go.Proofs.YtbllibgddiiboaaGreatDoor

namespace Go.Proofs.YtbllibgddiiboaaGreatDoor
open Go.ChangeShapes Go.WideShapes Go.ChangeAt Go.RowKit Go.Joins Go.Deep

namespace scriptTells
theorem code_any (e : Nat) (w : World) (hg : w.cell? ⟨0, 0, none⟩ = some As.tAny) : Calls Tryz.prog 6 #[errV e] w (Yields w (.int .i64 e)) := by
  by_cases he : e = 0
  · subst he; exact As.code4_nil w
  · rw [errV_pos he]; exact As.code4_errno e w hg
theorem conf_cats {w : World} {c : Cnf} {pv dv : Value} (h : ConfV w c pv dv) : ∀ d ∈ c.doms, U64 d.cats := fun d hd => by
  obtain ⟨i, hi, rfl⟩ := List.mem_iff_getElem.1 hd
  obtain ⟨p, cap, h0, h1, h2, h3⟩ := h.doms
  obtain ⟨b, off, _, h4⟩ := h3 (by omega)
  obtain ⟨vr, ve, _, _, _, hu⟩ := h4 i c.doms[i] (List.getElem?_eq_getElem hi)
  exact hu
theorem scr_in {w : World} {s : Scr} {pv dv sv av : Value} (h : ScrV w s pv dv sv av) (hi : isScr s = 0) : CnfIn s.conf :=
  isConf_in (isScr_parts hi).1 (isConf_held (isScr_parts hi).1 (conf_cats h.conf))
abbrev boxS (s : Scr) (pv dv sv av : Value) : Obj := .cells #[.int .i64 s.conf.frame, .int .i64 s.conf.epoch, pv, dv, .int .i64 s.horizon, sv, av] 29 (0, 0)

set_option maxRecDepth 100000 in
set_option maxHeartbeats 8000000 in
theorem walk (a b : Scr) (pa da sa va pb db sb vb : Value) (w : World) (ha : ScrV w a pa da sa va) (hb : ScrV w b pb db sb vb) (hg : w.cell? ⟨0, 0, none⟩ = some As.tAny) :
    Calls Tryz.prog 3 #[scrV a pa da sa va, scrV b pb db sb vb] w (Yields w (.bool true)) := by
  have HA := hid ha
  have HB := hid hb
  have HG := hid hg
  clear ha hb hg
  go_enter Tryz.func3, Tryz.ntmps3
  cases hwa : wideS a 5000
  case true =>
    have QA := hid hwa
    clear hwa
    go_wp2_with (first
      | (go_at_call 4; refine (known4_any _).yields ?_; intro p0)
      | (go_at_call 5; (with_reducible refine (wideScr_to QA.out _ _ _ _ _ (HA.out.ext (by repeat (first | exact Ext.refl _ | assumption | refine Ext.more ?_ _ | refine Ext.drew ?_ | refine Ext.drewN ?_ _ | refine Ext.alloc ?_ _ | refine Ext.setCell ?_ (by simp; try omega) _ | refine Ext.trans ?_ (by assumption))))).yields ?_); intro p1))
    go_returns
    exact ⟨rfl, (by repeat (first | exact Ext.refl _ | assumption | refine Ext.more ?_ _ | refine Ext.drew ?_ | refine Ext.drewN ?_ _ | refine Ext.alloc ?_ _ | refine Ext.setCell ?_ (by simp; try omega) _ | refine Ext.trans ?_ (by assumption)))⟩
  have QA := hid hwa
  clear hwa
  cases hwb : wideS b 5000
  case true =>
    have QB := hid hwb
    clear hwb
    go_wp2_with (first
      | (go_at_call 4; refine (known4_any _).yields ?_; intro p0)
      | (go_at_call 5; (with_reducible refine (wideScr_to QA.out _ _ _ _ _ (HA.out.ext (by repeat (first | exact Ext.refl _ | assumption | refine Ext.more ?_ _ | refine Ext.drew ?_ | refine Ext.drewN ?_ _ | refine Ext.alloc ?_ _ | refine Ext.setCell ?_ (by simp; try omega) _ | refine Ext.trans ?_ (by assumption))))).yields ?_); intro p1)
      | (go_at_call 5; (with_reducible refine (wideScr_to QB.out _ _ _ _ _ (HB.out.ext (by repeat (first | exact Ext.refl _ | assumption | refine Ext.more ?_ _ | refine Ext.drew ?_ | refine Ext.drewN ?_ _ | refine Ext.alloc ?_ _ | refine Ext.setCell ?_ (by simp; try omega) _ | refine Ext.trans ?_ (by assumption))))).yields ?_); intro p2))
    go_returns
    exact ⟨rfl, (by repeat (first | exact Ext.refl _ | assumption | refine Ext.more ?_ _ | refine Ext.drew ?_ | refine Ext.drewN ?_ _ | refine Ext.alloc ?_ _ | refine Ext.setCell ?_ (by simp; try omega) _ | refine Ext.trans ?_ (by assumption)))⟩
  have QB := hid hwb
  clear hwb
  go_wp2_with (first
    | (go_at_call 4; refine (known4_any _).yields ?_; intro p0)
    | (go_at_call 5; (with_reducible refine (wideScr_to QA.out _ _ _ _ _ (HA.out.ext (by repeat (first | exact Ext.refl _ | assumption | refine Ext.more ?_ _ | refine Ext.drew ?_ | refine Ext.drewN ?_ _ | refine Ext.alloc ?_ _ | refine Ext.setCell ?_ (by simp; try omega) _ | refine Ext.trans ?_ (by assumption))))).yields ?_); intro p1)
    | (go_at_call 5; (with_reducible refine (wideScr_to QB.out _ _ _ _ _ (HB.out.ext (by repeat (first | exact Ext.refl _ | assumption | refine Ext.more ?_ _ | refine Ext.drew ?_ | refine Ext.drewN ?_ _ | refine Ext.alloc ?_ _ | refine Ext.setCell ?_ (by simp; try omega) _ | refine Ext.trans ?_ (by assumption))))).yields ?_); intro p2))
  refine wp_forget (fun v => Ext w v ∧ v.heap[w.heap.size]? = some (boxS a pa da sa va) ∧ v.heap[w.heap.size + 1]? = some (boxS b pb db sb vb)) ⟨(by repeat (first | exact Ext.refl _ | assumption | refine Ext.more ?_ _ | refine Ext.drew ?_ | refine Ext.drewN ?_ _ | refine Ext.alloc ?_ _ | refine Ext.setCell ?_ (by simp; try omega) _ | refine Ext.trans ?_ (by assumption))), block_ext (Ext.more (Ext.alloc (Ext.refl _) _) _) (heap_alloc_new w (boxS a pa da sa va)), block_ext (Ext.more (Ext.refl _) _) (heap_new2 w (boxS a pa da sa va) (boxS b pb db sb vb))⟩ ?_
  rintro W ⟨X, ka, kb⟩
  have VA := hid (HA.out.ext X)
  have VB := hid (HB.out.ext X)
  have G0 := X.cell HG.out
  have RA := wide_routes20 (wideS_conf QA.out).1
  have R3 : Hid (∀ d ∈ a.conf.doms, ∀ r ∈ d.routes, r.length ≤ 300) := fun d hd r hr => by have := RA d hd r hr; omega
  have IN : Hid (isScr a = 0 → CnfIn a.conf) := scr_in HA.out
  have BL : Hid (isScr a = 0 → (allBytes a).length ≤ 40000) := fun h => allBytes_length h (scr_in HA.out h) RA
  have BL2 : Hid (isScr a = 0 → (allBytes a).length ≤ 80000) := fun h => Nat.le_trans (BL.out h) (by decide)
  have SS := hid (sameS_self a)
  have l1 := lt_of_block ka
  have l2 := lt_of_block kb
  have a0 := blk_cell ka 0
  have a1 := blk_cell ka 1
  have a2 := blk_cell ka 2
  have a3 := blk_cell ka 3
  have a4 := blk_cell ka 4
  have a5 := blk_cell ka 5
  have a6 := blk_cell ka 6
  have b0 := blk_cell kb 0
  have b1 := blk_cell kb 1
  have b2 := blk_cell kb 2
  have b3 := blk_cell kb 3
  have b4 := blk_cell kb 4
  have b5 := blk_cell kb 5
  have b6 := blk_cell kb 6
  simp only [List.getElem?_toArray, List.getElem?_cons_zero, List.getElem?_cons_succ] at a0 a1 a2 a3 a4 a5 a6 b0 b1 b2 b3 b4 b5 b6
  have hg0 := World.block_lt_of_cell? _ _ G0
  simp only at hg0
  have HG0 := hid G0
  clear HA HB HG QA QB ka kb RA G0
  ((first | refine wp_region_more (by kernel_rfl) (by kernel_rfl) ?_ | refine wp_region_ext (by kernel_rfl) (by kernel_rfl) ?_); (try dsimp only [append_cons', append_nil']); (repeat (go_big_quiet_step ((first | (go_at_call 7; with_reducible refine Calls.more_of (scrIs_any _ a _ _ _ _ (VA.out.ext (ext_more _ _)))) | (go_at_call 6; with_reducible refine Calls.more_of (code_any _ _ (more_cell HG0.out _))) | (go_at_call 8; with_reducible refine Calls.more_of (rIsScr_any _ a _ _ _ _ (VA.out.ext (ext_more _ _)) R3.out)) | (go_at_call 9; with_reducible refine Calls.more_of (scrSame_to SS.out _ _ _ _ _ _ _ _ _ (VA.out.ext (ext_more _ _)) (VA.out.ext (ext_more _ _)))) | (go_at_call 9; with_reducible refine Calls.more_of (scrSame_any _ a b _ _ _ _ _ _ _ _ (VA.out.ext (ext_more _ _)) (VB.out.ext (ext_more _ _)))) | (go_at_call 10; with_reducible refine Calls.more_of (sameScr_any _ a b _ _ _ _ _ _ _ _ (VA.out.ext (ext_more _ _)) (VB.out.ext (ext_more _ _)))) | (go_at_call 11; with_reducible refine Calls.more_of (scrBytes_of _ a _ _ _ _ (VA.out.ext (ext_more _ _)) IN.out BL2.out)) | (go_at_call 12; with_reducible refine Calls.more_of (rBytes_any _ a _ _ _ _ (VA.out.ext (ext_more _ _)) R3.out IN.out BL.out)))))); refine wpQuiet_nil ?_; rintro _ ⟨pq, rfl⟩)
  go_wp2
  go_returns
  exact ⟨rfl, X.more _⟩

set_option linter.unusedVariables false in
theorem et : Tryz.prog.globalNamed "errors.errorType" = some 0 := by kernel_rfl
theorem rt : (Tryz.prog.cutTypes.find? (·.1 == "internal/reflectlite.rtype")).map (·.2) = some 127 := by kernel_rfl
theorem oneRow : ((List.range 190).filter fun t => Tryz.prog.rowNamed t [101, 114, 114, 111, 114]) = [34] := by kernel_rfl
theorem tsize : Tryz.prog.types.size = 190 := by kernel_rfl
theorem handle_of_laid {W : World} (h : laidMetH Tryz.prog Rows.scriptTellsRow.laid W) : W.cell? ⟨0, 0, none⟩ = some As.tAny := by
  have h' : laidMet Tryz.prog [] W ∧ handlesMet Tryz.prog Rows.scriptTellsRow.laid W := h
  obtain ⟨name, u, ty, e1, e2, e3, e4, e5⟩ := h'.2 _ (List.mem_singleton.2 rfl)
  have en : name = [101, 114, 114, 111, 114] := (Option.some.inj e1).symm
  subst en
  obtain rfl := Option.some.inj (rt.symm.trans e2)
  have hm : ty ∈ (List.range 190).filter fun t => Tryz.prog.rowNamed t [101, 114, 114, 111, 114] := List.mem_filter.2 ⟨List.mem_range.2 (by rw [← tsize]; exact e3), e4⟩
  rw [oneRow] at hm
  obtain rfl := List.mem_singleton.1 hm
  have hh : typeHandle Tryz.prog 34 = .pointer (some ⟨1, 34, none⟩) := by kernel_rfl
  rw [hh] at e5
  simpa using World.var?_cell et e5 0
/-- A world that meets the condition: the settled one, the variable's cell laid. -/
noncomputable def laidWorld (os : Os) : World :=
  let w0 := World.holding Tryz.prog os ⟨#[], #[], []⟩
  { w0 with heap := w0.heap.modify 0 fun
      | .cells _ t frozen => .cells #[.iface 127 (.agg #[.pointer (some ⟨1, 34, none⟩)])] t frozen
      | o => o }
theorem laidWorld_met (os : Os) (args : Array Value) : laidMetH Tryz.prog Rows.scriptTellsRow.laid ((laidWorld os).forCall (fun _ _ => 0) ⟨#[], args, []⟩).memory :=
  laidMetH_of_parts (laidMet_nil _ _) (by kernel_rfl)
set_option maxRecDepth 100000 in
theorem lifted (os : Os) (started : os.Started) (H : Type) (enc : TypeId × Value → H) :
    ReturnsInHanded {} Tryz.checked os 3 .any (fun w args => (Rows.scriptTellsSpec.pre enc Tryz.prog Tryz.f3 [] false w args ∧ laidMetH Tryz.prog Rows.scriptTellsRow.laid w) ∧ sizedMet enc Tryz.prog Tryz.f3 (OpenSpec.ofChange Rows.scriptTellsSpec) false w args)
      (Rows.scriptTellsSpec.post enc Tryz.prog Tryz.f3 false true false false) := by
  refine returnsInHanded_of_change_and (C := Tryz.checked) (X := fun w _ => laidMetH Tryz.prog Rows.scriptTellsRow.laid w) (fun _ _ _ hh h => h.of_heap hh) Own.own started (by kernel_rfl) Tryz.func3
    (ChangeSpec.witness_at (enc := enc) (C := Tryz.checked) (os := os) (X := fun w _ => laidMetH Tryz.prog Rows.scriptTellsRow.laid w) false (laidWorld os) #[.agg #[.int .i64 0, .int .i64 0, .slice none 0 0, .slice none 0 0, .int .i64 0, .slice none 0 0, .slice none 0 0], .agg #[.int .i64 0, .int .i64 0, .slice none 0 0, .slice none 0 0, .int .i64 0, .slice none 0 0, .slice none 0 0]] 8 rfl (by kernel_rfl) (by kernel_rfl) (by kernel_rfl) (by kernel_rfl) (by kernel_rfl) (laidWorld_met os _)) ?_
  intro W base args ds gs before hval0 hW _ hsz0 hL _
  have hval : ∀ (j : Nat) t v, Tryz.f3.params[j]? = some t → args[j]? = some v → Value.okWide Tryz.prog W .any base t v := hval0
  have hW' := hW
  obtain ⟨p, q, hA0, hV0, rfl, hfz, hnd⟩ := hW
  have hA : DataW.TrodAll enc Tryz.prog W 0 (fun _ => true) true Tryz.f3.params.toList args.toList ds p := hA0
  have hV : DataW.TrodVars enc Tryz.prog W (fun _ => true) [] gs q := hV0
  rw [Tryz.params3] at hA hval
  obtain ⟨rfl, rfl⟩ := trodVars_none hV
  have hsz : (DataW.weightsEach Tryz.prog [29, 29] ds).all (· ≤ reachBytes) = true := by rw [List.append_nil] at hsz0; exact hsz0
  have hg := handle_of_laid hL
  obtain ⟨v0, vs0, d0, ds0, p0, q0, hargs, rfl, rfl, h0, r0⟩ := trodAll_cons hA
  obtain ⟨v1, vs1, d1, ds1, p1, q1, rfl, rfl, rfl, h1, r1⟩ := trodAll_cons r0
  obtain ⟨rfl, rfl, rfl⟩ := trodAll_nil r1
  obtain rfl : args = #[v0, v1] := by cases args; simp_all
  have k0 := h0
  have lt0 : ∀ x ∈ p0, x.block < W.heap.size := by obtain ⟨m, hm⟩ := k0; exact DataW.trod_lt m _ _ _ hm
  have k1 := h1
  have lt1 : ∀ x ∈ p1, x.block < W.heap.size := by obtain ⟨m, hm⟩ := k1; exact DataW.trod_lt m _ _ _ hm
  obtain ⟨a, pa, da, sa, va, rfl, ha⟩ := Own.open_scr (hval 0 29 v0 rfl rfl) (by exact h0)
  obtain ⟨b, pb, db, sb, vb, rfl, hb⟩ := Own.open_scr (hval 1 29 v1 rfl rfl) (by exact h1)
  clear hA0 hval0 hsz0 hV0
  refine (walk a b pa da sa va pb db sb vb W ha hb hg).mono fun e W' ⟨he, hx⟩ => ?_
  subst he
  exact ⟨_, rfl, _, _, _, [], _, [], hW', trodAll_mk1 (shut_bool Tryz.underlying4 _), (trodAll_cons_mk (Below.trod Own.laidOut (by kernel_rfl) (of_decide_eq_true (by kernel_rfl)) k0 hx.below lt0) (trodAll_cons_mk (Below.trod Own.laidOut (by kernel_rfl) (of_decide_eq_true (by kernel_rfl)) k1 hx.below lt1) trodAll_mk0)), rfl, hx.below.frame _, fun h => by cases h⟩

theorem plain : Rows.ScriptTellsSaid :=
  OpenClaim.holds_of_wide 3 Tryz.f3 rfl rfl rfl rfl rfl rfl rfl ⟨rfl, rfl, rfl, rfl, rfl⟩ rfl rfl rfl rfl rfl (by kernel_rfl) Tryz.func3 (by kernel_rfl)
    (of_decide_eq_true (by kernel_rfl)) (by unfold Func.isWrapper; first | (rw [if_pos (by decide +kernel)]; kernel_rfl) | (rw [if_neg (by decide +kernel)]; exact ⟨rfl, rfl⟩))
    (fun os started H enc _ => lifted os started H enc)

theorem proved : Rows.ScriptTellsCardSaid :=
  Claim7.holds_tied_plain_at .later [] [.handle] true _ true
    plain (fun _ h => by cases h) (by kernel_rfl) (fun _ h => by cases h) scriptTells_row_tie rfl ⟨rfl, rfl⟩ (by kernel_rfl) rfl
    (fun f fn hf hfn => by
      obtain rfl : f = 3 := Option.some.inj ((show Tryz.prog.funcNamed "tontine/tontinelaw4.ScriptTells" = some 3 by kernel_rfl).symm.trans hf) |>.symm
      obtain rfl : fn = Tryz.f3 := (Option.some.inj (Tryz.func3.symm.trans hfn)).symm
      exact ⟨by kernel_rfl, fun j t ht => by
        rw [Tryz.params3] at ht
        match j, ht with
        | 0, ht => simp at ht; subst ht; exact (show Tryz.prog.wantsStandIn 29 = false by kernel_rfl)
        | 1, ht => simp at ht; subst ht; exact (show Tryz.prog.wantsStandIn 29 = false by kernel_rfl)
        | j + 2, ht => simp at ht⟩)
    (by kernel_rfl)

end scriptTells
end Go.Proofs.YtbllibgddiiboaaGreatDoor
