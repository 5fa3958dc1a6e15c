/- ScriptReads: of every row of bytes the script, or that they are none, as the document's own Read has it: the law answers true. No conditions. -/
import Derived.Test.YtmpgeabfogcblaaGreatRows
import Derived.Test.YtmpgeabfogcblaaGreatLays
import Derived.WalkKit
import Derived.WalkSpells
import Derived.WalkLawsBesides
import Derived.Handy
import Derived.Test.YtmpgeabfogcblaaGreatLib
import Derived.LaidEql
import Derived.Stop.Asserts
import Derived.RowKitTokens
import Derived.Test.YtmpgeabfogcblaaGreatScr
import Derived.Test.YtmpgeabfogcblaaGreatSrAll
import Derived.Test.YtmpgeabfogcblaaGreatSbAll
import Derived.Test.YtmpgeabfogcblaaGreatSc2
import Derived.Test.YtmpgeabfogcblaaGreatMath4c
import Derived.Test.YtmpgeabfogcblaaGreatQdAll
import Derived.Test.YtmpgeabfogcblaaGreatRefScr6
import Derived.Deep.CutBlock
import Derived.Test.YtmpgeabfogcblaaGreatRefScr4
import Derived.Test.YtmpgeabfogcblaaGreatOwn2
import Derived.ChangeMaps5
import Derived.ChangeSame
import Derived.ChangeVars
import Derived.JoinedOf
namespace Go.Proofs.YtmpgeabfogcblaaGreat
open Go.RowKit

def baseRO : List RO := [
  ([.i 8, .i 2, .s 3 2, .s 13 4], 26),
  ([.i 2, .i 2, .i 2, .i 2], 3),
  ([.i 5, .i 1, .i 1, .i 1], 3),
  ([.s 1 4, .s 2 4], 89),
  ([.i 1, .i 3], 3),
  ([.i 2, .i 3], 3),
  ([.s 4 2, .s 5 2], 89),
  ([.i 3], 3),
  ([.s 7 1], 89),
  ([.i 0, .i 1], 3),
  ([.i 3], 3),
  ([.s 10 1], 89),
  ([.i 0, .i 1, .i 2], 3),
  ([.i 0, .u 0, .s 6 2, .nil, .i (-1), .i 4, .i 2, .i 4, .i 3, .i 2,
    .i 1, .u 1, .s 8 1, .s 9 2, .i 0, .i 4, .i 2, .i 4, .i 3, .i 2,
    .i 1, .u 2, .s 11 1, .nil, .i (-1), .i 4, .i 2, .i 4, .i 3, .i 2,
    .i 2, .u 3, .nil, .s 12 3, .i 1, .i 4, .i 2, .i 4, .i 3, .i 2], 94)]

abbrev baseV (N : Nat) : Value := .agg #[.int .i64 8, .int .i64 2, .slice (some ⟨N + 3, 0, none⟩) 2 2, .slice (some ⟨N + 13, 0, none⟩) 4 4]

set_option maxRecDepth 100000 in
set_option maxHeartbeats 4000000 in
theorem base_any (w : World) : Calls Tryz.prog 26 #[] w fun e w' => e = .returned (baseV w.heap.size) ∧ w' = allocs w (baseRO.map (RO.obj w.heap.size)) := by
  go_enter Tryz.func26, Tryz.ntmps26
  go_wp2
  refine bodyPost_ret (v := baseV w.heap.size) ?_ rfl ⟨rfl, rfl⟩
  simp [results, Tryz.results26, go_sem]
theorem baseRO_wf : ∀ o ∈ baseRO, ∀ v ∈ o.1, v.wf := wf_all (by decide)
theorem base_lies (w : World) : Lies w.heap.size baseRO (allocs w (baseRO.map (RO.obj w.heap.size))) := ⟨allocs_lays _ _, baseRO_wf⟩
theorem base_to (w : World) : Calls Tryz.prog 26 #[] w fun e w' => ∃ N, e = .returned (baseV N) ∧ Hid (N = w.heap.size) ∧ Lies N baseRO w' ∧ Ext w w' ∧ w'.heap.size = N + 14 :=
  (base_any w).mono fun e w' ⟨he, hw⟩ => ⟨_, he, rfl, hw ▸ base_lies w, hw ▸ allocs_ext _ _, by rw [hw, allocs_size]; rfl⟩
def baseC : Cnf := ⟨8, 2, [[2, 2, 2, 2], [5, 1, 1, 1]], [⟨0, 0, [[1, 3], [2, 3]], [], -1, 4, 2, 4, 3, 2⟩, ⟨1, 1, [[3]], [0, 1], 0, 4, 2, 4, 3, 2⟩, ⟨1, 2, [[3]], [], -1, 4, 2, 4, 3, 2⟩, ⟨2, 3, [], [0, 1, 2], 1, 4, 2, 4, 3, 2⟩]⟩
theorem baseC_of : confOf baseRO 8 2 (.s 3 2) (.s 13 4) = some baseC := by rfl
theorem baseC_is : isConf baseC = 0 := by decide
end Go.Proofs.YtmpgeabfogcblaaGreat

namespace Go.Proofs.YtmpgeabfogcblaaGreat
open Go.RowKit Go.Extern.Stop Go.Stop Go.Extern

namespace Err
theorem typeOf (v : Value) (w : World) : (Extern.ReflectliteType.typeOf #[.iface 39 v]).run Tryz.prog w = .ok (.iface 106 (.agg #[.pointer (some ⟨0, 39, none⟩)])) w := by kernel_rfl
theorem callTypeOf (v : Value) (w : World) : (callFunc 24 #[.iface 39 v]).run Tryz.prog w = .ok (.value (.iface 106 (.agg #[.pointer (some ⟨0, 39, none⟩)]))) w := by
  rw [@run_callFunc_extern Tryz.prog 24 _ Extern.ReflectliteType.typeOf Tryz.func24 (by kernel_rfl) (by kernel_rfl) (by kernel_rfl) (by kernel_rfl), typeOf]
  rfl
theorem comparable (w : World) : ((Extern.ReflectliteType.method fun t => do Extern.Rtype.noPackHeld "Comparable" t; pure (.bool (← typeInfo t).comparable)) #[.agg #[.pointer (some ⟨0, 39, none⟩)]]).run Tryz.prog w = .ok (.bool true) w := by kernel_rfl
theorem callComparable (w : World) : (callFunc 124 #[.agg #[.pointer (some ⟨0, 39, none⟩)]]).run Tryz.prog w = .ok (.value (.bool true)) w := by
  rw [@run_callFunc_extern Tryz.prog 124 _ (Extern.ReflectliteType.method fun t => do Extern.Rtype.noPackHeld "Comparable" t; pure (.bool (← typeInfo t).comparable)) Tryz.func124 (by kernel_rfl) (by kernel_rfl) (by kernel_rfl) (by kernel_rfl), comparable]
  rfl
theorem methodComparable (v : Value) (w : World) : (Go.method 282 106 v "Comparable").run Tryz.prog w = .ok (124, v) w := by kernel_rfl
theorem comp : (Tryz.prog.info? 39).map (·.comparable) = some true := by kernel_rfl
theorem noIs (v : Value) (xT : TypeId) (w : World) : (Instr.typeAssert (.iface 39 v) xT 108 true).run Tryz.prog w = .ok (.tuple #[.nilIface, .bool false]) w := run_typeAssert_lacksB Tryz.underlying108 (by kernel_rfl) (by kernel_rfl) v xT w
theorem noUnwrap (v : Value) (xT : TypeId) (w : World) : (Instr.typeAssert (.iface 39 v) xT 111 true).run Tryz.prog w = .ok (.tuple #[.nilIface, .bool false]) w := run_typeAssert_lacksB Tryz.underlying111 (by kernel_rfl) (by kernel_rfl) v xT w
theorem noUnwraps (v : Value) (xT : TypeId) (w : World) : (Instr.typeAssert (.iface 39 v) xT 112 true).run Tryz.prog w = .ok (.tuple #[.nilIface, .bool false]) w := run_typeAssert_lacksB Tryz.underlying112 (by kernel_rfl) (by kernel_rfl) v xT w
theorem equalIn (d : Nat) (a b : Int) (w : World) : (Op.equalIn (d + 2) 32 (.iface 39 (.int .i64 a)) (.iface 39 (.int .i64 b))).run Tryz.prog w = .ok (a == b) w := by
  obtain ⟨i, hi, hcmp⟩ := Option.map_eq_some_iff.1 comp
  simp [Op.equalIn, run_underlying Tryz.underlying32, run_underlying Tryz.underlying39, typeInfo, hi, hcmp]
theorem eql (a b : Int) (w : World) : (binOp .eql 32 (.iface 39 (.int .i64 a)) (.iface 39 (.int .i64 b))).run Tryz.prog w = .ok (.bool (a == b)) w := by
  simp only [binOp]
  simp [Op.equal, Op.maxDepth, equalIn 9998 a b w]

set_option maxHeartbeats 1000000 in
theorem is_errno (n m : Int) (w : World) : Calls Tryz.prog 8 #[.iface 39 (.int .i64 n), .iface 39 (.int .i64 m)] w (Yields w (.bool (n == m))) := by
  have tT := fun v => callTypeOf v
  have cT := callComparable
  have mR := methodComparable
  have nE := noIs
  have uE := noUnwrap
  have vE := noUnwraps
  have heq := eql n m w
  cases hq : n == m
  all_goals
    go_enter Tryz.func8, Tryz.ntmps8
    go_wp2
    refine wp_loop_rounds 1 ?_
    rw [rounds_succ]
    go_wp2
    go_returns
    exact ⟨rfl, Ext.refl _⟩

set_option maxHeartbeats 400000 in
theorem is_nil (m : Int) (w : World) : Calls Tryz.prog 8 #[.nilIface, .iface 39 (.int .i64 m)] w (Yields w (.bool false)) := by
  have hn := run_eql_iface_nil_left (P := Tryz.prog) w 39 (.int .i64 m) Tryz.underlying32
  go_enter Tryz.func8, Tryz.ntmps8
  go_wp2
  go_returns
  exact ⟨rfl, Ext.refl _⟩
end Err
end Go.Proofs.YtmpgeabfogcblaaGreat

namespace Go.Proofs.YtmpgeabfogcblaaGreat
open Go.RowKit
set_option linter.unusedSimpArgs false

abbrev zero7 : Obj := .cells #[.int .i64 0, .int .i64 0, .slice none 0 0, .slice none 0 0, .int .i64 0, .slice none 0 0, .slice none 0 0] 30 (0, 0)
/-- A script's value: the configuration from block N on, the streams in block S, the arrivals in block V. -/
abbrev helpV (N S V : Nat) (h : Int) : Value := .agg #[.int .i64 8, .int .i64 2, .slice (some ⟨N + 3, 0, none⟩) 2 2, .slice (some ⟨N + 13, 0, none⟩) 4 4, .int .i64 h, .slice (some ⟨S, 0, none⟩) 4 4, .slice (some ⟨V, 0, none⟩) 4 4]
/-- These blocks lie so. -/
structure HelpS (base N S V : Nat) (os : List RO) (ss vs : List Value) (w : World) : Prop where
  lies : Lies N os w
  sb : w.heap[S]? = some (.cells ss.toArray 44 (0, 0))
  vb : w.heap[V]? = some (.cells vs.toArray 47 (0, 0))
  hN : base ≤ N
  hS : base ≤ S
  hV : base ≤ V
  sv : S ≠ V
  sn : S < N ∨ N + os.length ≤ S
  vn : V < N ∨ N + os.length ≤ V
theorem HelpS.ext {base N S V : Nat} {os : List RO} {ss vs : List Value} {w w' : World} (h : HelpS base N S V os ss vs w) (x : Ext w w') : HelpS base N S V os ss vs w' :=
  ⟨h.lies.ext x, block_ext x h.sb, block_ext x h.vb, h.hN, h.hS, h.hV, h.sv, h.sn, h.vn⟩
theorem HelpS.other {base N S V : Nat} {os : List RO} {ss vs : List Value} {w : World} (h : HelpS base N S V os ss vs w) {b j : Nat} (v : Value) (hb : b < base ∨ (b ≠ S ∧ b ≠ V ∧ (b < N ∨ N + os.length ≤ b))) : HelpS base N S V os ss vs (w.setCell ⟨b, j, none⟩ v) := by
  have h1 := h.hN
  have h2 := h.hS
  have h3 := h.hV
  exact ⟨h.lies.other v (by omega), (Below.heap_setCell _ _ _ _ (by simp; omega)).trans h.sb, (Below.heap_setCell _ _ _ _ (by simp; omega)).trans h.vb, h1, h2, h3, h.sv, h.sn, h.vn⟩
def nil4 : List Value := [.slice none 0 0, .slice none 0 0, .slice none 0 0, .slice none 0 0]
theorem mkStreams (w : World) : (Instr.makeSlice 27 (.int .i64 4) (.int .i64 4)).run Tryz.prog w = .ok (.slice (some ⟨w.heap.size, 0, none⟩) 4 4) (w.alloc (.cells #[.slice none 0 0, .slice none 0 0, .slice none 0 0, .slice none 0 0] 44 (0, 0))) := by kernel_rfl
theorem mkArrivals (w : World) : (Instr.makeSlice 28 (.int .i64 4) (.int .i64 4)).run Tryz.prog w = .ok (.slice (some ⟨w.heap.size, 0, none⟩) 4 4) (w.alloc (.cells #[.slice none 0 0, .slice none 0 0, .slice none 0 0, .slice none 0 0] 47 (0, 0))) := by kernel_rfl
def MeetQ (M : Act → World → Prop) : Exit → Act → World → Prop
  | .normal, a, w => M a w
  | _, _, _ => False
theorem wp_meetq {P : Program} {c : Code} {a : Act} {w : World} {Q : Exit → Act → World → Prop} (M : Act → World → Prop) (first : c.wp P (MeetQ M) a w) (rest : ∀ a w, M a w → Q .normal a w) : c.wp P Q a w :=
  Code.wp_mono (fun e a w h => by cases e <;> first | exact rest a w h | exact h.elim) first
section
variable {P : Program} {ops : Array Oper} {Q : Exit → Act → World → Prop} {md : Region.Mode} {S : World → Prop}
/-- One of the three that may come up. -/
theorem wpT_three (i j l : Nat) {n k : Nat} {oi oj ol : Oper} {fuel : Nat} {listed : Array Bool} {a : Act} {w : World} (hoi : ops[i]? = some oi) (hoj : ops[j]? = some oj) (hol : ops[l]? = some ol) (hr : Region.ready md ops listed = [i, j, l])
    (hwi : Region.wanted oi (yielded ops a.tmps) = true) (hwj : Region.wanted oj (yielded ops a.tmps) = true) (hwl : Region.wanted ol (yielded ops a.tmps) = true)
    (hi : ∀ K' : Act → World → Prop, Shut (∀ a w, S w → wpT P md ops Q S n k fuel (listed.setIfInBounds i true) a w → K' a w) → Oper.wp P oi a w K' Q)
    (hj : ∀ K' : Act → World → Prop, Shut (∀ a w, S w → wpT P md ops Q S n k fuel (listed.setIfInBounds j true) a w → K' a w) → Oper.wp P oj a w K' Q)
    (hl : ∀ K' : Act → World → Prop, Shut (∀ a w, S w → wpT P md ops Q S n k fuel (listed.setIfInBounds l true) a w → K' a w) → Oper.wp P ol a w K' Q) : wpT P md ops Q S n k (fuel + 1) listed a w := fun hc => by
  refine ⟨by rw [hr]; simp, fun x hx => ?_⟩
  have hx' := hx
  rw [hr] at hx
  rcases List.mem_cons.1 hx with rfl | hx
  · refine wpOp_step hoi (fun K' hK => ?_)
    rw [if_pos hwi]
    exact hi K' (fun a' w' h1 h2 => hK _ _ ⟨h1, h2 (hc.add hx')⟩)
  · rcases List.mem_cons.1 hx with rfl | hx
    · refine wpOp_step hoj (fun K' hK => ?_)
      rw [if_pos hwj]
      exact hj K' (fun a' w' h1 h2 => hK _ _ ⟨h1, h2 (hc.add hx')⟩)
    · obtain rfl := List.mem_singleton.1 hx
      refine wpOp_step hol (fun K' hK => ?_)
      rw [if_pos hwl]
      exact hl K' (fun a' w' h1 h2 => hK _ _ ⟨h1, h2 (hc.add hx')⟩)
end
/-- Behind the region. -/
def HelpM (R : Nat) (h : Int) (w : World) (a' : Act) (y : World) : Prop :=
  ∃ (N S V : Nat) (u0 u1 u3 u4 u5 u6 u7 : Value), a' = { tmps := #[u0, u1, .pointer (some ⟨R, 0, none⟩), u3, u4, u5, u6, u7], defers := [] } ∧ y.heap[R]? = some (.cells #[.int .i64 8, .int .i64 2, .slice (some ⟨N + 3, 0, none⟩) 2 2, .slice (some ⟨N + 13, 0, none⟩) 4 4, .int .i64 h, .slice (some ⟨S, 0, none⟩) 4 4, .slice (some ⟨V, 0, none⟩) 4 4] 30 (0, 0)) ∧
    HelpS w.heap.size N S V baseRO nil4 nil4 y ∧ Ext w y

theorem lies_only {N n : Nat} {os : List RO} {w w' : World} (l : Lies N os w) (h : Only n w w') (hn : n < N ∨ N + os.length ≤ n) : Lies N os w' := by
  refine ⟨fun i x hx => ?_, l.2⟩
  have hi : i < os.length := by
    apply Decidable.byContradiction
    intro hc
    rw [List.getElem?_eq_none (by simp; omega)] at hx; cases hx
  exact h.blk (l.1 i x hx) (by omega)
set_option maxRecDepth 100000 in
set_option maxHeartbeats 8000000 in
theorem help_any (w : World) (h : Int) : Calls Tryz.prog 9 #[.int .i64 h] w fun e w' => ∃ N S V, e = .returned (helpV N S V h) ∧ HelpS w.heap.size N S V baseRO nil4 nil4 w' ∧ Ext w w' := by
  go_enter Tryz.func9, Tryz.ntmps9
  go_upto_region 1 with (fail)
  refine wp_meetq (HelpM w.heap.size h w) ?_ ?_
  · refine wp_forget (fun v => Ext w v ∧ v.heap[w.heap.size]? = some zero7) ⟨(by repeat (first | exact Ext.refl _ | assumption | refine Ext.more ?_ _ | refine Ext.drew ?_ | refine Ext.drewN ?_ _ | refine Ext.alloc ?_ _ | refine Ext.setCell ?_ (by simp; try omega) _ | refine Ext.trans ?_ (by assumption))), heap_alloc_new w _⟩ ?_
    rintro v ⟨hx, hR⟩
    have HRL := hid (lt_of_block hR)
    have HX := hid (hx.drew)
    have HRV := hid (fun u (hu : Ext v.drew u) => block_ext hu (show v.drew.heap[w.heap.size]? = some zero7 from hR))
    clear hR hx
    have e1 := mkStreams
    have e2 := mkArrivals
    refine wp_region_T 5 1 (fun _ => True) (by kernel_rfl) (by kernel_rfl) ?_
    have HRL' : Hid (w.heap.size < v.drew.heap.size) := HRL.out
    clear HRL
    have HRL := HRL'
    clear HRL'
    generalize v.drew = v0 at *
    have HX0 := hid (Ext.refl v0)
    have HR0 := hid (HRV.out v0 HX0.out)
    have HSS : True := trivial
    refine wpT_take 1 (v := ?v54) rfl (by kernel_rfl) (by kernel_rfl) (by kernel_rfl) (by kernel_rfl) (by intro _ _ _ h; first | exact h | (obtain ⟨h, _⟩ := h; cases h)) (by rfl) HSS ?hy54 ?_
    case hy54 => (intro u hu; go_simp; first | done | (with_reducible rfl))
    (try simp only [Act.put, List.getElem_toArray, List.getElem_cons_zero, List.getElem_cons_succ, List.setIfInBounds_toArray, List.set_cons_zero, List.set_cons_succ])
    clear HSS
    refine wpT_three 0 2 3 rfl rfl rfl (by kernel_rfl) (by rfl) (by rfl) (by rfl) (fun K' hK => ?_) (fun K' hK => ?_) (fun K' hK => ?_)
    · go_simp
      refine (base_to _).mono ?_
      rintro e v1 ⟨N, rfl, hN, hl, hx, hs⟩
      have HX1 := hid (HX0.out.trans hx)
      have HLN := hid hl
      have HN := hid (And.intro hN.out hs)
      clear hN hl hx hs
      have HR1 := hid (HRV.out v1 HX1.out)
      refine hK.out _ _ trivial ?_
      clear hK K' HR0
      (try simp only [Act.put, List.setIfInBounds_toArray, List.set_cons_zero, List.set_cons_succ])
      refine wpT_two 2 3 rfl rfl (by kernel_rfl) (by rfl) (by rfl) (fun K' hK => ?_) (fun K' hK => ?_)
      · go_simp
        have hx := Ext.alloc (Ext.refl v1) (.cells #[.slice none 0 0, .slice none 0 0, .slice none 0 0, .slice none 0 0] 44 (0, 0))
        have HX2 := hid (HX1.out.trans hx)
        have HS2 := hid (heap_alloc_new v1 (.cells #[.slice none 0 0, .slice none 0 0, .slice none 0 0, .slice none 0 0] 44 (0, 0)))
        obtain ⟨S, hSe⟩ : ∃ z, z = v1.heap.size := ⟨_, rfl⟩
        have HSN : Hid (S = v1.heap.size ∧ (v1.alloc (.cells #[.slice none 0 0, .slice none 0 0, .slice none 0 0, .slice none 0 0] 44 (0, 0))).heap.size = S + 1) := ⟨hSe, by rw [World.size_alloc, hSe]⟩
        rw [← hSe] at HS2
        have HLN' := hid (HLN.out.ext hx)
        clear HLN
        have HLN := HLN'
        clear HLN'
        rw [← hSe]
        generalize v1.alloc (.cells #[.slice none 0 0, .slice none 0 0, .slice none 0 0, .slice none 0 0] 44 (0, 0)) = v2 at *
        clear hx hSe
        have HR2 := hid (HRV.out v2 HX2.out)
        refine hK.out _ _ trivial ?_
        clear hK K' HR1
        (try simp only [Act.put, List.setIfInBounds_toArray, List.set_cons_zero, List.set_cons_succ])
        refine wpT_one 3 rfl (by kernel_rfl) (by rfl) (fun K' hK => ?_)
        go_simp
        have hx := Ext.alloc (Ext.refl v2) (.cells #[.slice none 0 0, .slice none 0 0, .slice none 0 0, .slice none 0 0] 47 (0, 0))
        have HX3 := hid (HX2.out.trans hx)
        have HV3 := hid (heap_alloc_new v2 (.cells #[.slice none 0 0, .slice none 0 0, .slice none 0 0, .slice none 0 0] 47 (0, 0)))
        obtain ⟨V, hVe⟩ : ∃ z, z = v2.heap.size := ⟨_, rfl⟩
        have HVN : Hid (V = v2.heap.size ∧ (v2.alloc (.cells #[.slice none 0 0, .slice none 0 0, .slice none 0 0, .slice none 0 0] 47 (0, 0))).heap.size = V + 1) := ⟨hVe, by rw [World.size_alloc, hVe]⟩
        rw [← hVe] at HV3
        have HLN' := hid (HLN.out.ext hx)
        clear HLN
        have HLN := HLN'
        clear HLN'
        have HS3 := hid (block_ext hx HS2.out)
        clear HS2
        rw [← hVe]
        generalize v2.alloc (.cells #[.slice none 0 0, .slice none 0 0, .slice none 0 0, .slice none 0 0] 47 (0, 0)) = v3 at *
        clear hx hVe
        have HR3 := hid (HRV.out v3 HX3.out)
        refine hK.out _ _ trivial ?_
        clear hK K' HR2
        (try simp only [Act.put, List.setIfInBounds_toArray, List.set_cons_zero, List.set_cons_succ])
        have HSS : True := trivial
        refine wpT_take 4 (v := ?v55) rfl (by kernel_rfl) (by kernel_rfl) (by kernel_rfl) (by kernel_rfl) (by intro _ _ _ h; first | exact h | (obtain ⟨h, _⟩ := h; cases h)) (by rfl) HSS ?hy55 ?_
        case hy55 => (intro u hu; go_simp; first | done | (with_reducible rfl))
        (try simp only [Act.put, List.getElem_toArray, List.getElem_cons_zero, List.getElem_cons_succ, List.setIfInBounds_toArray, List.set_cons_zero, List.set_cons_succ])
        clear HSS
        refine wpT_done (by kernel_rfl) ?_
        refine wpAny_one 5 rfl (by kernel_rfl) (by rfl) (fun K' hK => ?_)
        have m0 := blk_cell HR3.out 0
        have f0 := blk_free HR3.out 0
        have m1 := blk_cell HR3.out 1
        have f1 := blk_free HR3.out 1
        have m2 := blk_cell HR3.out 2
        have f2 := blk_free HR3.out 2
        have m3 := blk_cell HR3.out 3
        have f3 := blk_free HR3.out 3
        have m4 := blk_cell HR3.out 4
        have f4 := blk_free HR3.out 4
        have m5 := blk_cell HR3.out 5
        have f5 := blk_free HR3.out 5
        have m6 := blk_cell HR3.out 6
        have f6 := blk_free HR3.out 6
        go_simp
        refine hK.out _ _ ?_
        (try simp only [Act.put, List.setIfInBounds_toArray, List.set_cons_zero, List.set_cons_succ])
        refine wpAny_done (by kernel_rfl) ?_ _
        have hz := HX1.out.size
        have hz2 := HX2.out.size
        have hz3 := HX3.out.size
        have hn := HN.out
        have hsn := HSN.out
        have hvn := HVN.out
        have hrl := HRL.out
        have hO : ∀ a0 a1 a2 a3 a4 a5 a6, Only w.heap.size v3 (((((((v3.setCell ⟨w.heap.size, 0, none⟩ a0).setCell ⟨w.heap.size, 1, none⟩ a1).setCell ⟨w.heap.size, 2, none⟩ a2).setCell ⟨w.heap.size, 3, none⟩ a3).setCell ⟨w.heap.size, 4, none⟩ a4).setCell ⟨w.heap.size, 5, none⟩ a5).setCell ⟨w.heap.size, 6, none⟩ a6) := fun _ _ _ _ _ _ _ => (((((((Only.refl _ _).setCell _).setCell _).setCell _).setCell _).setCell _).setCell _).setCell _
        exact ⟨N, S, V, _, _, _, _, _, _, _, rfl, sets7 HR3.out _ _ _ _ _ _ _, ⟨lies_only HLN.out (hO _ _ _ _ _ _ _) (by omega), (hO _ _ _ _ _ _ _).blk HS3.out (by omega), (hO _ _ _ _ _ _ _).blk HV3.out (by omega), by omega, by omega, by omega, by omega, by simp only [baseRO, List.length_cons, List.length_nil]; omega, by simp only [baseRO, List.length_cons, List.length_nil]; omega⟩, ⟨HX.out.below.trans (HX3.out.below.mono HX.out.size) |>.trans ((hO _ _ _ _ _ _ _).below (Nat.le_refl _) (by omega))⟩⟩
      · go_simp
        have hx := Ext.alloc (Ext.refl v1) (.cells #[.slice none 0 0, .slice none 0 0, .slice none 0 0, .slice none 0 0] 47 (0, 0))
        have HX2 := hid (HX1.out.trans hx)
        have HV2 := hid (heap_alloc_new v1 (.cells #[.slice none 0 0, .slice none 0 0, .slice none 0 0, .slice none 0 0] 47 (0, 0)))
        obtain ⟨V, hVe⟩ : ∃ z, z = v1.heap.size := ⟨_, rfl⟩
        have HVN : Hid (V = v1.heap.size ∧ (v1.alloc (.cells #[.slice none 0 0, .slice none 0 0, .slice none 0 0, .slice none 0 0] 47 (0, 0))).heap.size = V + 1) := ⟨hVe, by rw [World.size_alloc, hVe]⟩
        rw [← hVe] at HV2
        have HLN' := hid (HLN.out.ext hx)
        clear HLN
        have HLN := HLN'
        clear HLN'
        rw [← hVe]
        generalize v1.alloc (.cells #[.slice none 0 0, .slice none 0 0, .slice none 0 0, .slice none 0 0] 47 (0, 0)) = v2 at *
        clear hx hVe
        have HR2 := hid (HRV.out v2 HX2.out)
        refine hK.out _ _ trivial ?_
        clear hK K' HR1
        (try simp only [Act.put, List.setIfInBounds_toArray, List.set_cons_zero, List.set_cons_succ])
        refine wpT_one 2 rfl (by kernel_rfl) (by rfl) (fun K' hK => ?_)
        go_simp
        have hx := Ext.alloc (Ext.refl v2) (.cells #[.slice none 0 0, .slice none 0 0, .slice none 0 0, .slice none 0 0] 44 (0, 0))
        have HX3 := hid (HX2.out.trans hx)
        have HS3 := hid (heap_alloc_new v2 (.cells #[.slice none 0 0, .slice none 0 0, .slice none 0 0, .slice none 0 0] 44 (0, 0)))
        obtain ⟨S, hSe⟩ : ∃ z, z = v2.heap.size := ⟨_, rfl⟩
        have HSN : Hid (S = v2.heap.size ∧ (v2.alloc (.cells #[.slice none 0 0, .slice none 0 0, .slice none 0 0, .slice none 0 0] 44 (0, 0))).heap.size = S + 1) := ⟨hSe, by rw [World.size_alloc, hSe]⟩
        rw [← hSe] at HS3
        have HLN' := hid (HLN.out.ext hx)
        clear HLN
        have HLN := HLN'
        clear HLN'
        have HV3 := hid (block_ext hx HV2.out)
        clear HV2
        rw [← hSe]
        generalize v2.alloc (.cells #[.slice none 0 0, .slice none 0 0, .slice none 0 0, .slice none 0 0] 44 (0, 0)) = v3 at *
        clear hx hSe
        have HR3 := hid (HRV.out v3 HX3.out)
        refine hK.out _ _ trivial ?_
        clear hK K' HR2
        (try simp only [Act.put, List.setIfInBounds_toArray, List.set_cons_zero, List.set_cons_succ])
        have HSS : True := trivial
        refine wpT_take 4 (v := ?v56) rfl (by kernel_rfl) (by kernel_rfl) (by kernel_rfl) (by kernel_rfl) (by intro _ _ _ h; first | exact h | (obtain ⟨h, _⟩ := h; cases h)) (by rfl) HSS ?hy56 ?_
        case hy56 => (intro u hu; go_simp; first | done | (with_reducible rfl))
        (try simp only [Act.put, List.getElem_toArray, List.getElem_cons_zero, List.getElem_cons_succ, List.setIfInBounds_toArray, List.set_cons_zero, List.set_cons_succ])
        clear HSS
        refine wpT_done (by kernel_rfl) ?_
        refine wpAny_one 5 rfl (by kernel_rfl) (by rfl) (fun K' hK => ?_)
        have m0 := blk_cell HR3.out 0
        have f0 := blk_free HR3.out 0
        have m1 := blk_cell HR3.out 1
        have f1 := blk_free HR3.out 1
        have m2 := blk_cell HR3.out 2
        have f2 := blk_free HR3.out 2
        have m3 := blk_cell HR3.out 3
        have f3 := blk_free HR3.out 3
        have m4 := blk_cell HR3.out 4
        have f4 := blk_free HR3.out 4
        have m5 := blk_cell HR3.out 5
        have f5 := blk_free HR3.out 5
        have m6 := blk_cell HR3.out 6
        have f6 := blk_free HR3.out 6
        go_simp
        refine hK.out _ _ ?_
        (try simp only [Act.put, List.setIfInBounds_toArray, List.set_cons_zero, List.set_cons_succ])
        refine wpAny_done (by kernel_rfl) ?_ _
        have hz := HX1.out.size
        have hz2 := HX2.out.size
        have hz3 := HX3.out.size
        have hn := HN.out
        have hsn := HSN.out
        have hvn := HVN.out
        have hrl := HRL.out
        have hO : ∀ a0 a1 a2 a3 a4 a5 a6, Only w.heap.size v3 (((((((v3.setCell ⟨w.heap.size, 0, none⟩ a0).setCell ⟨w.heap.size, 1, none⟩ a1).setCell ⟨w.heap.size, 2, none⟩ a2).setCell ⟨w.heap.size, 3, none⟩ a3).setCell ⟨w.heap.size, 4, none⟩ a4).setCell ⟨w.heap.size, 5, none⟩ a5).setCell ⟨w.heap.size, 6, none⟩ a6) := fun _ _ _ _ _ _ _ => (((((((Only.refl _ _).setCell _).setCell _).setCell _).setCell _).setCell _).setCell _).setCell _
        exact ⟨N, S, V, _, _, _, _, _, _, _, rfl, sets7 HR3.out _ _ _ _ _ _ _, ⟨lies_only HLN.out (hO _ _ _ _ _ _ _) (by omega), (hO _ _ _ _ _ _ _).blk HS3.out (by omega), (hO _ _ _ _ _ _ _).blk HV3.out (by omega), by omega, by omega, by omega, by omega, by simp only [baseRO, List.length_cons, List.length_nil]; omega, by simp only [baseRO, List.length_cons, List.length_nil]; omega⟩, ⟨HX.out.below.trans (HX3.out.below.mono HX.out.size) |>.trans ((hO _ _ _ _ _ _ _).below (Nat.le_refl _) (by omega))⟩⟩
    · go_simp
      have hx := Ext.alloc (Ext.refl v0) (.cells #[.slice none 0 0, .slice none 0 0, .slice none 0 0, .slice none 0 0] 44 (0, 0))
      have HX1 := hid (HX0.out.trans hx)
      have HS1 := hid (heap_alloc_new v0 (.cells #[.slice none 0 0, .slice none 0 0, .slice none 0 0, .slice none 0 0] 44 (0, 0)))
      obtain ⟨S, hSe⟩ : ∃ z, z = v0.heap.size := ⟨_, rfl⟩
      have HSN : Hid (S = v0.heap.size ∧ (v0.alloc (.cells #[.slice none 0 0, .slice none 0 0, .slice none 0 0, .slice none 0 0] 44 (0, 0))).heap.size = S + 1) := ⟨hSe, by rw [World.size_alloc, hSe]⟩
      rw [← hSe] at HS1
      rw [← hSe]
      generalize v0.alloc (.cells #[.slice none 0 0, .slice none 0 0, .slice none 0 0, .slice none 0 0] 44 (0, 0)) = v1 at *
      clear hx hSe
      have HR1 := hid (HRV.out v1 HX1.out)
      refine hK.out _ _ trivial ?_
      clear hK K' HR0
      (try simp only [Act.put, List.setIfInBounds_toArray, List.set_cons_zero, List.set_cons_succ])
      refine wpT_two 0 3 rfl rfl (by kernel_rfl) (by rfl) (by rfl) (fun K' hK => ?_) (fun K' hK => ?_)
      · go_simp
        refine (base_to _).mono ?_
        rintro e v2 ⟨N, rfl, hN, hl, hx, hs⟩
        have HX2 := hid (HX1.out.trans hx)
        have HLN := hid hl
        have HN := hid (And.intro hN.out hs)
        have HS2 := hid (block_ext hx HS1.out)
        clear HS1
        clear hN hl hx hs
        have HR2 := hid (HRV.out v2 HX2.out)
        refine hK.out _ _ trivial ?_
        clear hK K' HR1
        (try simp only [Act.put, List.setIfInBounds_toArray, List.set_cons_zero, List.set_cons_succ])
        refine wpT_one 3 rfl (by kernel_rfl) (by rfl) (fun K' hK => ?_)
        go_simp
        have hx := Ext.alloc (Ext.refl v2) (.cells #[.slice none 0 0, .slice none 0 0, .slice none 0 0, .slice none 0 0] 47 (0, 0))
        have HX3 := hid (HX2.out.trans hx)
        have HV3 := hid (heap_alloc_new v2 (.cells #[.slice none 0 0, .slice none 0 0, .slice none 0 0, .slice none 0 0] 47 (0, 0)))
        obtain ⟨V, hVe⟩ : ∃ z, z = v2.heap.size := ⟨_, rfl⟩
        have HVN : Hid (V = v2.heap.size ∧ (v2.alloc (.cells #[.slice none 0 0, .slice none 0 0, .slice none 0 0, .slice none 0 0] 47 (0, 0))).heap.size = V + 1) := ⟨hVe, by rw [World.size_alloc, hVe]⟩
        rw [← hVe] at HV3
        have HS3 := hid (block_ext hx HS2.out)
        clear HS2
        have HLN' := hid (HLN.out.ext hx)
        clear HLN
        have HLN := HLN'
        clear HLN'
        rw [← hVe]
        generalize v2.alloc (.cells #[.slice none 0 0, .slice none 0 0, .slice none 0 0, .slice none 0 0] 47 (0, 0)) = v3 at *
        clear hx hVe
        have HR3 := hid (HRV.out v3 HX3.out)
        refine hK.out _ _ trivial ?_
        clear hK K' HR2
        (try simp only [Act.put, List.setIfInBounds_toArray, List.set_cons_zero, List.set_cons_succ])
        have HSS : True := trivial
        refine wpT_take 4 (v := ?v57) rfl (by kernel_rfl) (by kernel_rfl) (by kernel_rfl) (by kernel_rfl) (by intro _ _ _ h; first | exact h | (obtain ⟨h, _⟩ := h; cases h)) (by rfl) HSS ?hy57 ?_
        case hy57 => (intro u hu; go_simp; first | done | (with_reducible rfl))
        (try simp only [Act.put, List.getElem_toArray, List.getElem_cons_zero, List.getElem_cons_succ, List.setIfInBounds_toArray, List.set_cons_zero, List.set_cons_succ])
        clear HSS
        refine wpT_done (by kernel_rfl) ?_
        refine wpAny_one 5 rfl (by kernel_rfl) (by rfl) (fun K' hK => ?_)
        have m0 := blk_cell HR3.out 0
        have f0 := blk_free HR3.out 0
        have m1 := blk_cell HR3.out 1
        have f1 := blk_free HR3.out 1
        have m2 := blk_cell HR3.out 2
        have f2 := blk_free HR3.out 2
        have m3 := blk_cell HR3.out 3
        have f3 := blk_free HR3.out 3
        have m4 := blk_cell HR3.out 4
        have f4 := blk_free HR3.out 4
        have m5 := blk_cell HR3.out 5
        have f5 := blk_free HR3.out 5
        have m6 := blk_cell HR3.out 6
        have f6 := blk_free HR3.out 6
        go_simp
        refine hK.out _ _ ?_
        (try simp only [Act.put, List.setIfInBounds_toArray, List.set_cons_zero, List.set_cons_succ])
        refine wpAny_done (by kernel_rfl) ?_ _
        have hz := HX1.out.size
        have hz2 := HX2.out.size
        have hz3 := HX3.out.size
        have hn := HN.out
        have hsn := HSN.out
        have hvn := HVN.out
        have hrl := HRL.out
        have hO : ∀ a0 a1 a2 a3 a4 a5 a6, Only w.heap.size v3 (((((((v3.setCell ⟨w.heap.size, 0, none⟩ a0).setCell ⟨w.heap.size, 1, none⟩ a1).setCell ⟨w.heap.size, 2, none⟩ a2).setCell ⟨w.heap.size, 3, none⟩ a3).setCell ⟨w.heap.size, 4, none⟩ a4).setCell ⟨w.heap.size, 5, none⟩ a5).setCell ⟨w.heap.size, 6, none⟩ a6) := fun _ _ _ _ _ _ _ => (((((((Only.refl _ _).setCell _).setCell _).setCell _).setCell _).setCell _).setCell _).setCell _
        exact ⟨N, S, V, _, _, _, _, _, _, _, rfl, sets7 HR3.out _ _ _ _ _ _ _, ⟨lies_only HLN.out (hO _ _ _ _ _ _ _) (by omega), (hO _ _ _ _ _ _ _).blk HS3.out (by omega), (hO _ _ _ _ _ _ _).blk HV3.out (by omega), by omega, by omega, by omega, by omega, by simp only [baseRO, List.length_cons, List.length_nil]; omega, by simp only [baseRO, List.length_cons, List.length_nil]; omega⟩, ⟨HX.out.below.trans (HX3.out.below.mono HX.out.size) |>.trans ((hO _ _ _ _ _ _ _).below (Nat.le_refl _) (by omega))⟩⟩
      · go_simp
        have hx := Ext.alloc (Ext.refl v1) (.cells #[.slice none 0 0, .slice none 0 0, .slice none 0 0, .slice none 0 0] 47 (0, 0))
        have HX2 := hid (HX1.out.trans hx)
        have HV2 := hid (heap_alloc_new v1 (.cells #[.slice none 0 0, .slice none 0 0, .slice none 0 0, .slice none 0 0] 47 (0, 0)))
        obtain ⟨V, hVe⟩ : ∃ z, z = v1.heap.size := ⟨_, rfl⟩
        have HVN : Hid (V = v1.heap.size ∧ (v1.alloc (.cells #[.slice none 0 0, .slice none 0 0, .slice none 0 0, .slice none 0 0] 47 (0, 0))).heap.size = V + 1) := ⟨hVe, by rw [World.size_alloc, hVe]⟩
        rw [← hVe] at HV2
        have HS2 := hid (block_ext hx HS1.out)
        clear HS1
        rw [← hVe]
        generalize v1.alloc (.cells #[.slice none 0 0, .slice none 0 0, .slice none 0 0, .slice none 0 0] 47 (0, 0)) = v2 at *
        clear hx hVe
        have HR2 := hid (HRV.out v2 HX2.out)
        refine hK.out _ _ trivial ?_
        clear hK K' HR1
        (try simp only [Act.put, List.setIfInBounds_toArray, List.set_cons_zero, List.set_cons_succ])
        refine wpT_one 0 rfl (by kernel_rfl) (by rfl) (fun K' hK => ?_)
        go_simp
        refine (base_to _).mono ?_
        rintro e v3 ⟨N, rfl, hN, hl, hx, hs⟩
        have HX3 := hid (HX2.out.trans hx)
        have HLN := hid hl
        have HN := hid (And.intro hN.out hs)
        have HS3 := hid (block_ext hx HS2.out)
        clear HS2
        have HV3 := hid (block_ext hx HV2.out)
        clear HV2
        clear hN hl hx hs
        have HR3 := hid (HRV.out v3 HX3.out)
        refine hK.out _ _ trivial ?_
        clear hK K' HR2
        (try simp only [Act.put, List.setIfInBounds_toArray, List.set_cons_zero, List.set_cons_succ])
        have HSS : True := trivial
        refine wpT_take 4 (v := ?v58) rfl (by kernel_rfl) (by kernel_rfl) (by kernel_rfl) (by kernel_rfl) (by intro _ _ _ h; first | exact h | (obtain ⟨h, _⟩ := h; cases h)) (by rfl) HSS ?hy58 ?_
        case hy58 => (intro u hu; go_simp; first | done | (with_reducible rfl))
        (try simp only [Act.put, List.getElem_toArray, List.getElem_cons_zero, List.getElem_cons_succ, List.setIfInBounds_toArray, List.set_cons_zero, List.set_cons_succ])
        clear HSS
        refine wpT_done (by kernel_rfl) ?_
        refine wpAny_one 5 rfl (by kernel_rfl) (by rfl) (fun K' hK => ?_)
        have m0 := blk_cell HR3.out 0
        have f0 := blk_free HR3.out 0
        have m1 := blk_cell HR3.out 1
        have f1 := blk_free HR3.out 1
        have m2 := blk_cell HR3.out 2
        have f2 := blk_free HR3.out 2
        have m3 := blk_cell HR3.out 3
        have f3 := blk_free HR3.out 3
        have m4 := blk_cell HR3.out 4
        have f4 := blk_free HR3.out 4
        have m5 := blk_cell HR3.out 5
        have f5 := blk_free HR3.out 5
        have m6 := blk_cell HR3.out 6
        have f6 := blk_free HR3.out 6
        go_simp
        refine hK.out _ _ ?_
        (try simp only [Act.put, List.setIfInBounds_toArray, List.set_cons_zero, List.set_cons_succ])
        refine wpAny_done (by kernel_rfl) ?_ _
        have hz := HX1.out.size
        have hz2 := HX2.out.size
        have hz3 := HX3.out.size
        have hn := HN.out
        have hsn := HSN.out
        have hvn := HVN.out
        have hrl := HRL.out
        have hO : ∀ a0 a1 a2 a3 a4 a5 a6, Only w.heap.size v3 (((((((v3.setCell ⟨w.heap.size, 0, none⟩ a0).setCell ⟨w.heap.size, 1, none⟩ a1).setCell ⟨w.heap.size, 2, none⟩ a2).setCell ⟨w.heap.size, 3, none⟩ a3).setCell ⟨w.heap.size, 4, none⟩ a4).setCell ⟨w.heap.size, 5, none⟩ a5).setCell ⟨w.heap.size, 6, none⟩ a6) := fun _ _ _ _ _ _ _ => (((((((Only.refl _ _).setCell _).setCell _).setCell _).setCell _).setCell _).setCell _).setCell _
        exact ⟨N, S, V, _, _, _, _, _, _, _, rfl, sets7 HR3.out _ _ _ _ _ _ _, ⟨lies_only HLN.out (hO _ _ _ _ _ _ _) (by omega), (hO _ _ _ _ _ _ _).blk HS3.out (by omega), (hO _ _ _ _ _ _ _).blk HV3.out (by omega), by omega, by omega, by omega, by omega, by simp only [baseRO, List.length_cons, List.length_nil]; omega, by simp only [baseRO, List.length_cons, List.length_nil]; omega⟩, ⟨HX.out.below.trans (HX3.out.below.mono HX.out.size) |>.trans ((hO _ _ _ _ _ _ _).below (Nat.le_refl _) (by omega))⟩⟩
    · go_simp
      have hx := Ext.alloc (Ext.refl v0) (.cells #[.slice none 0 0, .slice none 0 0, .slice none 0 0, .slice none 0 0] 47 (0, 0))
      have HX1 := hid (HX0.out.trans hx)
      have HV1 := hid (heap_alloc_new v0 (.cells #[.slice none 0 0, .slice none 0 0, .slice none 0 0, .slice none 0 0] 47 (0, 0)))
      obtain ⟨V, hVe⟩ : ∃ z, z = v0.heap.size := ⟨_, rfl⟩
      have HVN : Hid (V = v0.heap.size ∧ (v0.alloc (.cells #[.slice none 0 0, .slice none 0 0, .slice none 0 0, .slice none 0 0] 47 (0, 0))).heap.size = V + 1) := ⟨hVe, by rw [World.size_alloc, hVe]⟩
      rw [← hVe] at HV1
      rw [← hVe]
      generalize v0.alloc (.cells #[.slice none 0 0, .slice none 0 0, .slice none 0 0, .slice none 0 0] 47 (0, 0)) = v1 at *
      clear hx hVe
      have HR1 := hid (HRV.out v1 HX1.out)
      refine hK.out _ _ trivial ?_
      clear hK K' HR0
      (try simp only [Act.put, List.setIfInBounds_toArray, List.set_cons_zero, List.set_cons_succ])
      refine wpT_two 0 2 rfl rfl (by kernel_rfl) (by rfl) (by rfl) (fun K' hK => ?_) (fun K' hK => ?_)
      · go_simp
        refine (base_to _).mono ?_
        rintro e v2 ⟨N, rfl, hN, hl, hx, hs⟩
        have HX2 := hid (HX1.out.trans hx)
        have HLN := hid hl
        have HN := hid (And.intro hN.out hs)
        have HV2 := hid (block_ext hx HV1.out)
        clear HV1
        clear hN hl hx hs
        have HR2 := hid (HRV.out v2 HX2.out)
        refine hK.out _ _ trivial ?_
        clear hK K' HR1
        (try simp only [Act.put, List.setIfInBounds_toArray, List.set_cons_zero, List.set_cons_succ])
        refine wpT_one 2 rfl (by kernel_rfl) (by rfl) (fun K' hK => ?_)
        go_simp
        have hx := Ext.alloc (Ext.refl v2) (.cells #[.slice none 0 0, .slice none 0 0, .slice none 0 0, .slice none 0 0] 44 (0, 0))
        have HX3 := hid (HX2.out.trans hx)
        have HS3 := hid (heap_alloc_new v2 (.cells #[.slice none 0 0, .slice none 0 0, .slice none 0 0, .slice none 0 0] 44 (0, 0)))
        obtain ⟨S, hSe⟩ : ∃ z, z = v2.heap.size := ⟨_, rfl⟩
        have HSN : Hid (S = v2.heap.size ∧ (v2.alloc (.cells #[.slice none 0 0, .slice none 0 0, .slice none 0 0, .slice none 0 0] 44 (0, 0))).heap.size = S + 1) := ⟨hSe, by rw [World.size_alloc, hSe]⟩
        rw [← hSe] at HS3
        have HV3 := hid (block_ext hx HV2.out)
        clear HV2
        have HLN' := hid (HLN.out.ext hx)
        clear HLN
        have HLN := HLN'
        clear HLN'
        rw [← hSe]
        generalize v2.alloc (.cells #[.slice none 0 0, .slice none 0 0, .slice none 0 0, .slice none 0 0] 44 (0, 0)) = v3 at *
        clear hx hSe
        have HR3 := hid (HRV.out v3 HX3.out)
        refine hK.out _ _ trivial ?_
        clear hK K' HR2
        (try simp only [Act.put, List.setIfInBounds_toArray, List.set_cons_zero, List.set_cons_succ])
        have HSS : True := trivial
        refine wpT_take 4 (v := ?v59) rfl (by kernel_rfl) (by kernel_rfl) (by kernel_rfl) (by kernel_rfl) (by intro _ _ _ h; first | exact h | (obtain ⟨h, _⟩ := h; cases h)) (by rfl) HSS ?hy59 ?_
        case hy59 => (intro u hu; go_simp; first | done | (with_reducible rfl))
        (try simp only [Act.put, List.getElem_toArray, List.getElem_cons_zero, List.getElem_cons_succ, List.setIfInBounds_toArray, List.set_cons_zero, List.set_cons_succ])
        clear HSS
        refine wpT_done (by kernel_rfl) ?_
        refine wpAny_one 5 rfl (by kernel_rfl) (by rfl) (fun K' hK => ?_)
        have m0 := blk_cell HR3.out 0
        have f0 := blk_free HR3.out 0
        have m1 := blk_cell HR3.out 1
        have f1 := blk_free HR3.out 1
        have m2 := blk_cell HR3.out 2
        have f2 := blk_free HR3.out 2
        have m3 := blk_cell HR3.out 3
        have f3 := blk_free HR3.out 3
        have m4 := blk_cell HR3.out 4
        have f4 := blk_free HR3.out 4
        have m5 := blk_cell HR3.out 5
        have f5 := blk_free HR3.out 5
        have m6 := blk_cell HR3.out 6
        have f6 := blk_free HR3.out 6
        go_simp
        refine hK.out _ _ ?_
        (try simp only [Act.put, List.setIfInBounds_toArray, List.set_cons_zero, List.set_cons_succ])
        refine wpAny_done (by kernel_rfl) ?_ _
        have hz := HX1.out.size
        have hz2 := HX2.out.size
        have hz3 := HX3.out.size
        have hn := HN.out
        have hsn := HSN.out
        have hvn := HVN.out
        have hrl := HRL.out
        have hO : ∀ a0 a1 a2 a3 a4 a5 a6, Only w.heap.size v3 (((((((v3.setCell ⟨w.heap.size, 0, none⟩ a0).setCell ⟨w.heap.size, 1, none⟩ a1).setCell ⟨w.heap.size, 2, none⟩ a2).setCell ⟨w.heap.size, 3, none⟩ a3).setCell ⟨w.heap.size, 4, none⟩ a4).setCell ⟨w.heap.size, 5, none⟩ a5).setCell ⟨w.heap.size, 6, none⟩ a6) := fun _ _ _ _ _ _ _ => (((((((Only.refl _ _).setCell _).setCell _).setCell _).setCell _).setCell _).setCell _).setCell _
        exact ⟨N, S, V, _, _, _, _, _, _, _, rfl, sets7 HR3.out _ _ _ _ _ _ _, ⟨lies_only HLN.out (hO _ _ _ _ _ _ _) (by omega), (hO _ _ _ _ _ _ _).blk HS3.out (by omega), (hO _ _ _ _ _ _ _).blk HV3.out (by omega), by omega, by omega, by omega, by omega, by simp only [baseRO, List.length_cons, List.length_nil]; omega, by simp only [baseRO, List.length_cons, List.length_nil]; omega⟩, ⟨HX.out.below.trans (HX3.out.below.mono HX.out.size) |>.trans ((hO _ _ _ _ _ _ _).below (Nat.le_refl _) (by omega))⟩⟩
      · go_simp
        have hx := Ext.alloc (Ext.refl v1) (.cells #[.slice none 0 0, .slice none 0 0, .slice none 0 0, .slice none 0 0] 44 (0, 0))
        have HX2 := hid (HX1.out.trans hx)
        have HS2 := hid (heap_alloc_new v1 (.cells #[.slice none 0 0, .slice none 0 0, .slice none 0 0, .slice none 0 0] 44 (0, 0)))
        obtain ⟨S, hSe⟩ : ∃ z, z = v1.heap.size := ⟨_, rfl⟩
        have HSN : Hid (S = v1.heap.size ∧ (v1.alloc (.cells #[.slice none 0 0, .slice none 0 0, .slice none 0 0, .slice none 0 0] 44 (0, 0))).heap.size = S + 1) := ⟨hSe, by rw [World.size_alloc, hSe]⟩
        rw [← hSe] at HS2
        have HV2 := hid (block_ext hx HV1.out)
        clear HV1
        rw [← hSe]
        generalize v1.alloc (.cells #[.slice none 0 0, .slice none 0 0, .slice none 0 0, .slice none 0 0] 44 (0, 0)) = v2 at *
        clear hx hSe
        have HR2 := hid (HRV.out v2 HX2.out)
        refine hK.out _ _ trivial ?_
        clear hK K' HR1
        (try simp only [Act.put, List.setIfInBounds_toArray, List.set_cons_zero, List.set_cons_succ])
        refine wpT_one 0 rfl (by kernel_rfl) (by rfl) (fun K' hK => ?_)
        go_simp
        refine (base_to _).mono ?_
        rintro e v3 ⟨N, rfl, hN, hl, hx, hs⟩
        have HX3 := hid (HX2.out.trans hx)
        have HLN := hid hl
        have HN := hid (And.intro hN.out hs)
        have HV3 := hid (block_ext hx HV2.out)
        clear HV2
        have HS3 := hid (block_ext hx HS2.out)
        clear HS2
        clear hN hl hx hs
        have HR3 := hid (HRV.out v3 HX3.out)
        refine hK.out _ _ trivial ?_
        clear hK K' HR2
        (try simp only [Act.put, List.setIfInBounds_toArray, List.set_cons_zero, List.set_cons_succ])
        have HSS : True := trivial
        refine wpT_take 4 (v := ?v60) rfl (by kernel_rfl) (by kernel_rfl) (by kernel_rfl) (by kernel_rfl) (by intro _ _ _ h; first | exact h | (obtain ⟨h, _⟩ := h; cases h)) (by rfl) HSS ?hy60 ?_
        case hy60 => (intro u hu; go_simp; first | done | (with_reducible rfl))
        (try simp only [Act.put, List.getElem_toArray, List.getElem_cons_zero, List.getElem_cons_succ, List.setIfInBounds_toArray, List.set_cons_zero, List.set_cons_succ])
        clear HSS
        refine wpT_done (by kernel_rfl) ?_
        refine wpAny_one 5 rfl (by kernel_rfl) (by rfl) (fun K' hK => ?_)
        have m0 := blk_cell HR3.out 0
        have f0 := blk_free HR3.out 0
        have m1 := blk_cell HR3.out 1
        have f1 := blk_free HR3.out 1
        have m2 := blk_cell HR3.out 2
        have f2 := blk_free HR3.out 2
        have m3 := blk_cell HR3.out 3
        have f3 := blk_free HR3.out 3
        have m4 := blk_cell HR3.out 4
        have f4 := blk_free HR3.out 4
        have m5 := blk_cell HR3.out 5
        have f5 := blk_free HR3.out 5
        have m6 := blk_cell HR3.out 6
        have f6 := blk_free HR3.out 6
        go_simp
        refine hK.out _ _ ?_
        (try simp only [Act.put, List.setIfInBounds_toArray, List.set_cons_zero, List.set_cons_succ])
        refine wpAny_done (by kernel_rfl) ?_ _
        have hz := HX1.out.size
        have hz2 := HX2.out.size
        have hz3 := HX3.out.size
        have hn := HN.out
        have hsn := HSN.out
        have hvn := HVN.out
        have hrl := HRL.out
        have hO : ∀ a0 a1 a2 a3 a4 a5 a6, Only w.heap.size v3 (((((((v3.setCell ⟨w.heap.size, 0, none⟩ a0).setCell ⟨w.heap.size, 1, none⟩ a1).setCell ⟨w.heap.size, 2, none⟩ a2).setCell ⟨w.heap.size, 3, none⟩ a3).setCell ⟨w.heap.size, 4, none⟩ a4).setCell ⟨w.heap.size, 5, none⟩ a5).setCell ⟨w.heap.size, 6, none⟩ a6) := fun _ _ _ _ _ _ _ => (((((((Only.refl _ _).setCell _).setCell _).setCell _).setCell _).setCell _).setCell _).setCell _
        exact ⟨N, S, V, _, _, _, _, _, _, _, rfl, sets7 HR3.out _ _ _ _ _ _ _, ⟨lies_only HLN.out (hO _ _ _ _ _ _ _) (by omega), (hO _ _ _ _ _ _ _).blk HS3.out (by omega), (hO _ _ _ _ _ _ _).blk HV3.out (by omega), by omega, by omega, by omega, by omega, by simp only [baseRO, List.length_cons, List.length_nil]; omega, by simp only [baseRO, List.length_cons, List.length_nil]; omega⟩, ⟨HX.out.below.trans (HX3.out.below.mono HX.out.size) |>.trans ((hO _ _ _ _ _ _ _).below (Nat.le_refl _) (by omega))⟩⟩
  · refine fun a' y => ex_elim fun N => ex_elim fun S => ex_elim fun V => ex_elim fun u0 => ex_elim fun u1 => ex_elim fun u3 => ex_elim fun u4 => ex_elim fun u5 => ex_elim fun u6 => ex_elim fun u7 => ?_
    rintro ⟨rfl, hy, hH, hx⟩
    have m0 := blk_cell hy 0
    have m1 := blk_cell hy 1
    have m2 := blk_cell hy 2
    have m3 := blk_cell hy 3
    have m4 := blk_cell hy 4
    have m5 := blk_cell hy 5
    have m6 := blk_cell hy 6
    simp only [List.getElem?_toArray, List.getElem?_cons_zero, List.getElem?_cons_succ] at m0 m1 m2 m3 m4 m5 m6
    go_wp2
    exact bodyPost_ret (v := helpV N S V h) (by simp [results, Tryz.results9, go_sem, m0, m1, m2, m3, m4, m5, m6]) rfl ⟨N, S, V, rfl, hH, hx⟩
end Go.Proofs.YtmpgeabfogcblaaGreat

namespace Go.Proofs.YtmpgeabfogcblaaGreat
open Go.RowKit

theorem read_ok (w : World) {l : List UInt8} (h : scrOk l = true) : Calls Tryz.prog 5 #[.string (str l)] w (ReadGood (scrR ⟨l, 0⟩).1 w) := by
  obtain ⟨h1, h2, h3, h4⟩ := progOk_iff.2 h
  have hs := progOk_same h
  obtain ⟨q, s, hq⟩ : ∃ q s, scrP ⟨⟨l, 0⟩, false⟩ = (q, s) := ⟨_, _, rfl⟩
  rw [hq] at h2 h3 h4 hs
  have hs' : q = (scrR ⟨l, 0⟩).1 := hs
  have h3' : s.r.s = [] := h3
  subst hs'
  exact read_good w l h1 _ s hq h2 (by rw [h3']; rfl) h4
theorem read_no (w : World) {l : List UInt8} (h : scrOk l = false) : Calls Tryz.prog 5 #[.string (str l)] w (ReadBad w) := by
  by_cases hl : l.length ≤ 40000
  · obtain ⟨q, s, hq⟩ : ∃ q s, scrP ⟨⟨l, 0⟩, false⟩ = (q, s) := ⟨_, _, rfl⟩
    refine read_bad w l hl q s hq ?_
    cases hw : s.wrong
    · by_cases hz : s.r.s.length = 0
      · refine .inr (.inr ⟨rfl, hz, fun hi => ?_⟩)
        have hp : progOk l := by
          unfold progOk
          rw [hq]
          exact ⟨hl, hw, List.eq_nil_of_length_eq_zero hz, hi⟩
        rw [progOk_iff.1 hp] at h
        cases h
      · exact .inr (.inl ⟨rfl, by omega⟩)
    · exact .inl rfl
  · exact (read_large w l (by omega)).mono fun e w' ⟨he, hx⟩ => ⟨12, by decide, he, hx⟩
theorem scrBytes_of (w : World) (s : Scr) (pv dv sv av : Value) (hc : ScrV w s pv dv sv av) (hi : isScr s = 0 → CnfIn s.conf) (hb : isScr s = 0 → (allBytes s).length ≤ 80000) :
    Calls Tryz.prog 10 #[scrV s pv dv sv av] w (Yields w (.string (str (scrBytes s)))) := by
  by_cases h : isScr s = 0
  · rw [scrBytes_ok h]; exact scrBytes_yes w s pv dv sv av hc h (hi h) (hb h)
  · rw [scrBytes_bad h]; exact scrBytes_no w s pv dv sv av hc h

/-! ### A script that lies as the statements' own does -/
structure SV (N S V : Nat) (h : Int) (s : Scr) (w : World) : Prop where
  v : ScrV w s (.slice (some ⟨N + 3, 0, none⟩) 2 2) (.slice (some ⟨N + 13, 0, none⟩) 4 4) (.slice (some ⟨S, 0, none⟩) 4 4) (.slice (some ⟨V, 0, none⟩) 4 4)
  f : s.conf.frame = 8
  e : s.conf.epoch = 2
  h : s.horizon = h
theorem SV.ext {N S V : Nat} {h : Int} {s : Scr} {w w' : World} (x : Ext w w') (k : SV N S V h s w) : SV N S V h s w' := ⟨k.v.ext x, k.f, k.e, k.h⟩
theorem SV.val {N S V : Nat} {h : Int} {s : Scr} {w : World} (k : SV N S V h s w) : scrV s (.slice (some ⟨N + 3, 0, none⟩) 2 2) (.slice (some ⟨N + 13, 0, none⟩) 4 4) (.slice (some ⟨S, 0, none⟩) 4 4) (.slice (some ⟨V, 0, none⟩) 4 4) = helpV N S V h := by
  unfold scrV helpV
  rw [k.f, k.e, k.h]
/-- The elements of a row of rows, each in its cell. -/
theorem HelpS.script {base N S V : Nat} {os : List RO} {ss vs : List Value} {w : World} (h : HelpS base N S V os ss vs w) {hz : Int} {c : Cnf} {st : List (List Axn)} {ar : List (List Arv)} (hc : confOf os 8 2 (.s 3 2) (.s 13 4) = some c)
    (l1 : st.length = 4) (l2 : ar.length = 4) (hs : ∀ (i : Nat) l, st[i]? = some l → ∃ v, ss[i]? = some v ∧ AxnsV w v l) (hv : ∀ (i : Nat) l, ar[i]? = some l → ∃ v, vs[i]? = some v ∧ ArvsV w v l) : SV N S V hz ⟨c, hz, st, ar⟩ w := by
  obtain ⟨hf, he, hcv⟩ := conf_lies h.lies (pv := .s 3 2) (dv := .s 13 4) (RV.wf_of rfl) (RV.wf_of rfl) hc
  refine ⟨⟨hcv, ?_, ?_⟩, hf, he, rfl⟩
  · refine ⟨some ⟨S, 0, none⟩, 4, by rw [l1], by rw [l1]; omega, by unfold maxLen; omega, fun _ => ⟨S, 0, rfl, fun i x hi => ?_⟩⟩
    obtain ⟨v, h1, h2⟩ := hs i x hi
    refine ⟨v, ?_, h2⟩
    rw [blk_cell h.sb]
    simpa using h1
  · refine ⟨some ⟨V, 0, none⟩, 4, by rw [l2], by rw [l2]; omega, by unfold maxLen; omega, fun _ => ⟨V, 0, rfl, fun i x hi => ?_⟩⟩
    obtain ⟨v, h1, h2⟩ := hv i x hi
    refine ⟨v, ?_, h2⟩
    rw [blk_cell h.vb]
    simpa using h1
theorem axns_nil (w : World) : AxnsV w (.slice none 0 0) [] := ⟨none, 0, rfl, by simp, by unfold maxLen; omega, fun h => by simp at h⟩
theorem arvs_nil (w : World) : ArvsV w (.slice none 0 0) [] := ⟨none, 0, rfl, by simp, by unfold maxLen; omega, fun h => by simp at h⟩
theorem axns_one {w : World} {g : Nat} {x : Axn} (h : w.heap[g]? = some (.cells #[.int .i64 x.op, .int .i64 x.a, .int .i64 x.b] 43 (0, 0))) : AxnsV w (.slice (some ⟨g, 0, none⟩) 1 1) [x] :=
  ⟨_, _, rfl, by simp, by unfold maxLen; omega, fun _ => ⟨g, 0, rfl, fun i y hi => by
    match i, hi with
    | 0, hi =>
      simp at hi; subst hi
      exact ⟨blk_cell h 0, blk_cell h 1, blk_cell h 2⟩⟩⟩
theorem arvs_one {w : World} {g : Nat} {x : Arv} (h : w.heap[g]? = some (.cells #[.int .i64 x.tick, .int .i64 x.obj] 46 (0, 0))) : ArvsV w (.slice (some ⟨g, 0, none⟩) 1 1) [x] :=
  ⟨_, _, rfl, by simp, by unfold maxLen; omega, fun _ => ⟨g, 0, rfl, fun i y hi => by
    match i, hi with
    | 0, hi =>
      simp at hi; subst hi
      exact ⟨blk_cell h 0, blk_cell h 1⟩⟩⟩
theorem arvs_two {w : World} {g : Nat} {x y : Arv} (h : w.heap[g]? = some (.cells #[.int .i64 x.tick, .int .i64 x.obj, .int .i64 y.tick, .int .i64 y.obj] 46 (0, 0))) : ArvsV w (.slice (some ⟨g, 0, none⟩) 2 2) [x, y] :=
  ⟨_, _, rfl, by simp, by unfold maxLen; omega, fun _ => ⟨g, 0, rfl, fun i z hi => by
    match i, hi with
    | 0, hi =>
      simp at hi; subst hi
      exact ⟨blk_cell h 0, blk_cell h 1⟩
    | 1, hi =>
      simp at hi; subst hi
      exact ⟨blk_cell h 2, blk_cell h 3⟩⟩⟩

/-! ### The scripts of the check -/
def kS : Scr := ⟨baseC, 20, [[], [⟨1, 0, 3⟩], [], []], [[], [], [⟨3, 1⟩], []]⟩
def kU : Scr := ⟨baseC, 20, [[], [], [], []], [[⟨3, 0⟩, ⟨2, 0⟩], [], [], []]⟩
def kV : Scr := ⟨baseC, -1, [[], [], [], []], [[], [], [], []]⟩
theorem kS_is : isScr kS = 0 := by decide
theorem kU_is : isScr kU = 10 := by decide
theorem kV_is : isScr kV = 12 := by decide
theorem cats_ok {c : Cnf} (h : c.doms.all (fun d => decide (0 ≤ d.cats) && decide (d.cats < 18446744073709551616)) = true) : ∀ d ∈ c.doms, U64 d.cats := fun d hd => by
  have := List.all_eq_true.1 h d hd
  simp only [Bool.and_eq_true, decide_eq_true_eq] at this
  exact this
theorem base_in : CnfIn baseC := isConf_in baseC_is (isConf_held baseC_is (cats_ok (by decide)))
theorem kS_len : (allBytes kS).length ≤ 40000 := allBytes_length kS_is base_in (fun d hd r hr => by have := (isConf_held baseC_is (cats_ok (by decide))).route d hd r hr; revert d r; decide)
theorem dom_len (d : Dom) : 17 ≤ (domBytes d).length := by
  have h1 := numB_pos d.level
  have h2 := bitsB_length d.cats
  have h3 := numB_pos d.routes.length
  have h4 := numB_pos d.to
  have h5 := numB_pos d.release.length
  have h6 := numB_pos d.threads
  have h7 := numB_pos d.groups
  have h8 := numB_pos d.ring
  have h9 := numB_pos d.sends
  have h10 := numB_pos d.box
  simp only [domBytes, rowB, List.length_append]
  omega
theorem kS_long : 60 < (allBytes kS).length := by
  have h : ∀ l : List Dom, 17 * l.length ≤ (l.flatMap domBytes).length := fun l => by
    induction l with
    | nil => simp
    | cons d l ih =>
      have := dom_len d
      rw [List.flatMap_cons, List.length_append, List.length_cons]
      omega
  have h4 := h kS.conf.doms
  have e : kS.conf.doms.length = 4 := rfl
  simp only [allBytes, confBytes, List.length_append]
  omega
theorem kS_ok : scrOk (allBytes kS) = true := scrOk_bytes kS_is base_in kS_len
theorem kS_read : (scrR ⟨allBytes kS, 0⟩).1 = kS := by rw [scr_back' kS_is base_in]
theorem no_ok : scrOk [] = false := by decide
end Go.Proofs.YtmpgeabfogcblaaGreat

namespace Go.Proofs.YtmpgeabfogcblaaGreat
open Go.RowKit

abbrev helpO (N S V : Nat) (h : Int) : Obj := .cells #[.int .i64 8, .int .i64 2, .slice (some ⟨N + 3, 0, none⟩) 2 2, .slice (some ⟨N + 13, 0, none⟩) 4 4, .int .i64 h, .slice (some ⟨S, 0, none⟩) 4 4, .slice (some ⟨V, 0, none⟩) 4 4] 30 (0, 0)
abbrev axnO (a b c : Int) : Obj := .cells #[.int .i64 a, .int .i64 b, .int .i64 c] 43 (0, 0)
theorem HelpS.putS {base N S V : Nat} {os : List RO} {ss vs : List Value} {w : World} (h : HelpS base N S V os ss vs w) (j : Nat) (u : Value) : HelpS base N S V os (ss.set j u) vs (w.setCell ⟨S, j, none⟩ u) :=
  ⟨h.lies.other u h.sn, by rw [blk_set h.sb j u]; simp, (Below.heap_setCell _ _ _ _ (by simp; exact h.sv.symm)).trans h.vb, h.hN, h.hS, h.hV, h.sv, h.sn, h.vn⟩
theorem HelpS.putV {base N S V : Nat} {os : List RO} {ss vs : List Value} {w : World} (h : HelpS base N S V os ss vs w) (j : Nat) (u : Value) : HelpS base N S V os ss (vs.set j u) (w.setCell ⟨V, j, none⟩ u) :=
  ⟨h.lies.other u h.vn, (Below.heap_setCell _ _ _ _ (by simp; exact h.sv)).trans h.sb, by rw [blk_set h.vb j u]; simp, h.hN, h.hS, h.hV, h.sv, h.sn, h.vn⟩
theorem heap_new3 (w : World) (o1 o2 o3 : Obj) : (((w.alloc o1).alloc o2).alloc o3).heap[w.heap.size + 2]? = some o3 := by
  have := heap_new2 (w.alloc o1) o2 o3
  rwa [World.size_alloc] at this
theorem heap_new2' (w : World) (p : Addr) (u : Value) (o1 o2 : Obj) : (((w.setCell p u).alloc o1).alloc o2).heap[w.heap.size]? = some o1 ∧ (((w.setCell p u).alloc o1).alloc o2).heap[w.heap.size + 1]? = some o2 := by
  have h1 := heap_alloc_new (w.setCell p u) o1
  have h2 := heap_new2 (w.setCell p u) o1 o2
  have e : (w.setCell p u).heap.size = w.heap.size := by simp [World.setCell]
  rw [e] at h1 h2
  exact ⟨block_ext (Ext.alloc (Ext.refl _) _) h1, h2⟩
abbrev arvO (a b : Int) : Obj := .cells #[.int .i64 a, .int .i64 b] 46 (0, 0)
theorem heap_new1' (w : World) (p : Addr) (u : Value) (o1 : Obj) : ((w.setCell p u).alloc o1).heap[w.heap.size]? = some o1 := by
  have h1 := heap_alloc_new (w.setCell p u) o1
  have e : (w.setCell p u).heap.size = w.heap.size := by simp [World.setCell]
  rwa [e] at h1
theorem kBytes {N S V : Nat} {w : World} (k : SV N S V 20 kS w) : Calls Tryz.prog 10 #[helpV N S V 20] w (Yields w (.string (str (allBytes kS)))) := by
  have := scrBytes_yes w kS _ _ _ _ k.v kS_is base_in (by have := kS_len; omega)
  rwa [k.val] at this
theorem is_errno_to' {n m : Int} {r : Bool} (e : (n == m) = r) (w : World) : Calls Tryz.prog 8 #[.iface 39 (.int .i64 n), .iface 39 (.int .i64 m)] w (Yields w (.bool r)) := e ▸ Err.is_errno n m w
theorem sIs {N S V : Nat} {h : Int} {s : Scr} {n : Nat} (e : isScr s = n) {w : World} (k : SV N S V h s w) : Calls Tryz.prog 11 #[helpV N S V h] w (Yields w (errV n)) := by
  have := scrIs_to e w _ _ _ _ k.v
  rwa [k.val] at this
theorem kIs0 {N S V : Nat} {w : World} (k : SV N S V 20 kS w) : Calls Tryz.prog 11 #[helpV N S V 20] w (Yields w .nilIface) := sIs kS_is k
theorem kIsU {N S V : Nat} {w : World} (k : SV N S V 20 kU w) : Calls Tryz.prog 11 #[helpV N S V 20] w (Yields w (.iface 39 (.int .i64 10))) := sIs kU_is k
theorem kIsV {N S V : Nat} {w : World} (k : SV N S V (-1) kV w) : Calls Tryz.prog 11 #[helpV N S V (-1)] w (Yields w (.iface 39 (.int .i64 12))) := sIs kV_is k
theorem kBytesV {N S V : Nat} {w : World} (k : SV N S V (-1) kV w) : Calls Tryz.prog 10 #[helpV N S V (-1)] w (Yields w (.string { data := #[] })) := by
  have := scrBytes_no w kV _ _ _ _ k.v (by rw [kV_is]; decide)
  rw [k.val] at this
  exact this
theorem kSameV {N S V N' S' V' : Nat} {w : World} (k : SV N S V 20 kS w) (k' : SV N' S' V' (-1) kV w) : Calls Tryz.prog 12 #[helpV N S V 20, helpV N' S' V' (-1)] w (Yields w (.bool false)) := by
  have := scrSame_to (r := false) (by decide) w _ _ _ _ _ _ _ _ k.v k'.v
  rwa [k.val, k'.val] at this
theorem kSameT {N S V cp cd cs ca : Nat} {pp pd ps pa : Option Addr} {w : World} (k : SV N S V 20 kS w) (k' : ScrV w kS (.slice pp 2 cp) (.slice pd 4 cd) (.slice ps 4 cs) (.slice pa 4 ca)) : Calls Tryz.prog 12 #[helpV N S V 20, .agg #[.int .i64 8, .int .i64 2, .slice pp 2 cp, .slice pd 4 cd, .int .i64 20, .slice ps 4 cs, .slice pa 4 ca]] w (Yields w (.bool true)) := by
  have := scrSame_to (sameS_self kS) w _ _ _ _ _ _ _ _ k.v k'
  rw [k.val] at this
  exact this
theorem kRead (w : World) : Calls Tryz.prog 5 #[.string (str (allBytes kS))] w (fun e w' => ∃ pp cp pd cd ps cs pa ca, e = .returned (.tuple #[.agg #[.int .i64 8, .int .i64 2, .slice pp 2 cp, .slice pd 4 cd, .int .i64 20, .slice ps 4 cs, .slice pa 4 ca], .nilIface]) ∧ ScrV w' kS (.slice pp 2 cp) (.slice pd 4 cd) (.slice ps 4 cs) (.slice pa 4 ca) ∧ Ext w w') := by
  have := read_ok w kS_ok
  rw [kS_read] at this
  exact this
theorem kNo (w : World) : Calls Tryz.prog 5 #[.string { data := #[] }] w (ReadBad w) := by
  exact read_no w no_ok
set_option maxRecDepth 100000 in
set_option maxHeartbeats 8000000 in
theorem known4_any (w : World) : Calls Tryz.prog 4 #[] w (Yields w (.bool true)) := by
  go_enter Tryz.func4, Tryz.ntmps4
  go_wp2_with fail
  refine (help_any _ 20).mono ?_
  rintro e w1 ⟨N1, S1, V1, rfl, h1, x1⟩
  have c1 := blk_cell h1.sb 1
  have f1 := blk_free h1.sb 1
  have b1 := lt_of_block h1.sb
  simp only [nil4, List.getElem?_toArray, List.getElem?_cons_zero, List.getElem?_cons_succ] at c1
  go_upto_region 3 with fail
  refine wp_forget (fun v => HelpS w.heap.size N1 S1 V1 baseRO [.slice none 0 0, .slice (some ⟨w1.heap.size + 1, 0, none⟩) 1 1, .slice none 0 0, .slice none 0 0] nil4 v ∧ v.heap[w1.heap.size]? = some (helpO N1 S1 V1 20) ∧ v.heap[w1.heap.size + 1]? = some (axnO 1 0 3) ∧ Ext w v)
    ⟨(h1.putS 1 _).ext (Ext.alloc (Ext.alloc (Ext.refl _) _) _), (heap_new2' w1 _ _ _ _).1, (heap_new2' w1 _ _ _ _).2, Ext.alloc (Ext.alloc (Ext.setCell x1 h1.hS _) _) _⟩ ?_
  rintro v2 ⟨h2, hA2, hL2, x2⟩
  clear c1 f1 b1 h1 x1
  generalize w1.heap.size = A1 at *
  clear w1
  have c2 := blk_cell h2.vb 2
  have f2 := blk_free h2.vb 2
  have b2 := lt_of_block h2.vb
  have b3 := lt_of_block hA2
  have k6 := blk_cell hA2 6
  simp only [nil4, List.getElem?_toArray, List.getElem?_cons_zero, List.getElem?_cons_succ] at c2 k6
  go_upto_region 4 with fail
  refine wp_forget (fun v => SV N1 S1 V1 20 kS v ∧ v.heap[A1]? = some (helpO N1 S1 V1 20) ∧ Ext w v) ⟨?_, ?_, Ext.alloc (Ext.setCell x2 h2.hV _) _⟩ ?_
  · have h3 := (h2.putV 2 (.slice (some ⟨v2.heap.size, 0, none⟩) 1 1)).ext (Ext.alloc (Ext.refl _) (arvO 3 1))
    have hn := heap_new1' v2 ⟨V1, 2, none⟩ (.slice (some ⟨v2.heap.size, 0, none⟩) 1 1) (arvO 3 1)
    have hl : ((v2.setCell ⟨V1, 2, none⟩ (.slice (some ⟨v2.heap.size, 0, none⟩) 1 1)).alloc (arvO 3 1)).heap[A1 + 1]? = some (axnO 1 0 3) := block_ext (Ext.alloc (Ext.refl _) _) ((Below.heap_setCell _ _ _ _ (fun e => by
      have h4 := h2.vb
      simp only at e
      rw [← e, hL2] at h4
      simp at h4)).trans hL2)
    refine h3.script baseC_of rfl rfl (fun i l hi => ?_) (fun i l hi => ?_)
    · match i, hi with
      | 0, hi => simp at hi; subst hi; exact ⟨_, rfl, axns_nil _⟩
      | 1, hi => simp at hi; subst hi; exact ⟨_, rfl, axns_one (x := ⟨1, 0, 3⟩) hl⟩
      | 2, hi => simp at hi; subst hi; exact ⟨_, rfl, axns_nil _⟩
      | 3, hi => simp at hi; subst hi; exact ⟨_, rfl, axns_nil _⟩
    · match i, hi with
      | 0, hi => simp at hi; subst hi; exact ⟨_, rfl, arvs_nil _⟩
      | 1, hi => simp at hi; subst hi; exact ⟨_, rfl, arvs_nil _⟩
      | 2, hi => simp at hi; subst hi; exact ⟨_, rfl, arvs_one (x := ⟨3, 1⟩) hn⟩
      | 3, hi => simp at hi; subst hi; exact ⟨_, rfl, arvs_nil _⟩
  · exact block_ext (Ext.alloc (Ext.refl _) _) ((Below.heap_setCell _ _ _ _ (fun e => by
      have h4 := h2.vb
      simp only at e
      rw [← e, hA2] at h4
      simp at h4)).trans hA2)
  clear c2 f2 b2 b3 k6 h2 hA2 hL2 x2
  rintro v3 ⟨hs, hA, hx⟩
  have HS := hid hs
  have HA := hid hA
  have HX := hid hx
  have k0 := blk_cell hA 0
  have k1 := blk_cell hA 1
  have k2 := blk_cell hA 2
  have k3 := blk_cell hA 3
  have k4 := blk_cell hA 4
  have k5 := blk_cell hA 5
  have k6 := blk_cell hA 6
  simp only [List.getElem?_toArray, List.getElem?_cons_zero, List.getElem?_cons_succ] at k0 k1 k2 k3 k4 k5 k6
  clear hs hA hx
  go_upto_region 5 with (go_at_call 10; refine (kBytes HS.out).yields ?_; intro p1)
  refine wp_forget (fun v => SV N1 S1 V1 20 kS v ∧ v.heap[A1]? = some (helpO N1 S1 V1 20) ∧ Ext w v) ⟨HS.out.ext (by repeat (first | exact Ext.refl _ | assumption | refine Ext.more ?_ _ | refine Ext.drew ?_ | refine Ext.drewN ?_ _ | refine Ext.alloc ?_ _ | refine Ext.setCell ?_ (by simp; try omega) _ | refine Ext.trans ?_ (by assumption))), block_ext (by repeat (first | exact Ext.refl _ | assumption | refine Ext.more ?_ _ | refine Ext.drew ?_ | refine Ext.drewN ?_ _ | refine Ext.alloc ?_ _ | refine Ext.setCell ?_ (by simp; try omega) _ | refine Ext.trans ?_ (by assumption))) HA.out, HX.out.trans (by repeat (first | exact Ext.refl _ | assumption | refine Ext.more ?_ _ | refine Ext.drew ?_ | refine Ext.drewN ?_ _ | refine Ext.alloc ?_ _ | refine Ext.setCell ?_ (by simp; try omega) _ | refine Ext.trans ?_ (by assumption)))⟩ ?_
  clear k0 k1 k2 k3 k4 k5 k6 HS HA HX
  clear p1
  rintro v4 ⟨hs, hA, hx⟩
  have HS := hid hs
  have HA := hid hA
  have HX := hid hx
  clear hs hA hx
  go_upto_region 6 with (go_at_call 5; refine (kRead _).mono ?_; rintro e v5 ⟨pp, cp, pd, cd, ps, cs, pa, ca, rfl, ht, hx5⟩; have HT := hid ht; have HX5 := hid hx5; clear ht hx5)
  refine wp_forget (fun v => SV N1 S1 V1 20 kS v ∧ v.heap[A1]? = some (helpO N1 S1 V1 20) ∧ Ext w v ∧ ScrV v kS (.slice pp 2 cp) (.slice pd 4 cd) (.slice ps 4 cs) (.slice pa 4 ca) ∧ v.heap[v5.heap.size]? = some (.cells #[.int .i64 8, .int .i64 2, .slice pp 2 cp, .slice pd 4 cd, .int .i64 20, .slice ps 4 cs, .slice pa 4 ca] 30 (0, 0))) ⟨(HS.out.ext HX5.out).ext (by repeat (first | exact Ext.refl _ | assumption | refine Ext.more ?_ _ | refine Ext.drew ?_ | refine Ext.drewN ?_ _ | refine Ext.alloc ?_ _ | refine Ext.setCell ?_ (by simp; try omega) _ | refine Ext.trans ?_ (by assumption))), block_ext (by repeat (first | exact Ext.refl _ | assumption | refine Ext.more ?_ _ | refine Ext.drew ?_ | refine Ext.drewN ?_ _ | refine Ext.alloc ?_ _ | refine Ext.setCell ?_ (by simp; try omega) _ | refine Ext.trans ?_ (by assumption))) (block_ext HX5.out HA.out), (HX.out.trans HX5.out).trans (by repeat (first | exact Ext.refl _ | assumption | refine Ext.more ?_ _ | refine Ext.drew ?_ | refine Ext.drewN ?_ _ | refine Ext.alloc ?_ _ | refine Ext.setCell ?_ (by simp; try omega) _ | refine Ext.trans ?_ (by assumption))), HT.out.ext (by repeat (first | exact Ext.refl _ | assumption | refine Ext.more ?_ _ | refine Ext.drew ?_ | refine Ext.drewN ?_ _ | refine Ext.alloc ?_ _ | refine Ext.setCell ?_ (by simp; try omega) _ | refine Ext.trans ?_ (by assumption))), heap_alloc_new v5 _⟩ ?_
  clear HS HA HX HT HX5
  generalize v5.heap.size = A3 at *
  rintro v6 ⟨hs, hA, hx, ht, hA3⟩
  have HS := hid hs
  have HA := hid hA
  have HX := hid hx
  have HT := hid ht
  have HA3 := hid hA3
  clear hs hA hx ht hA3
  go_upto_region 7 with (go_at_call 5; refine (kNo _).mono ?_; rintro e v7 ⟨n, hn, rfl, hx7⟩; have HNN := hid hn; have HX7 := hid hx7; clear hn hx7)
  refine wp_forget (fun v => Ext v6 v) (HX7.out.alloc _) ?_
  clear HX7
  rintro v8 hx8
  have HS' := hid (HS.out.ext hx8)
  have HA' := hid (block_ext hx8 HA.out)
  have HX' := hid (HX.out.trans hx8)
  have HT' := hid (HT.out.ext hx8)
  have HA3' := hid (block_ext hx8 HA3.out)
  clear HS HA HX HT HA3 hx8
  go_upto_region 8 with (go_at_call 9; refine (help_any _ 20).mono ?_; rintro e v9 ⟨N2, S2, V2, rfl, h9, x9⟩; have H9 := hid h9; have X9 := hid x9; clear h9 x9)
  refine wp_forget (fun v => HelpS v8.heap.size N2 S2 V2 baseRO nil4 nil4 v ∧ v.heap[v9.heap.size]? = some (helpO N2 S2 V2 20) ∧ Ext v8 v) ⟨H9.out.ext (by repeat (first | exact Ext.refl _ | assumption | refine Ext.more ?_ _ | refine Ext.drew ?_ | refine Ext.drewN ?_ _ | refine Ext.alloc ?_ _ | refine Ext.setCell ?_ (by simp; try omega) _ | refine Ext.trans ?_ (by assumption))), heap_alloc_new v9 _, X9.out.trans (by repeat (first | exact Ext.refl _ | assumption | refine Ext.more ?_ _ | refine Ext.drew ?_ | refine Ext.drewN ?_ _ | refine Ext.alloc ?_ _ | refine Ext.setCell ?_ (by simp; try omega) _ | refine Ext.trans ?_ (by assumption)))⟩ ?_
  clear H9 X9
  generalize v9.heap.size = A7 at *
  rintro va ⟨h2, hA7, x2⟩
  have c2 := blk_cell h2.vb 0
  have f2 := blk_free h2.vb 0
  have b2 := lt_of_block h2.vb
  have b3 := lt_of_block hA7
  have k6 := blk_cell hA7 6
  simp only [nil4, List.getElem?_toArray, List.getElem?_cons_zero, List.getElem?_cons_succ] at c2 k6
  have H2 := hid h2
  have HA7 := hid hA7
  have X2 := hid x2
  clear h2 hA7 x2
  go_upto_region 9 with fail
  refine wp_forget (fun v => SV N2 S2 V2 20 kU v ∧ v.heap[A7]? = some (helpO N2 S2 V2 20) ∧ Ext v8 v) ⟨?_, ?_, Ext.alloc (Ext.setCell X2.out H2.out.hV _) _⟩ ?_
  · have h3 := (H2.out.putV 0 (.slice (some ⟨va.heap.size, 0, none⟩) 2 2)).ext (Ext.alloc (Ext.refl _) (.cells #[.int .i64 3, .int .i64 0, .int .i64 2, .int .i64 0] 46 (0, 0)))
    have hn := heap_new1' va ⟨V2, 0, none⟩ (.slice (some ⟨va.heap.size, 0, none⟩) 2 2) (.cells #[.int .i64 3, .int .i64 0, .int .i64 2, .int .i64 0] 46 (0, 0))
    refine h3.script baseC_of rfl rfl (fun i l hi => ?_) (fun i l hi => ?_)
    · match i, hi with
      | 0, hi => simp at hi; subst hi; exact ⟨_, rfl, axns_nil _⟩
      | 1, hi => simp at hi; subst hi; exact ⟨_, rfl, axns_nil _⟩
      | 2, hi => simp at hi; subst hi; exact ⟨_, rfl, axns_nil _⟩
      | 3, hi => simp at hi; subst hi; exact ⟨_, rfl, axns_nil _⟩
    · match i, hi with
      | 0, hi => simp at hi; subst hi; exact ⟨_, rfl, arvs_two (x := ⟨3, 0⟩) (y := ⟨2, 0⟩) hn⟩
      | 1, hi => simp at hi; subst hi; exact ⟨_, rfl, arvs_nil _⟩
      | 2, hi => simp at hi; subst hi; exact ⟨_, rfl, arvs_nil _⟩
      | 3, hi => simp at hi; subst hi; exact ⟨_, rfl, arvs_nil _⟩
  · exact block_ext (Ext.alloc (Ext.refl _) _) ((Below.heap_setCell _ _ _ _ (fun e => by
      have h4 := H2.out.vb
      simp only at e
      rw [← e, HA7.out] at h4
      simp at h4)).trans HA7.out)
  clear c2 f2 b2 b3 k6 H2 HA7 X2
  rintro vb ⟨hu, hA7, hxb⟩
  have HU := hid hu
  have HA7 := hid hA7
  have HXB := hid hxb
  clear hu hA7 hxb
  go_upto_region 10 with (go_at_call 9; refine (help_any _ (-1)).mono ?_; rintro e vc ⟨N3, S3, V3, rfl, h9, x9⟩; have H9 := hid h9; have X9 := hid x9; clear h9 x9)
  refine wp_forget (fun v => HelpS vb.heap.size N3 S3 V3 baseRO nil4 nil4 v ∧ v.heap[vc.heap.size]? = some (helpO N3 S3 V3 (-1)) ∧ Ext vb v) ⟨H9.out.ext (by repeat (first | exact Ext.refl _ | assumption | refine Ext.more ?_ _ | refine Ext.drew ?_ | refine Ext.drewN ?_ _ | refine Ext.alloc ?_ _ | refine Ext.setCell ?_ (by simp; try omega) _ | refine Ext.trans ?_ (by assumption))), heap_alloc_new vc _, X9.out.trans (by repeat (first | exact Ext.refl _ | assumption | refine Ext.more ?_ _ | refine Ext.drew ?_ | refine Ext.drewN ?_ _ | refine Ext.alloc ?_ _ | refine Ext.setCell ?_ (by simp; try omega) _ | refine Ext.trans ?_ (by assumption)))⟩ ?_
  clear H9 X9
  generalize vc.heap.size = A8 at *
  rintro W ⟨h3, hA8, x3⟩
  have hV : SV N3 S3 V3 (-1) kV W := h3.script baseC_of rfl rfl (fun i l hi => by
      match i, hi with
      | 0, hi => simp at hi; subst hi; exact ⟨_, rfl, axns_nil _⟩
      | 1, hi => simp at hi; subst hi; exact ⟨_, rfl, axns_nil _⟩
      | 2, hi => simp at hi; subst hi; exact ⟨_, rfl, axns_nil _⟩
      | 3, hi => simp at hi; subst hi; exact ⟨_, rfl, axns_nil _⟩) (fun i l hi => by
      match i, hi with
      | 0, hi => simp at hi; subst hi; exact ⟨_, rfl, arvs_nil _⟩
      | 1, hi => simp at hi; subst hi; exact ⟨_, rfl, arvs_nil _⟩
      | 2, hi => simp at hi; subst hi; exact ⟨_, rfl, arvs_nil _⟩
      | 3, hi => simp at hi; subst hi; exact ⟨_, rfl, arvs_nil _⟩)
  have xb : Ext v8 W := HXB.out.trans x3
  have QS := hid (HS'.out.ext xb)
  have QT := hid (HT'.out.ext xb)
  have QU := hid (HU.out.ext x3)
  have QV := hid hV
  have QX := hid (HX'.out.trans xb)
  have hA := block_ext xb HA'.out
  have hA3 := block_ext xb HA3'.out
  have hA7 := block_ext x3 HA7.out
  have a0 := blk_cell hA 0
  have a1 := blk_cell hA 1
  have a2 := blk_cell hA 2
  have a3 := blk_cell hA 3
  have a4 := blk_cell hA 4
  have a5 := blk_cell hA 5
  have a6 := blk_cell hA 6
  have b0 := blk_cell hA3 0
  have b1 := blk_cell hA3 1
  have b2 := blk_cell hA3 2
  have b3 := blk_cell hA3 3
  have b4 := blk_cell hA3 4
  have b5 := blk_cell hA3 5
  have b6 := blk_cell hA3 6
  have c0 := blk_cell hA7 0
  have c1 := blk_cell hA7 1
  have c2 := blk_cell hA7 2
  have c3 := blk_cell hA7 3
  have c4 := blk_cell hA7 4
  have c5 := blk_cell hA7 5
  have c6 := blk_cell hA7 6
  have d0 := blk_cell hA8 0
  have d1 := blk_cell hA8 1
  have d2 := blk_cell hA8 2
  have d3 := blk_cell hA8 3
  have d4 := blk_cell hA8 4
  have d5 := blk_cell hA8 5
  have d6 := blk_cell hA8 6
  simp only [List.getElem?_toArray, List.getElem?_cons_zero, List.getElem?_cons_succ] at a0 a1 a2 a3 a4 a5 a6 b0 b1 b2 b3 b4 b5 b6 c0 c1 c2 c3 c4 c5 c6 d0 d1 d2 d3 d4 d5 d6
  have l1 := lt_of_block hA
  have l2 := lt_of_block hA3
  have l3 := lt_of_block hA7
  have l4 := lt_of_block hA8
  obtain ⟨tb, tof, hts, tv, t0, tn⟩ := QT.out.streams.at 1 (show 1 < kS.streams.length by decide)
  obtain ⟨tp, tc, rfl, -, -⟩ := tn.shape
  have hts' := hts
  subst hts'
  have t0' : W.cell? ⟨tb, tof + 1, none⟩ = some (.slice tp 1 tc) := t0
  have l5 := World.block_lt_of_cell? _ _ t0'
  have hl60 : (60 : Int) < ((allBytes kS).length : Int) := by have := kS_long; omega
  have hne := fun v w => run_neq_iface_nil (P := Tryz.prog) w 39 v Tryz.underlying32
  have hnn := fun w => run_neq_nil_nil' (P := Tryz.prog) w Tryz.underlying32
  have hee := fun v w => run_eql_iface_nil (P := Tryz.prog) w 39 v Tryz.underlying32
  have hen := fun w => run_eql_nil_nil' (P := Tryz.prog) w Tryz.underlying32
  clear hts t0 tn hA hA3 hA7 hA8 h3 x3 xb hV HS' HA' HT' HX' HA3' HU HA7 HXB
  go_wp2_with (first
    | (go_at_call 11; (with_reducible refine (kIs0 (QS.out.ext (by repeat (first | exact Ext.refl _ | assumption | refine Ext.more ?_ _ | refine Ext.drew ?_ | refine Ext.drewN ?_ _ | refine Ext.alloc ?_ _ | refine Ext.setCell ?_ (by simp; try omega) _ | refine Ext.trans ?_ (by assumption))))).yields ?_); intro p1)
    | (go_at_call 11; (with_reducible refine (kIsU (QU.out.ext (by repeat (first | exact Ext.refl _ | assumption | refine Ext.more ?_ _ | refine Ext.drew ?_ | refine Ext.drewN ?_ _ | refine Ext.alloc ?_ _ | refine Ext.setCell ?_ (by simp; try omega) _ | refine Ext.trans ?_ (by assumption))))).yields ?_); intro p2)
    | (go_at_call 11; (with_reducible refine (kIsV (QV.out.ext (by repeat (first | exact Ext.refl _ | assumption | refine Ext.more ?_ _ | refine Ext.drew ?_ | refine Ext.drewN ?_ _ | refine Ext.alloc ?_ _ | refine Ext.setCell ?_ (by simp; try omega) _ | refine Ext.trans ?_ (by assumption))))).yields ?_); intro p3)
    | (go_at_call 8; (with_reducible refine (is_errno_to' (r := true) rfl _).yields ?_); intro p4)
    | (go_at_call 12; (with_reducible refine (kSameT (QS.out.ext (by repeat (first | exact Ext.refl _ | assumption | refine Ext.more ?_ _ | refine Ext.drew ?_ | refine Ext.drewN ?_ _ | refine Ext.alloc ?_ _ | refine Ext.setCell ?_ (by simp; try omega) _ | refine Ext.trans ?_ (by assumption)))) (QT.out.ext (by repeat (first | exact Ext.refl _ | assumption | refine Ext.more ?_ _ | refine Ext.drew ?_ | refine Ext.drewN ?_ _ | refine Ext.alloc ?_ _ | refine Ext.setCell ?_ (by simp; try omega) _ | refine Ext.trans ?_ (by assumption))))).yields ?_); intro p5)
    | (go_at_call 10; (with_reducible refine (kBytesV (QV.out.ext (by repeat (first | exact Ext.refl _ | assumption | refine Ext.more ?_ _ | refine Ext.drew ?_ | refine Ext.drewN ?_ _ | refine Ext.alloc ?_ _ | refine Ext.setCell ?_ (by simp; try omega) _ | refine Ext.trans ?_ (by assumption))))).yields ?_); intro p6)
    | (go_at_call 12; (with_reducible refine (kSameV (QS.out.ext (by repeat (first | exact Ext.refl _ | assumption | refine Ext.more ?_ _ | refine Ext.drew ?_ | refine Ext.drewN ?_ _ | refine Ext.alloc ?_ _ | refine Ext.setCell ?_ (by simp; try omega) _ | refine Ext.trans ?_ (by assumption)))) (QV.out.ext (by repeat (first | exact Ext.refl _ | assumption | refine Ext.more ?_ _ | refine Ext.drew ?_ | refine Ext.drewN ?_ _ | refine Ext.alloc ?_ _ | refine Ext.setCell ?_ (by simp; try omega) _ | refine Ext.trans ?_ (by assumption))))).yields ?_); intro p7))
  go_returns
  exact ⟨rfl, QX.out.trans (by repeat (first | exact Ext.refl _ | assumption | refine Ext.more ?_ _ | refine Ext.drew ?_ | refine Ext.drewN ?_ _ | refine Ext.alloc ?_ _ | refine Ext.setCell ?_ (by simp; try omega) _ | refine Ext.trans ?_ (by assumption)))⟩
end Go.Proofs.YtmpgeabfogcblaaGreat

namespace Go.Proofs.YtmpgeabfogcblaaGreat
open Go.RowKit
set_option linter.unusedSimpArgs false

/-- Whether what was read is a script of these bytes. -/
def okB (r : Rd) (s : Scr) (l : List UInt8) : Bool := (r.e == 0) && r.s.isEmpty && (isScr s == 0) && decide (allBytes s = l)
/-- Behind the check. -/
def CkPost (B C : Nat) (l : List UInt8) (ok : Bool) (z : World) (u1 u2 u3 u6 u7 u8 u9 u10 u11 u12 u13 u14 u15 u16 u17 u18 u19 u20 u21 u22 u23 u24 u25 u26 u27 u28 u29 u30 u31 u32 u33 u34 u35 u36 u37 u38 u39 u40 u41 u42 u43 u44 u45 u46 u47 u48 u49 u50 u51 u52 u53 u54 u55 u56 u57 u58 u59 u60 u61 u62 u63 u64 u65 u66 u67 u68 u69 u70 u71 u72 u73 u74 u75 u76 u77 u78 u79 u80 u81 u82 u83 u84 u85 u86 u87 u88 u89 u90 u91 u92 u93 u94 u95 u96 u97 u98 u99 u100 u101 u102 u103 u104 u105 u106 u107 u108 u109 u110 u111 u112 u113 u114 u115 u116 u117 u118 u119 u120 u144 u145 : Value) (a' : Act) (y : World) : Prop :=
  ∃ (u121 u122 u123 u124 u125 u126 u127 u128 u129 u130 u131 u132 u133 u134 u135 u136 u137 u138 u139 u140 u141 u142 : Value), a' = { tmps := #[.string (str l), u1, u2, u3, .pointer (some ⟨B, 0, none⟩), .pointer (some ⟨C, 0, none⟩), u6, u7, u8, u9, u10, u11, u12, u13, u14, u15, u16, u17, u18, u19, u20, u21, u22, u23, u24, u25, u26, u27, u28, u29, u30, u31, u32, u33, u34, u35, u36, u37, u38, u39, u40, u41, u42, u43, u44, u45, u46, u47, u48, u49, u50, u51, u52, u53, u54, u55, u56, u57, u58, u59, u60, u61, u62, u63, u64, u65, u66, u67, u68, u69, u70, u71, u72, u73, u74, u75, u76, u77, u78, u79, u80, u81, u82, u83, u84, u85, u86, u87, u88, u89, u90, u91, u92, u93, u94, u95, u96, u97, u98, u99, u100, u101, u102, u103, u104, u105, u106, u107, u108, u109, u110, u111, u112, u113, u114, u115, u116, u117, u118, u119, u120, u121, u122, u123, u124, u125, u126, u127, u128, u129, u130, u131, u132, u133, u134, u135, u136, u137, u138, u139, u140, u141, u142, .bool (!ok), u144, u145], defers := [] } ∧ Ext z y
theorem Ds.scrV {B C : Nat} {r : Rd} {fr ep hz : Int} {pv dv sv av : Value} {q : List (List Int)} {ds : List Dom} {ss : List (List Axn)} {vs : List (List Arv)} {W0 y : World} (h : Ds B C r fr ep hz pv dv sv av q ds ss vs W0 y) : ScrV y ⟨⟨fr, ep, q, ds⟩, hz, ss, vs⟩ pv dv sv av :=
  ScrRows.scrV (q := ⟨⟨fr, ep, q, ds⟩, hz, ss, vs⟩) ⟨h.plans, h.doms, h.streams.weak (Nat.zero_le _), h.arrivals.weak (Nat.zero_le _)⟩

set_option maxRecDepth 100000 in
set_option maxHeartbeats 8000000 in
theorem dcheck {B C : Nat} {r : Rd} {fr ep hz : Int} {pv dv sv av : Value} {q : List (List Int)} {ds : List Dom} {ss : List (List Axn)} {vs : List (List Arv)} {W0 z : World} {l : List UInt8}
    (h : Ds B C r fr ep hz pv dv sv av q ds ss vs W0 z) (hr : ∀ d ∈ ds, ∀ r ∈ d.routes, r.length ≤ 300) (hi : isScr ⟨⟨fr, ep, q, ds⟩, hz, ss, vs⟩ = 0 → CnfIn ⟨fr, ep, q, ds⟩) (hb : isScr ⟨⟨fr, ep, q, ds⟩, hz, ss, vs⟩ = 0 → (allBytes ⟨⟨fr, ep, q, ds⟩, hz, ss, vs⟩).length ≤ 40000) (u1 u2 u3 u6 u7 u8 u9 u10 u11 u12 u13 u14 u15 u16 u17 u18 u19 u20 u21 u22 u23 u24 u25 u26 u27 u28 u29 u30 u31 u32 u33 u34 u35 u36 u37 u38 u39 u40 u41 u42 u43 u44 u45 u46 u47 u48 u49 u50 u51 u52 u53 u54 u55 u56 u57 u58 u59 u60 u61 u62 u63 u64 u65 u66 u67 u68 u69 u70 u71 u72 u73 u74 u75 u76 u77 u78 u79 u80 u81 u82 u83 u84 u85 u86 u87 u88 u89 u90 u91 u92 u93 u94 u95 u96 u97 u98 u99 u100 u101 u102 u103 u104 u105 u106 u107 u108 u109 u110 u111 u112 u113 u114 u115 u116 u117 u118 u119 u120 u121 u122 u123 u124 u125 u126 u127 u128 u129 u130 u131 u132 u133 u134 u135 u136 u137 u138 u139 u140 u141 u142 u143 u144 u145 : Value) :
    (bodyAt Tryz.f6 [1, 1, 1, 1, 1, 1, 1, 1, 0, 0]).wp Tryz.prog (Ends (CkPost B C l (okB r ⟨⟨fr, ep, q, ds⟩, hz, ss, vs⟩ l) z u1 u2 u3 u6 u7 u8 u9 u10 u11 u12 u13 u14 u15 u16 u17 u18 u19 u20 u21 u22 u23 u24 u25 u26 u27 u28 u29 u30 u31 u32 u33 u34 u35 u36 u37 u38 u39 u40 u41 u42 u43 u44 u45 u46 u47 u48 u49 u50 u51 u52 u53 u54 u55 u56 u57 u58 u59 u60 u61 u62 u63 u64 u65 u66 u67 u68 u69 u70 u71 u72 u73 u74 u75 u76 u77 u78 u79 u80 u81 u82 u83 u84 u85 u86 u87 u88 u89 u90 u91 u92 u93 u94 u95 u96 u97 u98 u99 u100 u101 u102 u103 u104 u105 u106 u107 u108 u109 u110 u111 u112 u113 u114 u115 u116 u117 u118 u119 u120 u144 u145)) ({ tmps := #[.string (str l), u1, u2, u3, .pointer (some ⟨B, 0, none⟩), .pointer (some ⟨C, 0, none⟩), u6, u7, u8, u9, u10, u11, u12, u13, u14, u15, u16, u17, u18, u19, u20, u21, u22, u23, u24, u25, u26, u27, u28, u29, u30, u31, u32, u33, u34, u35, u36, u37, u38, u39, u40, u41, u42, u43, u44, u45, u46, u47, u48, u49, u50, u51, u52, u53, u54, u55, u56, u57, u58, u59, u60, u61, u62, u63, u64, u65, u66, u67, u68, u69, u70, u71, u72, u73, u74, u75, u76, u77, u78, u79, u80, u81, u82, u83, u84, u85, u86, u87, u88, u89, u90, u91, u92, u93, u94, u95, u96, u97, u98, u99, u100, u101, u102, u103, u104, u105, u106, u107, u108, u109, u110, u111, u112, u113, u114, u115, u116, u117, u118, u119, u120, u121, u122, u123, u124, u125, u126, u127, u128, u129, u130, u131, u132, u133, u134, u135, u136, u137, u138, u139, u140, u141, u142, u143, u144, u145], defers := [] }) z := by
  have HG : Hid (∀ d ∈ (⟨⟨fr, ep, q, ds⟩, hz, ss, vs⟩ : Scr).conf.doms, ∀ r ∈ d.routes, r.length ≤ 300) := hr
  have HI : Hid (isScr ⟨⟨fr, ep, q, ds⟩, hz, ss, vs⟩ = 0 → CnfIn (⟨⟨fr, ep, q, ds⟩, hz, ss, vs⟩ : Scr).conf) := hi
  have HS := hid hb
  have HV := hid h.scrV
  have b0 : z.cell? ⟨B, 0, none⟩ = some (.string (str r.s)) := h.rd.rd.cells.1
  have b1 := h.rd.cell1
  have c0 : z.cell? ⟨C, 0, none⟩ = some (.int .i64 fr) := h.cells 0
  have c1 : z.cell? ⟨C, 1, none⟩ = some (.int .i64 ep) := h.cells 1
  have c2 : z.cell? ⟨C, 2, none⟩ = some pv := h.cells 2
  have c3 : z.cell? ⟨C, 3, none⟩ = some dv := h.cells 3
  have c4 : z.cell? ⟨C, 4, none⟩ = some (.int .i64 hz) := h.cells 4
  have c5 : z.cell? ⟨C, 5, none⟩ = some sv := h.cells 5
  have c6 : z.cell? ⟨C, 6, none⟩ = some av := h.cells 6
  have hlB : B < z.heap.size := h.rd.lt
  have hlC : C < z.heap.size := lt_of_block h.cb
  obtain ⟨pp, cp, rfl, -, -⟩ := h.plans.shape
  obtain ⟨pd, cd, rfl, -, -⟩ := h.doms.shape
  obtain ⟨ps, cs, rfl, -, -⟩ := h.streams.shape
  obtain ⟨pa, ca, rfl, -, -⟩ := h.arrivals.shape
  clear hr hi hb h
  unfold bodyAt Tryz.f6
  simp only [codeAt]
  by_cases he : r.e = 0
  case neg =>
    have hE : (((r.e : Nat) : Int) != 0) = true := by rw [bne_iff_ne]; omega
    have HO : Hid (okB r ⟨⟨fr, ep, q, ds⟩, hz, ss, vs⟩ l = false) := by simp [Hid, okB, he]
    clear he
    go_wp2_with fail
    rw [HO.out]
    exact ⟨rfl, _, _, _, _, _, _, _, _, _, _, _, _, _, _, _, _, _, _, _, _, _, _, rfl, (by repeat (first | exact Ext.refl _ | assumption | refine Ext.more ?_ _ | refine Ext.drew ?_ | refine Ext.drewN ?_ _ | refine Ext.alloc ?_ _ | refine Ext.setCell ?_ (by simp; try omega) _ | refine Ext.trans ?_ (by assumption)))⟩
  have hE : (((r.e : Nat) : Int) != 0) = false := by simp [he]
  cases hs : r.s with
  | cons x t =>
    have HO : Hid (okB r ⟨⟨fr, ep, q, ds⟩, hz, ss, vs⟩ l = false) := by simp [Hid, okB, hs]
    rw [hs] at b0
    have hne : (x :: t == ([] : List UInt8)) = false := by rw [beq_eq_false_iff_ne]; exact List.cons_ne_nil x t
    have hnil : (ByteArray.mk #[]).toList = [] := str_toList []
    clear hs he
    go_wp2_with fail
    rw [HO.out]
    exact ⟨rfl, _, _, _, _, _, _, _, _, _, _, _, _, _, _, _, _, _, _, _, _, _, _, rfl, (by repeat (first | exact Ext.refl _ | assumption | refine Ext.more ?_ _ | refine Ext.drew ?_ | refine Ext.drewN ?_ _ | refine Ext.alloc ?_ _ | refine Ext.setCell ?_ (by simp; try omega) _ | refine Ext.trans ?_ (by assumption)))⟩
  | nil =>
    rw [hs] at b0
    have hnil : (ByteArray.mk #[]).toList = [] := str_toList []
    by_cases hk : isScr ⟨⟨fr, ep, q, ds⟩, hz, ss, vs⟩ = 0
    case neg =>
      have HO : Hid (okB r ⟨⟨fr, ep, q, ds⟩, hz, ss, vs⟩ l = false) := by simp [Hid, okB, hk]
      have hK : (((isScr ⟨⟨fr, ep, q, ds⟩, hz, ss, vs⟩ : Nat) : Int) != 0) = true := by rw [bne_iff_ne]; omega
      clear hs he hk
      go_wp2_with (first
      | (go_at_call 19; (with_reducible refine (rIsScr_any _ (⟨⟨fr, ep, q, ds⟩, hz, ss, vs⟩ : Scr) _ _ _ _ (HV.out.ext (by repeat (first | exact Ext.refl _ | assumption | refine Ext.more ?_ _ | refine Ext.drew ?_ | refine Ext.drewN ?_ _ | refine Ext.alloc ?_ _ | refine Ext.setCell ?_ (by simp; try omega) _ | refine Ext.trans ?_ (by assumption)))) HG.out).yields ?_); intro p0)
      | (go_at_call 20; (with_reducible refine (rBytes_any _ (⟨⟨fr, ep, q, ds⟩, hz, ss, vs⟩ : Scr) _ _ _ _ (HV.out.ext (by repeat (first | exact Ext.refl _ | assumption | refine Ext.more ?_ _ | refine Ext.drew ?_ | refine Ext.drewN ?_ _ | refine Ext.alloc ?_ _ | refine Ext.setCell ?_ (by simp; try omega) _ | refine Ext.trans ?_ (by assumption)))) HG.out HI.out HS.out).yields ?_); intro p1))
      rw [HO.out]
      exact ⟨rfl, _, _, _, _, _, _, _, _, _, _, _, _, _, _, _, _, _, _, _, _, _, _, rfl, (by repeat (first | exact Ext.refl _ | assumption | refine Ext.more ?_ _ | refine Ext.drew ?_ | refine Ext.drewN ?_ _ | refine Ext.alloc ?_ _ | refine Ext.setCell ?_ (by simp; try omega) _ | refine Ext.trans ?_ (by assumption)))⟩
    have hK : (((isScr ⟨⟨fr, ep, q, ds⟩, hz, ss, vs⟩ : Nat) : Int) != 0) = false := by simp [hk]
    have hB : scrBytes ⟨⟨fr, ep, q, ds⟩, hz, ss, vs⟩ = allBytes ⟨⟨fr, ep, q, ds⟩, hz, ss, vs⟩ := scrBytes_ok hk
    by_cases hl : allBytes ⟨⟨fr, ep, q, ds⟩, hz, ss, vs⟩ = l
    · have HO : Hid (okB r ⟨⟨fr, ep, q, ds⟩, hz, ss, vs⟩ l = true) := by simp [Hid, okB, hk, hl, he, hs]
      have hne2 : (scrBytes ⟨⟨fr, ep, q, ds⟩, hz, ss, vs⟩ == l) = true := by rw [hB, hl, beq_self_eq_true]
      clear hs he hk hB hl
      go_wp2_with (first
      | (go_at_call 19; (with_reducible refine (rIsScr_any _ (⟨⟨fr, ep, q, ds⟩, hz, ss, vs⟩ : Scr) _ _ _ _ (HV.out.ext (by repeat (first | exact Ext.refl _ | assumption | refine Ext.more ?_ _ | refine Ext.drew ?_ | refine Ext.drewN ?_ _ | refine Ext.alloc ?_ _ | refine Ext.setCell ?_ (by simp; try omega) _ | refine Ext.trans ?_ (by assumption)))) HG.out).yields ?_); intro p0)
      | (go_at_call 20; (with_reducible refine (rBytes_any _ (⟨⟨fr, ep, q, ds⟩, hz, ss, vs⟩ : Scr) _ _ _ _ (HV.out.ext (by repeat (first | exact Ext.refl _ | assumption | refine Ext.more ?_ _ | refine Ext.drew ?_ | refine Ext.drewN ?_ _ | refine Ext.alloc ?_ _ | refine Ext.setCell ?_ (by simp; try omega) _ | refine Ext.trans ?_ (by assumption)))) HG.out HI.out HS.out).yields ?_); intro p1))
      rw [HO.out]
      exact ⟨rfl, _, _, _, _, _, _, _, _, _, _, _, _, _, _, _, _, _, _, _, _, _, _, rfl, (by repeat (first | exact Ext.refl _ | assumption | refine Ext.more ?_ _ | refine Ext.drew ?_ | refine Ext.drewN ?_ _ | refine Ext.alloc ?_ _ | refine Ext.setCell ?_ (by simp; try omega) _ | refine Ext.trans ?_ (by assumption)))⟩
    · have HO : Hid (okB r ⟨⟨fr, ep, q, ds⟩, hz, ss, vs⟩ l = false) := by simp [Hid, okB, hl]
      have hne2 : (scrBytes ⟨⟨fr, ep, q, ds⟩, hz, ss, vs⟩ == l) = false := by rw [hB, beq_eq_false_iff_ne]; exact hl
      clear hs he hk hB hl
      go_wp2_with (first
      | (go_at_call 19; (with_reducible refine (rIsScr_any _ (⟨⟨fr, ep, q, ds⟩, hz, ss, vs⟩ : Scr) _ _ _ _ (HV.out.ext (by repeat (first | exact Ext.refl _ | assumption | refine Ext.more ?_ _ | refine Ext.drew ?_ | refine Ext.drewN ?_ _ | refine Ext.alloc ?_ _ | refine Ext.setCell ?_ (by simp; try omega) _ | refine Ext.trans ?_ (by assumption)))) HG.out).yields ?_); intro p0)
      | (go_at_call 20; (with_reducible refine (rBytes_any _ (⟨⟨fr, ep, q, ds⟩, hz, ss, vs⟩ : Scr) _ _ _ _ (HV.out.ext (by repeat (first | exact Ext.refl _ | assumption | refine Ext.more ?_ _ | refine Ext.drew ?_ | refine Ext.drewN ?_ _ | refine Ext.alloc ?_ _ | refine Ext.setCell ?_ (by simp; try omega) _ | refine Ext.trans ?_ (by assumption)))) HG.out HI.out HS.out).yields ?_); intro p1))
      rw [HO.out]
      exact ⟨rfl, _, _, _, _, _, _, _, _, _, _, _, _, _, _, _, _, _, _, _, _, _, _, rfl, (by repeat (first | exact Ext.refl _ | assumption | refine Ext.more ?_ _ | refine Ext.drew ?_ | refine Ext.drewN ?_ _ | refine Ext.alloc ?_ _ | refine Ext.setCell ?_ (by simp; try omega) _ | refine Ext.trans ?_ (by assumption)))⟩
end Go.Proofs.YtmpgeabfogcblaaGreat

namespace Go.Proofs.YtmpgeabfogcblaaGreat
open Go.RowKit
set_option linter.unusedSimpArgs false

def EndPost (N : Nat) (ev : Value) (o : Obj) (z : World) (a' : Act) (y : World) : Prop :=
  ∃ (u0 u1 u4 u5 u6 u7 u8 u9 u10 u11 u12 u13 u14 u15 u16 u17 u18 u19 u20 u21 u22 u23 u24 u25 u26 u27 u28 u29 u30 u31 u32 u33 u34 u35 u36 u37 u38 u39 u40 u41 u42 u43 u44 u45 u46 u47 u48 u49 u50 u51 u52 u53 u54 u55 u56 u57 u58 u59 u60 u61 u62 u63 u64 u65 u66 u67 u68 u69 u70 u71 u72 u73 u74 u75 u76 u77 u78 u79 u80 u81 u82 u83 u84 u85 u86 u87 u88 u89 u90 u91 u92 u93 u94 u95 u96 u97 u98 u99 u100 u101 u102 u103 u104 u105 u106 u107 u108 u109 u110 u111 u112 u113 u114 u115 u116 u117 u118 u119 u120 u121 u122 u123 u124 u125 u126 u127 u128 u129 u130 u131 u132 u133 u134 u135 u136 u137 u138 u139 u140 u141 u142 u143 u144 u145 : Value), a' = { tmps := #[u0, u1, .pointer (some ⟨N, 0, none⟩), ev, u4, u5, u6, u7, u8, u9, u10, u11, u12, u13, u14, u15, u16, u17, u18, u19, u20, u21, u22, u23, u24, u25, u26, u27, u28, u29, u30, u31, u32, u33, u34, u35, u36, u37, u38, u39, u40, u41, u42, u43, u44, u45, u46, u47, u48, u49, u50, u51, u52, u53, u54, u55, u56, u57, u58, u59, u60, u61, u62, u63, u64, u65, u66, u67, u68, u69, u70, u71, u72, u73, u74, u75, u76, u77, u78, u79, u80, u81, u82, u83, u84, u85, u86, u87, u88, u89, u90, u91, u92, u93, u94, u95, u96, u97, u98, u99, u100, u101, u102, u103, u104, u105, u106, u107, u108, u109, u110, u111, u112, u113, u114, u115, u116, u117, u118, u119, u120, u121, u122, u123, u124, u125, u126, u127, u128, u129, u130, u131, u132, u133, u134, u135, u136, u137, u138, u139, u140, u141, u142, u143, u144, u145], defers := [] } ∧ y.heap[N]? = some o ∧ Only N z y

set_option maxRecDepth 100000 in
set_option maxHeartbeats 4000000 in
theorem dfail {N : Nat} {z : World} (h : z.heap[N]? = some zeroScrO) (u0 u1 u3 u4 u5 u6 u7 u8 u9 u10 u11 u12 u13 u14 u15 u16 u17 u18 u19 u20 u21 u22 u23 u24 u25 u26 u27 u28 u29 u30 u31 u32 u33 u34 u35 u36 u37 u38 u39 u40 u41 u42 u43 u44 u45 u46 u47 u48 u49 u50 u51 u52 u53 u54 u55 u56 u57 u58 u59 u60 u61 u62 u63 u64 u65 u66 u67 u68 u69 u70 u71 u72 u73 u74 u75 u76 u77 u78 u79 u80 u81 u82 u83 u84 u85 u86 u87 u88 u89 u90 u91 u92 u93 u94 u95 u96 u97 u98 u99 u100 u101 u102 u103 u104 u105 u106 u107 u108 u109 u110 u111 u112 u113 u114 u115 u116 u117 u118 u119 u120 u121 u122 u123 u124 u125 u126 u127 u128 u129 u130 u131 u132 u133 u134 u135 u136 u137 u138 u139 u140 u141 u142 u143 u144 u145 : Value) :
    (bodyAt Tryz.f6 [1, 1, 1, 1, 1, 1, 1, 1, 0, 1, 0, 0]).wp Tryz.prog (Ends (EndPost N (.bool false) zeroScrO z)) ({ tmps := #[u0, u1, .pointer (some ⟨N, 0, none⟩), u3, u4, u5, u6, u7, u8, u9, u10, u11, u12, u13, u14, u15, u16, u17, u18, u19, u20, u21, u22, u23, u24, u25, u26, u27, u28, u29, u30, u31, u32, u33, u34, u35, u36, u37, u38, u39, u40, u41, u42, u43, u44, u45, u46, u47, u48, u49, u50, u51, u52, u53, u54, u55, u56, u57, u58, u59, u60, u61, u62, u63, u64, u65, u66, u67, u68, u69, u70, u71, u72, u73, u74, u75, u76, u77, u78, u79, u80, u81, u82, u83, u84, u85, u86, u87, u88, u89, u90, u91, u92, u93, u94, u95, u96, u97, u98, u99, u100, u101, u102, u103, u104, u105, u106, u107, u108, u109, u110, u111, u112, u113, u114, u115, u116, u117, u118, u119, u120, u121, u122, u123, u124, u125, u126, u127, u128, u129, u130, u131, u132, u133, u134, u135, u136, u137, u138, u139, u140, u141, u142, u143, u144, u145], defers := [] }) z := by
  have H := hid h
  clear h
  have m0 := blk_cell H.out 0
  have m1 := blk_cell H.out 1
  have m2 := blk_cell H.out 2
  have m3 := blk_cell H.out 3
  have m4 := blk_cell H.out 4
  have m5 := blk_cell H.out 5
  have m6 := blk_cell H.out 6
  have f0 := blk_free H.out 0
  have f1 := blk_free H.out 1
  have f2 := blk_free H.out 2
  have f3 := blk_free H.out 3
  have f4 := blk_free H.out 4
  have f5 := blk_free H.out 5
  have f6 := blk_free H.out 6
  simp only [List.getElem?_toArray, List.getElem?_cons_zero, List.getElem?_cons_succ] at m0 m1 m2 m3 m4 m5 m6
  unfold bodyAt Tryz.f6
  simp only [codeAt]
  go_wp2
  exact ⟨rfl, _, _, _, _, _, _, _, _, _, _, _, _, _, _, _, _, _, _, _, _, _, _, _, _, _, _, _, _, _, _, _, _, _, _, _, _, _, _, _, _, _, _, _, _, _, _, _, _, _, _, _, _, _, _, _, _, _, _, _, _, _, _, _, _, _, _, _, _, _, _, _, _, _, _, _, _, _, _, _, _, _, _, _, _, _, _, _, _, _, _, _, _, _, _, _, _, _, _, _, _, _, _, _, _, _, _, _, _, _, _, _, _, _, _, _, _, _, _, _, _, _, _, _, _, _, _, _, _, _, _, _, _, _, _, _, _, _, _, _, _, _, _, _, _, rfl, sets7 H.out _ _ _ _ _ _ _, ((((((((Only.refl _ _).setCell _).setCell _).setCell _).setCell _).setCell _).setCell _).setCell _)⟩

set_option maxRecDepth 100000 in
set_option maxHeartbeats 4000000 in
theorem dgood {N C : Nat} {fr ep hz : Int} {pp pd ps pa : Option Addr} {np nd ns na cp cd cs ca : Nat} {z : World} (h : z.heap[N]? = some zeroScrO) (hc : z.heap[C]? = some (scrO fr ep (.slice pp np cp) (.slice pd nd cd) hz (.slice ps ns cs) (.slice pa na ca))) (u0 u1 u3 u4 u6 u7 u8 u9 u10 u11 u12 u13 u14 u15 u16 u17 u18 u19 u20 u21 u22 u23 u24 u25 u26 u27 u28 u29 u30 u31 u32 u33 u34 u35 u36 u37 u38 u39 u40 u41 u42 u43 u44 u45 u46 u47 u48 u49 u50 u51 u52 u53 u54 u55 u56 u57 u58 u59 u60 u61 u62 u63 u64 u65 u66 u67 u68 u69 u70 u71 u72 u73 u74 u75 u76 u77 u78 u79 u80 u81 u82 u83 u84 u85 u86 u87 u88 u89 u90 u91 u92 u93 u94 u95 u96 u97 u98 u99 u100 u101 u102 u103 u104 u105 u106 u107 u108 u109 u110 u111 u112 u113 u114 u115 u116 u117 u118 u119 u120 u121 u122 u123 u124 u125 u126 u127 u128 u129 u130 u131 u132 u133 u134 u135 u136 u137 u138 u139 u140 u141 u142 u143 u144 u145 : Value) :
    (bodyAt Tryz.f6 [1, 1, 1, 1, 1, 1, 1, 1, 1, 0]).wp Tryz.prog (Ends (EndPost N (.bool true) (scrO fr ep (.slice pp np cp) (.slice pd nd cd) hz (.slice ps ns cs) (.slice pa na ca)) z)) ({ tmps := #[u0, u1, .pointer (some ⟨N, 0, none⟩), u3, u4, .pointer (some ⟨C, 0, none⟩), u6, u7, u8, u9, u10, u11, u12, u13, u14, u15, u16, u17, u18, u19, u20, u21, u22, u23, u24, u25, u26, u27, u28, u29, u30, u31, u32, u33, u34, u35, u36, u37, u38, u39, u40, u41, u42, u43, u44, u45, u46, u47, u48, u49, u50, u51, u52, u53, u54, u55, u56, u57, u58, u59, u60, u61, u62, u63, u64, u65, u66, u67, u68, u69, u70, u71, u72, u73, u74, u75, u76, u77, u78, u79, u80, u81, u82, u83, u84, u85, u86, u87, u88, u89, u90, u91, u92, u93, u94, u95, u96, u97, u98, u99, u100, u101, u102, u103, u104, u105, u106, u107, u108, u109, u110, u111, u112, u113, u114, u115, u116, u117, u118, u119, u120, u121, u122, u123, u124, u125, u126, u127, u128, u129, u130, u131, u132, u133, u134, u135, u136, u137, u138, u139, u140, u141, u142, u143, u144, u145], defers := [] }) z := by
  have H := hid h
  have HC := hid hc
  clear h hc
  have m0 := blk_cell H.out 0
  have m1 := blk_cell H.out 1
  have m2 := blk_cell H.out 2
  have m3 := blk_cell H.out 3
  have m4 := blk_cell H.out 4
  have m5 := blk_cell H.out 5
  have m6 := blk_cell H.out 6
  have f0 := blk_free H.out 0
  have f1 := blk_free H.out 1
  have f2 := blk_free H.out 2
  have f3 := blk_free H.out 3
  have f4 := blk_free H.out 4
  have f5 := blk_free H.out 5
  have f6 := blk_free H.out 6
  simp only [List.getElem?_toArray, List.getElem?_cons_zero, List.getElem?_cons_succ] at m0 m1 m2 m3 m4 m5 m6
  have k0 := blk_cell HC.out 0
  have k1 := blk_cell HC.out 1
  have k2 := blk_cell HC.out 2
  have k3 := blk_cell HC.out 3
  have k4 := blk_cell HC.out 4
  have k5 := blk_cell HC.out 5
  have k6 := blk_cell HC.out 6
  simp only [List.getElem?_toArray, List.getElem?_cons_zero, List.getElem?_cons_succ] at k0 k1 k2 k3 k4 k5 k6
  unfold bodyAt Tryz.f6
  simp only [codeAt]
  go_wp2
  exact ⟨rfl, _, _, _, _, _, _, _, _, _, _, _, _, _, _, _, _, _, _, _, _, _, _, _, _, _, _, _, _, _, _, _, _, _, _, _, _, _, _, _, _, _, _, _, _, _, _, _, _, _, _, _, _, _, _, _, _, _, _, _, _, _, _, _, _, _, _, _, _, _, _, _, _, _, _, _, _, _, _, _, _, _, _, _, _, _, _, _, _, _, _, _, _, _, _, _, _, _, _, _, _, _, _, _, _, _, _, _, _, _, _, _, _, _, _, _, _, _, _, _, _, _, _, _, _, _, _, _, _, _, _, _, _, _, _, _, _, _, _, _, _, _, _, _, _, rfl, sets7 H.out _ _ _ _ _ _ _, ((((((((Only.refl _ _).setCell _).setCell _).setCell _).setCell _).setCell _).setCell _).setCell _)⟩

/-- What Read comes to. -/
def DocRead (ok : Bool) (q : Scr) (w : World) (e : Ending) (w' : World) : Prop :=
  (ok = false → e = .returned (.tuple #[noScrV, .bool false]) ∧ Ext w w') ∧
  (ok = true → ∃ pp cp pd cd ps cs pa ca, e = .returned (.tuple #[scrV q (.slice pp q.conf.plans.length cp) (.slice pd q.conf.doms.length cd) (.slice ps q.streams.length cs) (.slice pa q.arrivals.length ca), .bool true]) ∧
    ScrV w' q (.slice pp q.conf.plans.length cp) (.slice pd q.conf.doms.length cd) (.slice ps q.streams.length cs) (.slice pa q.arrivals.length ca) ∧ Ext w w')
theorem scrR_of {r r1 r2 r3 r4 : Rd} {c : Cnf} {hz : Int} {ss : List (List Axn)} {vs : List (List Arv)} (e1 : confR r = (c, r1)) (e2 : numR 2000 r1 = (hz, r2)) (e3 : readN (countR 400 axnR) c.doms.length r2 = (ss, r3)) (e4 : readN (countR 100 arvR) c.doms.length r3 = (vs, r4)) :
    scrR r = (⟨c, hz, ss, vs⟩, r4) := by
  simp only [numR, Prod.mk.injEq] at e2
  simp only [scrR, e1, e2, e3, e4]
theorem confR_doms (r : Rd) : (confR r).1.doms.length ≤ 6 := by
  have h1 := readN_len domR ((((r.afterNum 64).afterNum 8).afterNum 3).num 6).toNat (readN (readN (numR 1000) ((((r.afterNum 64).afterNum 8).afterNum 3).num 6).toNat) (((r.afterNum 64).afterNum 8).num 3).toNat ((((r.afterNum 64).afterNum 8).afterNum 3).afterNum 6)).2
  have h2 := num_most (((r.afterNum 64).afterNum 8).afterNum 3) (most := 6) (by decide)
  show (readN domR _ _).1.length ≤ 6
  omega

theorem Ds.putH {B C : Nat} {r : Rd} {fr ep hz : Int} {pv dv sv av : Value} {q : List (List Int)} {ds : List Dom} {ss : List (List Axn)} {vs : List (List Arv)} {W0 y : World} (h : Ds B C r fr ep hz pv dv sv av q ds ss vs W0 y) (x : Int) : Ds B C r fr ep x pv dv sv av q ds ss vs W0 (y.setCell ⟨C, 4, none⟩ (.int .i64 x)) :=
  have hs := store_kept (good := goodS) (j := 4) h.rd h.on h.cb h.hC h.hB (by decide) (.int .i64 x)
  ⟨hs.1, hs.2.1, blk_set h.cb 4 _, h.hC, h.hB, h.plans.kept hs.2.2 (by simp) (ElR.kept (hs.2.2.sub (by simp))), h.doms.kept hs.2.2 (by simp) (ElD.kept (hs.2.2.sub (by simp))), h.streams.kept hs.2.2 (by simp) (ElS.kept (hs.2.2.sub (by simp))), h.arrivals.kept hs.2.2 (by simp) (ElW.kept (hs.2.2.sub (by simp)))⟩

set_option maxRecDepth 100000 in
set_option maxHeartbeats 8000000 in
theorem docRead_any (w : World) (l : List UInt8) (hl : l.length ≤ 40000) : Calls Tryz.prog 6 #[.string (str l)] w (DocRead (scrOk l) (scrR ⟨l, 0⟩).1 w) := by
  obtain ⟨c, r1, e1⟩ : ∃ x t, confR ⟨l, 0⟩ = (x, t) := ⟨_, _, rfl⟩
  obtain ⟨hz, r2, e2⟩ : ∃ x t, numR 2000 r1 = (x, t) := ⟨_, _, rfl⟩
  obtain ⟨ss, r3, e3⟩ : ∃ x t, readN (countR 400 axnR) c.doms.length r2 = (x, t) := ⟨_, _, rfl⟩
  obtain ⟨vs, r4, e4⟩ : ∃ x t, readN (countR 100 arvR) c.doms.length r3 = (x, t) := ⟨_, _, rfl⟩
  have hd6 : c.doms.length ≤ 6 := by have := confR_doms ⟨l, 0⟩; rw [e1] at this; exact this
  have hscr := scrR_of e1 e2 e3 e4
  have hheld := scrR_held ⟨l, 0⟩
  have hshort := @scrR_short ⟨l, 0⟩
  rw [hscr] at hheld hshort
  have hok : scrOk l = okB r4 ⟨c, hz, ss, vs⟩ l := by
    simp only [scrOk, hscr, okB, decide_eq_true hl, Bool.true_and]
  rw [hok, hscr]
  have hcf := dconf_any (w.heap.size + 1) ⟨l, 0⟩
  rw [e1] at hcf
  obtain ⟨fr, ep, q, ds⟩ := c
  have HCF := hid hcf
  have E2 := hid e2
  have E3 := hid e3
  have E4 := hid e4
  have HG := hid (And.intro hd6 (And.intro hheld (And.intro hshort hl)))
  have hlb : decide ((40000 : Int) < (l.length : Int)) = false := by simp; omega
  clear e1 e2 e3 e4 hd6 hscr hheld hshort hok hcf hl
  go_enter Tryz.func6, Tryz.ntmps6
  go_upto_region 4 with (fail)
  refine wp_forget (fun v => Dq (w.heap.size + 1) ⟨l, 0⟩ v ∧ Ext w v ∧ v.heap[w.heap.size]? = some zeroScrO ∧ v.heap.size = w.heap.size + 2)
    ⟨⟨by have := heap_new2 w zeroScrO (.cells #[.string (str l), .int .i64 0] 59 (0, 0)); exact this, by have := HG.out.2.2.2; simp; omega⟩, (by repeat (first | exact Ext.refl _ | assumption | refine Ext.more ?_ _ | refine Ext.drew ?_ | refine Ext.drewN ?_ _ | refine Ext.alloc ?_ _ | refine Ext.setCell ?_ (by simp; try omega) _ | refine Ext.trans ?_ (by assumption))), block_ext (Ext.alloc (Ext.refl _) _) (heap_alloc_new w zeroScrO), by simp [World.size_alloc]⟩ ?_
  rintro W0 ⟨hd, hx, hn, hs⟩
  have HD := hid hd
  have HX := hid hx
  have HN := hid hn
  have HZ := hid hs
  clear hd hx hn hs
  go_upto_region 5 with (go_at_call 17; refine (HCF.out _ HD.out).mono ?_; rintro e w1 ⟨pv, dv, rfl, hp, hdm, hr, ho⟩; obtain ⟨pp, cp, rfl, -, -⟩ := hp.shape; obtain ⟨pd, cd, rfl, -, -⟩ := hdm.shape; have HP := hid hp; have HDM := hid hdm; have HR := hid hr; have HO := hid ho; clear hp hdm hr ho)
  have HS1 : Hid (Ds (w.heap.size + 1) w1.heap.size r1 fr ep 0 (.slice pp q.length cp) (.slice pd ds.length cd) (.slice none 0 0) (.slice none 0 0) q ds [] [] W0 (w1.alloc (scrO fr ep (.slice pp q.length cp) (.slice pd ds.length cd) 0 (.slice none 0 0) (.slice none 0 0)))) :=
    ⟨HR.out.ext (by repeat (first | exact Ext.refl _ | assumption | refine Ext.more ?_ _ | refine Ext.drew ?_ | refine Ext.drewN ?_ _ | refine Ext.alloc ?_ _ | refine Ext.setCell ?_ (by simp; try omega) _ | refine Ext.trans ?_ (by assumption))), HO.out.ext (by repeat (first | exact Ext.refl _ | assumption | refine Ext.more ?_ _ | refine Ext.drew ?_ | refine Ext.drewN ?_ _ | refine Ext.alloc ?_ _ | refine Ext.setCell ?_ (by simp; try omega) _ | refine Ext.trans ?_ (by assumption))), heap_alloc_new w1 _, HO.out.size, by have := HZ.out; omega, HP.out.kept (Kept.of_ext (g := goodS) (by repeat (first | exact Ext.refl _ | assumption | refine Ext.more ?_ _ | refine Ext.drew ?_ | refine Ext.drewN ?_ _ | refine Ext.alloc ?_ _ | refine Ext.setCell ?_ (by simp; try omega) _ | refine Ext.trans ?_ (by assumption)))) (by simp) (ElR.kept (Kept.of_ext (by repeat (first | exact Ext.refl _ | assumption | refine Ext.more ?_ _ | refine Ext.drew ?_ | refine Ext.drewN ?_ _ | refine Ext.alloc ?_ _ | refine Ext.setCell ?_ (by simp; try omega) _ | refine Ext.trans ?_ (by assumption))))), HDM.out.kept (Kept.of_ext (g := goodS) (by repeat (first | exact Ext.refl _ | assumption | refine Ext.more ?_ _ | refine Ext.drew ?_ | refine Ext.drewN ?_ _ | refine Ext.alloc ?_ _ | refine Ext.setCell ?_ (by simp; try omega) _ | refine Ext.trans ?_ (by assumption)))) (by simp) (ElD.kept (Kept.of_ext (by repeat (first | exact Ext.refl _ | assumption | refine Ext.more ?_ _ | refine Ext.drew ?_ | refine Ext.drewN ?_ _ | refine Ext.alloc ?_ _ | refine Ext.setCell ?_ (by simp; try omega) _ | refine Ext.trans ?_ (by assumption))))), Rowed.nil _ _ _ _ _, Rowed.nil _ _ _ _ _⟩
  generalize w1.alloc (scrO fr ep (.slice pp q.length cp) (.slice pd ds.length cd) 0 (.slice none 0 0) (.slice none 0 0)) = v1 at *
  have HCW : Hid (W0.heap.size ≤ w1.heap.size) := HO.out.size
  clear HP HDM HR HO
  generalize w1.heap.size = C at *
  clear w1
  go_upto_region 6 with (go_at_call 18; refine (dnum_to E2.out HS1.out.rd).mono ?_; rintro e z2 ⟨rfl, hr1, ho1⟩; have HS2 := hid (HS1.out.num hr1 ho1); clear hr1 ho1; have g4 : z2.cell? ⟨C, 4, none⟩ = some (.int .i64 0) := HS2.out.cells 4; have f4 := blk_free HS2.out.cb 4)
  have HS3 := hid (HS2.out.putH hz)
  clear HS1 HS2 g4 f4
  generalize z2.setCell ⟨C, 4, none⟩ (.int .i64 hz) = v2 at *
  clear z2 v1
  have c3 : v2.cell? ⟨C, 3, none⟩ = some (.slice pd ds.length cd) := HS3.out.cells 3
  go_upto_block 0 with (fail)
  clear c3
  refine wp_meet (axAllPost (w.heap.size + 1) C ds.length r3 fr ep hz (.slice pp q.length cp) (.slice pd ds.length cd) (.slice none 0 0) q ds ss [] W0 _ _ _ _ _ _ _ _ _ _ _ _ _ _ _ _ _ _ _ _ _ _ _ _ _ _ _ _ _ _ _ _ _ _ _ _ _ _ _ _ _ _ _ _ _ _ _ _ _ _ _ _ _ _ _ _ _ _ _ _ _ _ _ _ _ _ _ _ _ _ _ _ _ _ _ _ _ _ _ _ _ _ _ _ _ _ _ _ _ _ _ _ _) (axAll E3.out HG.out.1 HS3.out _ _ _ _ _ _ _ _ _ _ _ _ _ _ _ _ _ _ _ _ _ _ _ _ _ _ _ _ _ _ _ _ _ _ _ _ _ _ _ _ _ _ _ _ _ _ _ _ _ _ _ _ _ _ _ _ _ _ _ _ _ _ _ _ _ _ _ _ _ _ _ _ _ _ _ _ _ _ _ _ _ _ _ _ _ _ _ _ _ _ _ _ _ _ _ _ _ _ _ _ _ _ _ _ _ _ _ _ _ _ _ _ _ _ _ _ _ _ _ _ _ _ _ _ _ _ _ _ _ _ _ _ _ _ _ _ _ _ _ _ _ _) ?_
  refine fun a' y1 => ex_elim fun sv => ex_elim fun u7 => ex_elim fun u8 => ex_elim fun u9 => ex_elim fun u10 => ex_elim fun u11 => ex_elim fun u34 => ex_elim fun u35 => ex_elim fun u36 => ex_elim fun u37 => ex_elim fun u38 => ex_elim fun u39 => ex_elim fun u40 => ex_elim fun u41 => ex_elim fun u42 => ex_elim fun u43 => ex_elim fun u44 => ex_elim fun u45 => ex_elim fun u46 => ex_elim fun u47 => ex_elim fun u48 => ex_elim fun u49 => ex_elim fun u50 => ex_elim fun u51 => ex_elim fun u52 => ex_elim fun u53 => ex_elim fun u54 => ex_elim fun u55 => ex_elim fun u56 => ex_elim fun u57 => ex_elim fun u58 => ex_elim fun u59 => ex_elim fun u60 => ex_elim fun u61 => ex_elim fun u62 => ex_elim fun u63 => ex_elim fun u64 => ex_elim fun u65 => ex_elim fun u66 => ex_elim fun u67 => ex_elim fun u68 => ex_elim fun u69 => ex_elim fun u70 => ex_elim fun u71 => ex_elim fun u72 => ex_elim fun u73 => ex_elim fun u74 => ex_elim fun u75 => ex_elim fun u76 => ex_elim fun u77 => ex_elim fun u78 => ?_
  rintro ⟨rfl, hx⟩
  have HS4 := hid hx
  clear hx HS3 v2
  go_upto_block 4 with (fail)
  refine wp_meet (avAllPost (w.heap.size + 1) C ds.length r4 fr ep hz (.slice pp q.length cp) (.slice pd ds.length cd) sv q ds ss vs W0 _ _ _ _ _ _ _ _ _ _ _ _ _ _ _ _ _ _ _ _ _ _ _ _ _ _ _ _ _ _ _ _ _ _ _ _ _ _ _ _ _ _ _ _ _ _ _ _ _ _ _ _ _ _ _ _ _ _ _ _ _ _ _ _ _ _ _ _ _ _ _ _ _ _ _ _ _ _ _ _ _ _ _ _ _ _ _ _ _ _ _ _ _ _ _ _) (avAll E4.out HG.out.1 HS4.out _ _ _ _ _ _ _ _ _ _ _ _ _ _ _ _ _ _ _ _ _ _ _ _ _ _ _ _ _ _ _ _ _ _ _ _ _ _ _ _ _ _ _ _ _ _ _ _ _ _ _ _ _ _ _ _ _ _ _ _ _ _ _ _ _ _ _ _ _ _ _ _ _ _ _ _ _ _ _ _ _ _ _ _ _ _ _ _ _ _ _ _ _ _ _ _ _ _ _ _ _ _ _ _ _ _ _ _ _ _ _ _ _ _ _ _ _ _ _ _ _ _ _ _ _ _ _ _ _ _ _ _ _ _ _ _ _ _ _ _ _ _) ?_
  refine fun a' y2 => ex_elim fun av => ex_elim fun u12 => ex_elim fun u13 => ex_elim fun u14 => ex_elim fun u15 => ex_elim fun u16 => ex_elim fun u79 => ex_elim fun u80 => ex_elim fun u81 => ex_elim fun u82 => ex_elim fun u83 => ex_elim fun u84 => ex_elim fun u85 => ex_elim fun u86 => ex_elim fun u87 => ex_elim fun u88 => ex_elim fun u89 => ex_elim fun u90 => ex_elim fun u91 => ex_elim fun u92 => ex_elim fun u93 => ex_elim fun u94 => ex_elim fun u95 => ex_elim fun u96 => ex_elim fun u97 => ex_elim fun u98 => ex_elim fun u99 => ex_elim fun u100 => ex_elim fun u101 => ex_elim fun u102 => ex_elim fun u103 => ex_elim fun u104 => ex_elim fun u105 => ex_elim fun u106 => ex_elim fun u107 => ex_elim fun u108 => ex_elim fun u109 => ex_elim fun u110 => ex_elim fun u111 => ex_elim fun u112 => ex_elim fun u113 => ex_elim fun u114 => ex_elim fun u115 => ex_elim fun u116 => ex_elim fun u117 => ex_elim fun u118 => ex_elim fun u119 => ex_elim fun u120 => ?_
  rintro ⟨rfl, hx⟩
  have HS5 := hid hx
  clear hx HS4 y1
  go_upto_region 32 with (fail)
  refine wp_meet (CkPost (w.heap.size + 1) C l (okB r4 ⟨⟨fr, ep, q, ds⟩, hz, ss, vs⟩ l) y2 _ _ _ _ _ _ _ _ _ _ _ _ _ _ _ _ _ _ _ _ _ _ _ _ _ _ _ _ _ _ _ _ _ _ _ _ _ _ _ _ _ _ _ _ _ _ _ _ _ _ _ _ _ _ _ _ _ _ _ _ _ _ _ _ _ _ _ _ _ _ _ _ _ _ _ _ _ _ _ _ _ _ _ _ _ _ _ _ _ _ _ _ _ _ _ _ _ _ _ _ _ _ _ _ _ _ _ _ _ _ _ _ _ _ _ _ _ _ _ _) (dcheck HS5.out HG.out.2.1.route (fun h => isConf_in (isScr_parts h).1 HG.out.2.1) HG.out.2.2.1 _ _ _ _ _ _ _ _ _ _ _ _ _ _ _ _ _ _ _ _ _ _ _ _ _ _ _ _ _ _ _ _ _ _ _ _ _ _ _ _ _ _ _ _ _ _ _ _ _ _ _ _ _ _ _ _ _ _ _ _ _ _ _ _ _ _ _ _ _ _ _ _ _ _ _ _ _ _ _ _ _ _ _ _ _ _ _ _ _ _ _ _ _ _ _ _ _ _ _ _ _ _ _ _ _ _ _ _ _ _ _ _ _ _ _ _ _ _ _ _ _ _ _ _ _ _ _ _ _ _ _ _ _ _ _ _ _ _ _ _ _ _ _) ?_
  refine fun a' y3 => ex_elim fun u121 => ex_elim fun u122 => ex_elim fun u123 => ex_elim fun u124 => ex_elim fun u125 => ex_elim fun u126 => ex_elim fun u127 => ex_elim fun u128 => ex_elim fun u129 => ex_elim fun u130 => ex_elim fun u131 => ex_elim fun u132 => ex_elim fun u133 => ex_elim fun u134 => ex_elim fun u135 => ex_elim fun u136 => ex_elim fun u137 => ex_elim fun u138 => ex_elim fun u139 => ex_elim fun u140 => ex_elim fun u141 => ex_elim fun u142 => ?_
  rintro ⟨rfl, hx⟩
  have HX3 := hid hx
  have HN3 : Hid (y3.heap[w.heap.size]? = some zeroScrO) := block_ext hx (HS5.out.on.blk HN.out (by omega))
  have HXX : Hid (Ext w y3) := Ext.trans ⟨Below.trans HX.out.below (HS5.out.on.below (by omega) HX.out.size)⟩ hx
  clear hx
  obtain ⟨ps, cs, rfl, -, -⟩ := HS5.out.streams.shape
  obtain ⟨pa, ca, rfl, -, -⟩ := HS5.out.arrivals.shape
  cases hok : okB r4 ⟨⟨fr, ep, q, ds⟩, hz, ss, vs⟩ l
  · go_upto_region 33 with (fail)
    refine wp_meet (EndPost w.heap.size (.bool false) zeroScrO y3) (dfail HN3.out _ _ _ _ _ _ _ _ _ _ _ _ _ _ _ _ _ _ _ _ _ _ _ _ _ _ _ _ _ _ _ _ _ _ _ _ _ _ _ _ _ _ _ _ _ _ _ _ _ _ _ _ _ _ _ _ _ _ _ _ _ _ _ _ _ _ _ _ _ _ _ _ _ _ _ _ _ _ _ _ _ _ _ _ _ _ _ _ _ _ _ _ _ _ _ _ _ _ _ _ _ _ _ _ _ _ _ _ _ _ _ _ _ _ _ _ _ _ _ _ _ _ _ _ _ _ _ _ _ _ _ _ _ _ _ _ _ _ _ _ _ _ _ _ _) ?_
    refine fun a' y => ex_elim fun u0 => ex_elim fun u1 => ex_elim fun u4 => ex_elim fun u5 => ex_elim fun u6 => ex_elim fun u7 => ex_elim fun u8 => ex_elim fun u9 => ex_elim fun u10 => ex_elim fun u11 => ex_elim fun u12 => ex_elim fun u13 => ex_elim fun u14 => ex_elim fun u15 => ex_elim fun u16 => ex_elim fun u17 => ex_elim fun u18 => ex_elim fun u19 => ex_elim fun u20 => ex_elim fun u21 => ex_elim fun u22 => ex_elim fun u23 => ex_elim fun u24 => ex_elim fun u25 => ex_elim fun u26 => ex_elim fun u27 => ex_elim fun u28 => ex_elim fun u29 => ex_elim fun u30 => ex_elim fun u31 => ex_elim fun u32 => ex_elim fun u33 => ex_elim fun u34 => ex_elim fun u35 => ex_elim fun u36 => ex_elim fun u37 => ex_elim fun u38 => ex_elim fun u39 => ex_elim fun u40 => ex_elim fun u41 => ex_elim fun u42 => ex_elim fun u43 => ex_elim fun u44 => ex_elim fun u45 => ex_elim fun u46 => ex_elim fun u47 => ex_elim fun u48 => ex_elim fun u49 => ex_elim fun u50 => ex_elim fun u51 => ex_elim fun u52 => ex_elim fun u53 => ex_elim fun u54 => ex_elim fun u55 => ex_elim fun u56 => ex_elim fun u57 => ex_elim fun u58 => ex_elim fun u59 => ex_elim fun u60 => ex_elim fun u61 => ex_elim fun u62 => ex_elim fun u63 => ex_elim fun u64 => ex_elim fun u65 => ex_elim fun u66 => ex_elim fun u67 => ex_elim fun u68 => ex_elim fun u69 => ex_elim fun u70 => ex_elim fun u71 => ex_elim fun u72 => ex_elim fun u73 => ex_elim fun u74 => ex_elim fun u75 => ex_elim fun u76 => ex_elim fun u77 => ex_elim fun u78 => ex_elim fun u79 => ex_elim fun u80 => ex_elim fun u81 => ex_elim fun u82 => ex_elim fun u83 => ex_elim fun u84 => ex_elim fun u85 => ex_elim fun u86 => ex_elim fun u87 => ex_elim fun u88 => ex_elim fun u89 => ex_elim fun u90 => ex_elim fun u91 => ex_elim fun u92 => ex_elim fun u93 => ex_elim fun u94 => ex_elim fun u95 => ex_elim fun u96 => ex_elim fun u97 => ex_elim fun u98 => ex_elim fun u99 => ex_elim fun u100 => ex_elim fun u101 => ex_elim fun u102 => ex_elim fun u103 => ex_elim fun u104 => ex_elim fun u105 => ex_elim fun u106 => ex_elim fun u107 => ex_elim fun u108 => ex_elim fun u109 => ex_elim fun u110 => ex_elim fun u111 => ex_elim fun u112 => ex_elim fun u113 => ex_elim fun u114 => ex_elim fun u115 => ex_elim fun u116 => ex_elim fun u117 => ex_elim fun u118 => ex_elim fun u119 => ex_elim fun u120 => ex_elim fun u121 => ex_elim fun u122 => ex_elim fun u123 => ex_elim fun u124 => ex_elim fun u125 => ex_elim fun u126 => ex_elim fun u127 => ex_elim fun u128 => ex_elim fun u129 => ex_elim fun u130 => ex_elim fun u131 => ex_elim fun u132 => ex_elim fun u133 => ex_elim fun u134 => ex_elim fun u135 => ex_elim fun u136 => ex_elim fun u137 => ex_elim fun u138 => ex_elim fun u139 => ex_elim fun u140 => ex_elim fun u141 => ex_elim fun u142 => ex_elim fun u143 => ex_elim fun u144 => ex_elim fun u145 => ?_
    rintro ⟨rfl, hy, hO⟩
    have hF : Ext w y := ⟨HXX.out.below.trans (hO.below (Nat.le_refl _) HXX.out.size)⟩
    have HF := hid hF
    clear hF hO
    have m0 := blk_cell hy 0
    have m1 := blk_cell hy 1
    have m2 := blk_cell hy 2
    have m3 := blk_cell hy 3
    have m4 := blk_cell hy 4
    have m5 := blk_cell hy 5
    have m6 := blk_cell hy 6
    simp only [List.getElem?_toArray, List.getElem?_cons_zero, List.getElem?_cons_succ] at m0 m1 m2 m3 m4 m5 m6
    go_wp2
    exact bodyPost_ret (v := .tuple #[noScrV, .bool false]) (by simp [results, Tryz.results6, go_sem, m0, m1, m2, m3, m4, m5, m6]) rfl ⟨fun _ => ⟨rfl, HF.out⟩, fun h => (by rw [hok] at h; cases h)⟩
  · go_upto_region 34 with (fail)
    refine wp_meet (EndPost w.heap.size (.bool true) (scrO fr ep (.slice pp q.length cp) (.slice pd ds.length cd) hz (.slice ps ss.length cs) (.slice pa vs.length ca)) y3) (dgood HN3.out (block_ext HX3.out HS5.out.cb) _ _ _ _ _ _ _ _ _ _ _ _ _ _ _ _ _ _ _ _ _ _ _ _ _ _ _ _ _ _ _ _ _ _ _ _ _ _ _ _ _ _ _ _ _ _ _ _ _ _ _ _ _ _ _ _ _ _ _ _ _ _ _ _ _ _ _ _ _ _ _ _ _ _ _ _ _ _ _ _ _ _ _ _ _ _ _ _ _ _ _ _ _ _ _ _ _ _ _ _ _ _ _ _ _ _ _ _ _ _ _ _ _ _ _ _ _ _ _ _ _ _ _ _ _ _ _ _ _ _ _ _ _ _ _ _ _ _ _ _ _ _ _ _) ?_
    refine fun a' y => ex_elim fun u0 => ex_elim fun u1 => ex_elim fun u4 => ex_elim fun u5 => ex_elim fun u6 => ex_elim fun u7 => ex_elim fun u8 => ex_elim fun u9 => ex_elim fun u10 => ex_elim fun u11 => ex_elim fun u12 => ex_elim fun u13 => ex_elim fun u14 => ex_elim fun u15 => ex_elim fun u16 => ex_elim fun u17 => ex_elim fun u18 => ex_elim fun u19 => ex_elim fun u20 => ex_elim fun u21 => ex_elim fun u22 => ex_elim fun u23 => ex_elim fun u24 => ex_elim fun u25 => ex_elim fun u26 => ex_elim fun u27 => ex_elim fun u28 => ex_elim fun u29 => ex_elim fun u30 => ex_elim fun u31 => ex_elim fun u32 => ex_elim fun u33 => ex_elim fun u34 => ex_elim fun u35 => ex_elim fun u36 => ex_elim fun u37 => ex_elim fun u38 => ex_elim fun u39 => ex_elim fun u40 => ex_elim fun u41 => ex_elim fun u42 => ex_elim fun u43 => ex_elim fun u44 => ex_elim fun u45 => ex_elim fun u46 => ex_elim fun u47 => ex_elim fun u48 => ex_elim fun u49 => ex_elim fun u50 => ex_elim fun u51 => ex_elim fun u52 => ex_elim fun u53 => ex_elim fun u54 => ex_elim fun u55 => ex_elim fun u56 => ex_elim fun u57 => ex_elim fun u58 => ex_elim fun u59 => ex_elim fun u60 => ex_elim fun u61 => ex_elim fun u62 => ex_elim fun u63 => ex_elim fun u64 => ex_elim fun u65 => ex_elim fun u66 => ex_elim fun u67 => ex_elim fun u68 => ex_elim fun u69 => ex_elim fun u70 => ex_elim fun u71 => ex_elim fun u72 => ex_elim fun u73 => ex_elim fun u74 => ex_elim fun u75 => ex_elim fun u76 => ex_elim fun u77 => ex_elim fun u78 => ex_elim fun u79 => ex_elim fun u80 => ex_elim fun u81 => ex_elim fun u82 => ex_elim fun u83 => ex_elim fun u84 => ex_elim fun u85 => ex_elim fun u86 => ex_elim fun u87 => ex_elim fun u88 => ex_elim fun u89 => ex_elim fun u90 => ex_elim fun u91 => ex_elim fun u92 => ex_elim fun u93 => ex_elim fun u94 => ex_elim fun u95 => ex_elim fun u96 => ex_elim fun u97 => ex_elim fun u98 => ex_elim fun u99 => ex_elim fun u100 => ex_elim fun u101 => ex_elim fun u102 => ex_elim fun u103 => ex_elim fun u104 => ex_elim fun u105 => ex_elim fun u106 => ex_elim fun u107 => ex_elim fun u108 => ex_elim fun u109 => ex_elim fun u110 => ex_elim fun u111 => ex_elim fun u112 => ex_elim fun u113 => ex_elim fun u114 => ex_elim fun u115 => ex_elim fun u116 => ex_elim fun u117 => ex_elim fun u118 => ex_elim fun u119 => ex_elim fun u120 => ex_elim fun u121 => ex_elim fun u122 => ex_elim fun u123 => ex_elim fun u124 => ex_elim fun u125 => ex_elim fun u126 => ex_elim fun u127 => ex_elim fun u128 => ex_elim fun u129 => ex_elim fun u130 => ex_elim fun u131 => ex_elim fun u132 => ex_elim fun u133 => ex_elim fun u134 => ex_elim fun u135 => ex_elim fun u136 => ex_elim fun u137 => ex_elim fun u138 => ex_elim fun u139 => ex_elim fun u140 => ex_elim fun u141 => ex_elim fun u142 => ex_elim fun u143 => ex_elim fun u144 => ex_elim fun u145 => ?_
    rintro ⟨rfl, hy, hO⟩
    have hF : Ext w y := ⟨HXX.out.below.trans (hO.below (Nat.le_refl _) HXX.out.size)⟩
    have HF := hid hF
    have hk := hO.kept HN3.out (good := goodS) (by decide)
    have hr := ScrRows.kept (q := ⟨⟨fr, ep, q, ds⟩, hz, ss, vs⟩) (ScrRows.kept ⟨HS5.out.plans, HS5.out.doms, HS5.out.streams.weak (Nat.zero_le _), HS5.out.arrivals.weak (Nat.zero_le _)⟩ (Kept.of_ext HX3.out)) hk
    have HV := hid hr.scrV
    clear hF hO hk hr
    have m0 := blk_cell hy 0
    have m1 := blk_cell hy 1
    have m2 := blk_cell hy 2
    have m3 := blk_cell hy 3
    have m4 := blk_cell hy 4
    have m5 := blk_cell hy 5
    have m6 := blk_cell hy 6
    simp only [List.getElem?_toArray, List.getElem?_cons_zero, List.getElem?_cons_succ] at m0 m1 m2 m3 m4 m5 m6
    go_wp2
    exact bodyPost_ret (v := .tuple #[scrV ⟨⟨fr, ep, q, ds⟩, hz, ss, vs⟩ (.slice pp q.length cp) (.slice pd ds.length cd) (.slice ps ss.length cs) (.slice pa vs.length ca), .bool true]) (by simp [results, Tryz.results6, go_sem, m0, m1, m2, m3, m4, m5, m6]) rfl ⟨fun h => (by rw [hok] at h; cases h), fun _ => ⟨pp, cp, pd, cd, ps, cs, pa, ca, rfl, HV.out, HF.out⟩⟩
end Go.Proofs.YtmpgeabfogcblaaGreat

namespace Go.Proofs.YtmpgeabfogcblaaGreat
open Go.ChangeShapes Go.WideShapes Go.ChangeAt Go.RowKit Go.Joins Go.Deep
set_option linter.unusedSimpArgs false

namespace scriptReads
set_option maxRecDepth 100000 in
set_option maxHeartbeats 4000000 in
theorem docRead_large (w : World) (l : List UInt8) (hl : 40000 < l.length) :
    Calls Tryz.prog 6 #[.string (str l)] w (fun e w' => e = .returned (.tuple #[noScrV, .bool false]) ∧ Ext w w') := by
  go_enter Tryz.func6, Tryz.ntmps6
  go_wp2_with fail
  exact bodyPost_ret (v := .tuple #[noScrV, .bool false]) (by simp [results, Tryz.results6, go_sem]) rfl ⟨rfl, (by repeat (first | exact Ext.refl _ | assumption | refine Ext.more ?_ _ | refine Ext.drew ?_ | refine Ext.drewN ?_ _ | refine Ext.alloc ?_ _ | refine Ext.setCell ?_ (by simp; try omega) _ | refine Ext.trans ?_ (by assumption)))⟩

theorem is_errno_to {n m : Int} {r : Bool} (e : (n == m) = r) (w : World) : Calls Tryz.prog 8 #[.iface 39 (.int .i64 n), .iface 39 (.int .i64 m)] w (Yields w (.bool r)) := e ▸ Err.is_errno n m w
/-- The script of nothing. -/
def zS : Scr := ⟨⟨0, 0, [], []⟩, 0, [], []⟩
theorem slc_nil {α : Type} (n : Nat) (E : World → Nat → Nat → α → Prop) (w : World) : Slc n E w (.slice none 0 0) [] := ⟨none, 0, rfl, Nat.zero_le _, Nat.zero_le _, fun h => absurd h (by simp)⟩
theorem zS_v (w : World) : ScrV w zS (.slice none 0 0) (.slice none 0 0) (.slice none 0 0) (.slice none 0 0) := ⟨⟨slc_nil _ _ _, slc_nil _ _ _⟩, slc_nil _ _ _, slc_nil _ _ _⟩
theorem sameZ (w : World) : Calls Tryz.prog 7 #[noScrV, noScrV] w (Yields w (.bool true)) :=
  sameScr_to (sameS_self zS) w _ _ _ _ _ _ _ _ (zS_v w) (zS_v w)

set_option maxRecDepth 100000 in
set_option maxHeartbeats 8000000 in
theorem walk (l : List UInt8) (w : World) : Calls Tryz.prog 3 #[.string (str l)] w (Yields w (.bool true)) := by
  have hne := fun v w => run_neq_iface_nil (P := Tryz.prog) w 39 v Tryz.underlying32
  have hnn := fun w => run_neq_nil_nil' (P := Tryz.prog) w Tryz.underlying32
  have hee := fun v w => run_eql_iface_nil (P := Tryz.prog) w 39 v Tryz.underlying32
  have hen := fun w => run_eql_nil_nil' (P := Tryz.prog) w Tryz.underlying32
  go_enter Tryz.func3, Tryz.ntmps3
  by_cases h5 : 50000 < l.length
  · go_wp2_with (go_at_call 4; refine (known4_any _).yields ?_; intro p0)
    go_returns
    exact ⟨rfl, (by repeat (first | exact Ext.refl _ | assumption | refine Ext.more ?_ _ | refine Ext.drew ?_ | refine Ext.drewN ?_ _ | refine Ext.alloc ?_ _ | refine Ext.setCell ?_ (by simp; try omega) _ | refine Ext.trans ?_ (by assumption)))⟩
  by_cases h4 : 40000 < l.length
  · have HL := hid h4
    go_upto_region 7 with (first
      | (go_at_call 4; refine (known4_any _).yields ?_; intro p0)
      | (go_at_call 5; refine (read_large _ l HL.out).mono ?_; rintro e w1 ⟨rfl, hx1⟩; have HX1 := hid hx1; clear hx1)
      | (go_at_call 6; refine (docRead_large _ l HL.out).mono ?_; rintro e w2 ⟨rfl, hx2⟩; have HX2 := hid hx2; clear hx2))
    have hb1 : (w2.alloc (.cells #[.int .i64 0, .int .i64 0, .slice none 0 0, .slice none 0 0, .int .i64 0, .slice none 0 0, .slice none 0 0] 30 (0, 0))).heap[w1.heap.size]? = some (.cells #[.int .i64 0, .int .i64 0, .slice none 0 0, .slice none 0 0, .int .i64 0, .slice none 0 0, .slice none 0 0] 30 (0, 0)) := block_ext (HX2.out.alloc _) (heap_alloc_new w1 _)
    have hb2 : (w2.alloc (.cells #[.int .i64 0, .int .i64 0, .slice none 0 0, .slice none 0 0, .int .i64 0, .slice none 0 0, .slice none 0 0] 30 (0, 0))).heap[w2.heap.size]? = some (.cells #[.int .i64 0, .int .i64 0, .slice none 0 0, .slice none 0 0, .int .i64 0, .slice none 0 0, .slice none 0 0] 30 (0, 0)) := heap_alloc_new w2 _
    have HXX : Hid (Ext w (w2.alloc (.cells #[.int .i64 0, .int .i64 0, .slice none 0 0, .slice none 0 0, .int .i64 0, .slice none 0 0, .slice none 0 0] 30 (0, 0)))) := ((((ext_more w p0).trans HX1.out).alloc _).trans HX2.out).alloc _
    generalize w2.alloc (.cells #[.int .i64 0, .int .i64 0, .slice none 0 0, .slice none 0 0, .int .i64 0, .slice none 0 0, .slice none 0 0] 30 (0, 0)) = v at *
    generalize w1.heap.size = A at *
    generalize w2.heap.size = A2 at *
    clear HX1 HX2
    have m0 := blk_cell hb1 0
    have m1 := blk_cell hb1 1
    have m2 := blk_cell hb1 2
    have m3 := blk_cell hb1 3
    have m4 := blk_cell hb1 4
    have m5 := blk_cell hb1 5
    have m6 := blk_cell hb1 6
    have k0 := blk_cell hb2 0
    have k1 := blk_cell hb2 1
    have k2 := blk_cell hb2 2
    have k3 := blk_cell hb2 3
    have k4 := blk_cell hb2 4
    have k5 := blk_cell hb2 5
    have k6 := blk_cell hb2 6
    simp only [List.getElem?_toArray, List.getElem?_cons_zero, List.getElem?_cons_succ] at m0 m1 m2 m3 m4 m5 m6 k0 k1 k2 k3 k4 k5 k6
    clear hb1 hb2
    go_wp2_with (first
      | (go_at_call 7; refine (sameZ _).yields ?_; intro p3)
      | (go_at_call 8; (with_reducible refine (is_errno_to (r := true) rfl _).yields ?_); intro p4))
    go_returns
    exact ⟨rfl, HXX.out.trans (by repeat (first | exact Ext.refl _ | assumption | refine Ext.more ?_ _ | refine Ext.drew ?_ | refine Ext.drewN ?_ _ | refine Ext.alloc ?_ _ | refine Ext.setCell ?_ (by simp; try omega) _ | refine Ext.trans ?_ (by assumption)))⟩
  have HL : Hid (l.length ≤ 40000) := by unfold Hid; omega
  cases hk : scrOk l
  · have HK := hid hk
    clear hk
    go_upto_region 7 with (first
      | (go_at_call 4; refine (known4_any _).yields ?_; intro p0)
      | (go_at_call 5; refine (read_no _ HK.out).mono ?_; rintro e w1 ⟨n, hn, rfl, hx1⟩; have HX1 := hid hx1; clear hx1)
      | (go_at_call 6; refine (docRead_any _ l HL.out).mono ?_; rintro e w2 ⟨hbad, -⟩; obtain ⟨rfl, hx2⟩ := hbad HK.out; have HX2 := hid hx2; clear hx2))
    have hb1 : (w2.alloc (.cells #[.int .i64 0, .int .i64 0, .slice none 0 0, .slice none 0 0, .int .i64 0, .slice none 0 0, .slice none 0 0] 30 (0, 0))).heap[w1.heap.size]? = some (.cells #[.int .i64 0, .int .i64 0, .slice none 0 0, .slice none 0 0, .int .i64 0, .slice none 0 0, .slice none 0 0] 30 (0, 0)) := block_ext (HX2.out.alloc _) (heap_alloc_new w1 _)
    have hb2 : (w2.alloc (.cells #[.int .i64 0, .int .i64 0, .slice none 0 0, .slice none 0 0, .int .i64 0, .slice none 0 0, .slice none 0 0] 30 (0, 0))).heap[w2.heap.size]? = some (.cells #[.int .i64 0, .int .i64 0, .slice none 0 0, .slice none 0 0, .int .i64 0, .slice none 0 0, .slice none 0 0] 30 (0, 0)) := heap_alloc_new w2 _
    have HXX : Hid (Ext w (w2.alloc (.cells #[.int .i64 0, .int .i64 0, .slice none 0 0, .slice none 0 0, .int .i64 0, .slice none 0 0, .slice none 0 0] 30 (0, 0)))) := ((((ext_more w p0).trans HX1.out).alloc _).trans HX2.out).alloc _
    generalize w2.alloc (.cells #[.int .i64 0, .int .i64 0, .slice none 0 0, .slice none 0 0, .int .i64 0, .slice none 0 0, .slice none 0 0] 30 (0, 0)) = v at *
    generalize w1.heap.size = A at *
    generalize w2.heap.size = A2 at *
    clear HX1 HX2
    have m0 := blk_cell hb1 0
    have m1 := blk_cell hb1 1
    have m2 := blk_cell hb1 2
    have m3 := blk_cell hb1 3
    have m4 := blk_cell hb1 4
    have m5 := blk_cell hb1 5
    have m6 := blk_cell hb1 6
    have k0 := blk_cell hb2 0
    have k1 := blk_cell hb2 1
    have k2 := blk_cell hb2 2
    have k3 := blk_cell hb2 3
    have k4 := blk_cell hb2 4
    have k5 := blk_cell hb2 5
    have k6 := blk_cell hb2 6
    simp only [List.getElem?_toArray, List.getElem?_cons_zero, List.getElem?_cons_succ] at m0 m1 m2 m3 m4 m5 m6 k0 k1 k2 k3 k4 k5 k6
    clear hb1 hb2
    go_wp2_with (first
      | (go_at_call 7; refine (sameZ _).yields ?_; intro p3))
    go_returns
    exact ⟨rfl, HXX.out.trans (by repeat (first | exact Ext.refl _ | assumption | refine Ext.more ?_ _ | refine Ext.drew ?_ | refine Ext.drewN ?_ _ | refine Ext.alloc ?_ _ | refine Ext.setCell ?_ (by simp; try omega) _ | refine Ext.trans ?_ (by assumption)))⟩
  · have HK := hid hk
    clear hk
    have hrd := fun w => read_ok w HK.out
    have hdr := fun w => docRead_any w l HL.out
    generalize (scrR ⟨l, 0⟩).1 = q at hrd hdr
    have HRD := hid hrd
    have HDR := hid hdr
    clear hrd hdr
    go_upto_region 7 with (first
      | (go_at_call 4; refine (known4_any _).yields ?_; intro p0)
      | (go_at_call 5; refine (HRD.out _).mono ?_; rintro e w1 ⟨ap, apc, ad, adc, aS, asc, aa, aac, rfl, hv1, hx1⟩; have HX1 := hid hx1; have HV1 := hid hv1; clear hx1 hv1)
      | (go_at_call 6; refine (HDR.out _).mono ?_; rintro e w2 ⟨-, hgood⟩; obtain ⟨bp, bpc, bd, bdc, bS, bsc, ba, bac, rfl, hv2, hx2⟩ := hgood HK.out; have HX2 := hid hx2; have HV2 := hid hv2; clear hx2 hv2 hgood))
    have hb1 : (w2.alloc (.cells #[.int .i64 q.conf.frame, .int .i64 q.conf.epoch, .slice bp q.conf.plans.length bpc, .slice bd q.conf.doms.length bdc, .int .i64 q.horizon, .slice bS q.streams.length bsc, .slice ba q.arrivals.length bac] 30 (0, 0))).heap[w1.heap.size]? = some (.cells #[.int .i64 q.conf.frame, .int .i64 q.conf.epoch, .slice ap q.conf.plans.length apc, .slice ad q.conf.doms.length adc, .int .i64 q.horizon, .slice aS q.streams.length asc, .slice aa q.arrivals.length aac] 30 (0, 0)) := block_ext (HX2.out.alloc _) (heap_alloc_new w1 _)
    have hb2 : (w2.alloc (.cells #[.int .i64 q.conf.frame, .int .i64 q.conf.epoch, .slice bp q.conf.plans.length bpc, .slice bd q.conf.doms.length bdc, .int .i64 q.horizon, .slice bS q.streams.length bsc, .slice ba q.arrivals.length bac] 30 (0, 0))).heap[w2.heap.size]? = some (.cells #[.int .i64 q.conf.frame, .int .i64 q.conf.epoch, .slice bp q.conf.plans.length bpc, .slice bd q.conf.doms.length bdc, .int .i64 q.horizon, .slice bS q.streams.length bsc, .slice ba q.arrivals.length bac] 30 (0, 0)) := heap_alloc_new w2 _
    have HXX : Hid (Ext w (w2.alloc (.cells #[.int .i64 q.conf.frame, .int .i64 q.conf.epoch, .slice bp q.conf.plans.length bpc, .slice bd q.conf.doms.length bdc, .int .i64 q.horizon, .slice bS q.streams.length bsc, .slice ba q.arrivals.length bac] 30 (0, 0)))) := ((((ext_more w p0).trans HX1.out).alloc _).trans HX2.out).alloc _
    have HA := hid (HV1.out.ext (((Ext.alloc (Ext.refl w1) (.cells #[.int .i64 q.conf.frame, .int .i64 q.conf.epoch, .slice ap q.conf.plans.length apc, .slice ad q.conf.doms.length adc, .int .i64 q.horizon, .slice aS q.streams.length asc, .slice aa q.arrivals.length aac] 30 (0, 0))).trans HX2.out).alloc (.cells #[.int .i64 q.conf.frame, .int .i64 q.conf.epoch, .slice bp q.conf.plans.length bpc, .slice bd q.conf.doms.length bdc, .int .i64 q.horizon, .slice bS q.streams.length bsc, .slice ba q.arrivals.length bac] 30 (0, 0))))
    have HB := hid (HV2.out.ext (Ext.alloc (Ext.refl w2) (.cells #[.int .i64 q.conf.frame, .int .i64 q.conf.epoch, .slice bp q.conf.plans.length bpc, .slice bd q.conf.doms.length bdc, .int .i64 q.horizon, .slice bS q.streams.length bsc, .slice ba q.arrivals.length bac] 30 (0, 0))))
    clear HV1 HV2
    generalize w2.alloc (.cells #[.int .i64 q.conf.frame, .int .i64 q.conf.epoch, .slice bp q.conf.plans.length bpc, .slice bd q.conf.doms.length bdc, .int .i64 q.horizon, .slice bS q.streams.length bsc, .slice ba q.arrivals.length bac] 30 (0, 0)) = v at *
    generalize w1.heap.size = A at *
    generalize w2.heap.size = A2 at *
    clear HX1 HX2
    have m0 := blk_cell hb1 0
    have m1 := blk_cell hb1 1
    have m2 := blk_cell hb1 2
    have m3 := blk_cell hb1 3
    have m4 := blk_cell hb1 4
    have m5 := blk_cell hb1 5
    have m6 := blk_cell hb1 6
    have k0 := blk_cell hb2 0
    have k1 := blk_cell hb2 1
    have k2 := blk_cell hb2 2
    have k3 := blk_cell hb2 3
    have k4 := blk_cell hb2 4
    have k5 := blk_cell hb2 5
    have k6 := blk_cell hb2 6
    simp only [List.getElem?_toArray, List.getElem?_cons_zero, List.getElem?_cons_succ] at m0 m1 m2 m3 m4 m5 m6 k0 k1 k2 k3 k4 k5 k6
    clear hb1 hb2
    go_wp2_with (first
      | (go_at_call 7; (with_reducible refine (sameScr_to (sameS_self q) _ _ _ _ _ _ _ _ _ (HA.out.ext (by repeat (first | exact Ext.refl _ | assumption | refine Ext.more ?_ _ | refine Ext.drew ?_ | refine Ext.drewN ?_ _ | refine Ext.alloc ?_ _ | refine Ext.setCell ?_ (by simp; try omega) _ | refine Ext.trans ?_ (by assumption)))) (HB.out.ext (by repeat (first | exact Ext.refl _ | assumption | refine Ext.more ?_ _ | refine Ext.drew ?_ | refine Ext.drewN ?_ _ | refine Ext.alloc ?_ _ | refine Ext.setCell ?_ (by simp; try omega) _ | refine Ext.trans ?_ (by assumption))))).yields ?_); intro p3))
    go_returns
    exact ⟨rfl, HXX.out.trans (by repeat (first | exact Ext.refl _ | assumption | refine Ext.more ?_ _ | refine Ext.drew ?_ | refine Ext.drewN ?_ _ | refine Ext.alloc ?_ _ | refine Ext.setCell ?_ (by simp; try omega) _ | refine Ext.trans ?_ (by assumption)))⟩

set_option linter.unusedVariables false in
set_option maxRecDepth 100000 in
theorem lifted (os : Os) (started : os.Started) (H : Type) (enc : TypeId × Value → H) :
    ReturnsInHanded {} Tryz.checked os 3 .any (Rows.scriptReadsSpec.pre6 enc Tryz.prog Tryz.f3 Rows.scriptReadsRow.domain false) (Rows.scriptReadsSpec.post enc Tryz.prog Tryz.f3 false true false false) := by
  refine returnsInHanded_of_change (C := Tryz.checked) Own.own started (by kernel_rfl) Tryz.func3
    (ChangeSpec.witness6 (enc := enc) (C := Tryz.checked) false ⟨#[], #[.string ByteArray.empty], []⟩ 8 (by kernel_rfl) (by kernel_rfl) (by kernel_rfl) (by kernel_rfl)) ?_
  intro W base args ds gs before hval0 hW hcnd _
  have hval : ∀ (j : Nat) t v, Tryz.f3.params[j]? = some t → args[j]? = some v → Value.okWide Tryz.prog W .any base t v := hval0
  have hW' := hW
  obtain ⟨p, q, hA0, hV, rfl, hfz, hnd⟩ := hW
  have hA : DataW.TrodAll enc Tryz.prog W 0 (fun _ => true) true Tryz.f3.params.toList args.toList ds p := hA0
  rw [Tryz.params3] at hA hval
  obtain ⟨v0, vs0, d0, ds0, p0, q0, hargs, rfl, rfl, h0, r0⟩ := trodAll_cons hA
  obtain ⟨rfl, rfl, rfl⟩ := trodAll_nil r0
  obtain rfl : args = #[v0] := by cases args; simp_all
  obtain ⟨rfl, rfl⟩ := trodVars_none hV
  have k0 := h0
  have lt0 : ∀ x ∈ p0, x.block < W.heap.size := by obtain ⟨m, hm⟩ := k0; exact DataW.trod_lt m _ _ _ hm
  obtain ⟨m, rfl, rfl, rfl, wm⟩ := Go.ChangeMaps.open_string Tryz.underlying9 (hval 0 9 v0 rfl rfl) h0
  obtain ⟨sl, rfl⟩ : ∃ sl, m = str sl := ⟨m.data.toList, (str_data m).symm⟩
  clear hA0 hval0
  refine (walk sl W).mono fun e W' ⟨he, hx⟩ => ?_
  subst he
  exact ⟨_, rfl, _, _, _, [], _, [], hW', trodAll_mk1 (shut_bool Tryz.underlying4 _), (trodAll_cons_mk (Below.trod Own.laidOut (by kernel_rfl) (of_decide_eq_true (by kernel_rfl)) k0 hx.below lt0) trodAll_mk0), rfl, hx.below.frame _, fun h => by cases h⟩

theorem proved : Rows.ScriptReadsSaid :=
  OpenClaim.holds_of_wide 3 Tryz.f3 rfl rfl rfl rfl rfl rfl rfl ⟨rfl, rfl, rfl, rfl, rfl⟩ rfl rfl rfl rfl rfl (by kernel_rfl) Tryz.func3 (by kernel_rfl)
    (of_decide_eq_true (by kernel_rfl)) (by unfold Func.isWrapper; first | (rw [if_pos (by decide +kernel)]; kernel_rfl) | (rw [if_neg (by decide +kernel)]; exact ⟨rfl, rfl⟩))
    (fun os started H enc _ => lifted os started H enc)

end scriptReads
end Go.Proofs.YtmpgeabfogcblaaGreat
