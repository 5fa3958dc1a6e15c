/- ScriptOnce: of every script, every place and every byte, in whatever memory: the law answers true, and its arguments read as they did. No conditions. -/
import Derived.Test.YtbllibgddiiboaaGreatRows
import Derived.Test.YtbllibgddiiboaaGreatLib
import Derived.WalkKit
import Derived.WalkLawsBesides
import Derived.Handy
import Derived.LaidEql
import Derived.Stop.Asserts
import Derived.RowKitTokens
import Derived.Test.YtbllibgddiiboaaGreatLays
import Derived.WalkSpells
import Derived.Test.YtbllibgddiiboaaGreatScr
import Derived.Test.YtbllibgddiiboaaGreatSr8
import Derived.Test.YtbllibgddiiboaaGreatSr9
import Derived.Test.YtbllibgddiiboaaGreatSbAll
import Derived.Test.YtbllibgddiiboaaGreatSc2
import Derived.Test.YtbllibgddiiboaaGreatMath4c
import Derived.Test.YtbllibgddiiboaaGreatRefScr2
import Derived.Test.YtbllibgddiiboaaGreatRefScr3
import Derived.Test.YtbllibgddiiboaaGreatRefScr4
import Derived.Test.YtbllibgddiiboaaGreatOwn2
import Derived.Laws.MakeOwn
import Derived.OwnWalk
import Derived.Test.YtbllibgddiiboaaGreatStr
import Derived.Test.YtbllibgddiiboaaGreatRead
import Derived.ArgAppend
import Derived.Deep.Light
namespace Go.Proofs.YtbllibgddiiboaaGreat
open Go.RowKit Go.Extern.Stop Go.Stop Go.Extern

namespace Err
theorem typeOf (v : Value) (w : World) : (Extern.ReflectliteType.typeOf #[.iface 39 v]).run Tryz.prog w = .ok (.iface 112 (.agg #[.pointer (some ⟨0, 39, none⟩)])) w := by kernel_rfl
theorem callTypeOf (v : Value) (w : World) : (callFunc 27 #[.iface 39 v]).run Tryz.prog w = .ok (.value (.iface 112 (.agg #[.pointer (some ⟨0, 39, none⟩)]))) w := by
  rw [@run_callFunc_extern Tryz.prog 27 _ Extern.ReflectliteType.typeOf Tryz.func27 (by kernel_rfl) (by kernel_rfl) (by kernel_rfl) (by kernel_rfl), typeOf]
  rfl
theorem comparable (w : World) : ((Extern.ReflectliteType.method fun t => do Extern.Rtype.noPackHeld "Comparable" t; pure (.bool (← typeInfo t).comparable)) #[.agg #[.pointer (some ⟨0, 39, none⟩)]]).run Tryz.prog w = .ok (.bool true) w := by kernel_rfl
theorem callComparable (w : World) : (callFunc 128 #[.agg #[.pointer (some ⟨0, 39, none⟩)]]).run Tryz.prog w = .ok (.value (.bool true)) w := by
  rw [@run_callFunc_extern Tryz.prog 128 _ (Extern.ReflectliteType.method fun t => do Extern.Rtype.noPackHeld "Comparable" t; pure (.bool (← typeInfo t).comparable)) Tryz.func128 (by kernel_rfl) (by kernel_rfl) (by kernel_rfl) (by kernel_rfl), comparable]
  rfl
theorem methodComparable (v : Value) (w : World) : (Go.method 285 112 v "Comparable").run Tryz.prog w = .ok (128, v) w := by kernel_rfl
theorem comp : (Tryz.prog.info? 39).map (·.comparable) = some true := by kernel_rfl
theorem noIs (v : Value) (xT : TypeId) (w : World) : (Instr.typeAssert (.iface 39 v) xT 114 true).run Tryz.prog w = .ok (.tuple #[.nilIface, .bool false]) w := run_typeAssert_lacksB Tryz.underlying114 (by kernel_rfl) (by kernel_rfl) v xT w
theorem noUnwrap (v : Value) (xT : TypeId) (w : World) : (Instr.typeAssert (.iface 39 v) xT 117 true).run Tryz.prog w = .ok (.tuple #[.nilIface, .bool false]) w := run_typeAssert_lacksB Tryz.underlying117 (by kernel_rfl) (by kernel_rfl) v xT w
theorem noUnwraps (v : Value) (xT : TypeId) (w : World) : (Instr.typeAssert (.iface 39 v) xT 118 true).run Tryz.prog w = .ok (.tuple #[.nilIface, .bool false]) w := run_typeAssert_lacksB Tryz.underlying118 (by kernel_rfl) (by kernel_rfl) v xT w
theorem equalIn (d : Nat) (a b : Int) (w : World) : (Op.equalIn (d + 2) 32 (.iface 39 (.int .i64 a)) (.iface 39 (.int .i64 b))).run Tryz.prog w = .ok (a == b) w := by
  obtain ⟨i, hi, hcmp⟩ := Option.map_eq_some_iff.1 comp
  simp [Op.equalIn, run_underlying Tryz.underlying32, run_underlying Tryz.underlying39, typeInfo, hi, hcmp]
theorem eql (a b : Int) (w : World) : (binOp .eql 32 (.iface 39 (.int .i64 a)) (.iface 39 (.int .i64 b))).run Tryz.prog w = .ok (.bool (a == b)) w := by
  simp only [binOp]
  simp [Op.equal, Op.maxDepth, equalIn 9998 a b w]

set_option maxHeartbeats 1000000 in
theorem is_errno (n m : Int) (w : World) : Calls Tryz.prog 10 #[.iface 39 (.int .i64 n), .iface 39 (.int .i64 m)] w (Yields w (.bool (n == m))) := by
  have tT := fun v => callTypeOf v
  have cT := callComparable
  have mR := methodComparable
  have nE := noIs
  have uE := noUnwrap
  have vE := noUnwraps
  have heq := eql n m w
  cases hq : n == m
  all_goals
    go_enter Tryz.func10, Tryz.ntmps10
    go_wp2
    refine wp_loop_rounds 1 ?_
    rw [rounds_succ]
    go_wp2
    go_returns
    exact ⟨rfl, Ext.refl _⟩

set_option maxHeartbeats 400000 in
theorem is_nil (m : Int) (w : World) : Calls Tryz.prog 10 #[.nilIface, .iface 39 (.int .i64 m)] w (Yields w (.bool false)) := by
  have hn := run_eql_iface_nil_left (P := Tryz.prog) w 39 (.int .i64 m) Tryz.underlying32
  go_enter Tryz.func10, Tryz.ntmps10
  go_wp2
  go_returns
  exact ⟨rfl, Ext.refl _⟩
end Err
end Go.Proofs.YtbllibgddiiboaaGreat

namespace Go.Proofs.YtbllibgddiiboaaGreat
open Go.RowKit

def baseRO : List RO := [
  ([.i 8, .i 2, .s 3 2, .s 13 4], 26),
  ([.i 2, .i 2, .i 2, .i 2], 3),
  ([.i 5, .i 1, .i 1, .i 1], 3),
  ([.s 1 4, .s 2 4], 98),
  ([.i 1, .i 3], 3),
  ([.i 2, .i 3], 3),
  ([.s 4 2, .s 5 2], 98),
  ([.i 3], 3),
  ([.s 7 1], 98),
  ([.i 0, .i 1], 3),
  ([.i 3], 3),
  ([.s 10 1], 98),
  ([.i 0, .i 1, .i 2], 3),
  ([.i 0, .u 0, .s 6 2, .nil, .i (-1), .i 4, .i 2, .i 4, .i 3, .i 2,
    .i 1, .u 1, .s 8 1, .s 9 2, .i 0, .i 4, .i 2, .i 4, .i 3, .i 2,
    .i 1, .u 2, .s 11 1, .nil, .i (-1), .i 4, .i 2, .i 4, .i 3, .i 2,
    .i 2, .u 3, .nil, .s 12 3, .i 1, .i 4, .i 2, .i 4, .i 3, .i 2], 103)]

abbrev baseV (N : Nat) : Value := .agg #[.int .i64 8, .int .i64 2, .slice (some ⟨N + 3, 0, none⟩) 2 2, .slice (some ⟨N + 13, 0, none⟩) 4 4]

set_option maxRecDepth 100000 in
set_option maxHeartbeats 4000000 in
theorem base_any (w : World) : Calls Tryz.prog 41 #[] w fun e w' => e = .returned (baseV w.heap.size) ∧ w' = allocs w (baseRO.map (RO.obj w.heap.size)) := by
  go_enter Tryz.func41, Tryz.ntmps41
  go_wp2
  refine bodyPost_ret (v := baseV w.heap.size) ?_ rfl ⟨rfl, rfl⟩
  simp [results, Tryz.results41, go_sem]
theorem baseRO_wf : ∀ o ∈ baseRO, ∀ v ∈ o.1, v.wf := wf_all (by decide)
theorem base_lies (w : World) : Lies w.heap.size baseRO (allocs w (baseRO.map (RO.obj w.heap.size))) := ⟨allocs_lays _ _, baseRO_wf⟩
theorem base_to (w : World) : Calls Tryz.prog 41 #[] w fun e w' => ∃ N, e = .returned (baseV N) ∧ Hid (N = w.heap.size) ∧ Lies N baseRO w' ∧ Ext w w' ∧ w'.heap.size = N + 14 :=
  (base_any w).mono fun e w' ⟨he, hw⟩ => ⟨_, he, rfl, hw ▸ base_lies w, hw ▸ allocs_ext _ _, by rw [hw, allocs_size]; rfl⟩
def baseC : Cnf := ⟨8, 2, [[2, 2, 2, 2], [5, 1, 1, 1]], [⟨0, 0, [[1, 3], [2, 3]], [], -1, 4, 2, 4, 3, 2⟩, ⟨1, 1, [[3]], [0, 1], 0, 4, 2, 4, 3, 2⟩, ⟨1, 2, [[3]], [], -1, 4, 2, 4, 3, 2⟩, ⟨2, 3, [], [0, 1, 2], 1, 4, 2, 4, 3, 2⟩]⟩
theorem baseC_of : confOf baseRO 8 2 (.s 3 2) (.s 13 4) = some baseC := by rfl
theorem baseC_is : isConf baseC = 0 := by decide
end Go.Proofs.YtbllibgddiiboaaGreat

namespace Go.Proofs.YtbllibgddiiboaaGreat
open Go.RowKit
set_option linter.unusedSimpArgs false

abbrev zero7 : Obj := .cells #[.int .i64 0, .int .i64 0, .slice none 0 0, .slice none 0 0, .int .i64 0, .slice none 0 0, .slice none 0 0] 30 (0, 0)
/-- A script's value: the configuration from block N on, the streams in block S, the arrivals in block V. -/
abbrev helpV (N S V : Nat) (h : Int) : Value := .agg #[.int .i64 8, .int .i64 2, .slice (some ⟨N + 3, 0, none⟩) 2 2, .slice (some ⟨N + 13, 0, none⟩) 4 4, .int .i64 h, .slice (some ⟨S, 0, none⟩) 4 4, .slice (some ⟨V, 0, none⟩) 4 4]
/-- These blocks lie so. -/
structure HelpS (base N S V : Nat) (os : List RO) (ss vs : List Value) (w : World) : Prop where
  lies : Lies N os w
  sb : w.heap[S]? = some (.cells ss.toArray 51 (0, 0))
  vb : w.heap[V]? = some (.cells vs.toArray 54 (0, 0))
  hN : base ≤ N
  hS : base ≤ S
  hV : base ≤ V
  sv : S ≠ V
  sn : S < N ∨ N + os.length ≤ S
  vn : V < N ∨ N + os.length ≤ V
theorem HelpS.ext {base N S V : Nat} {os : List RO} {ss vs : List Value} {w w' : World} (h : HelpS base N S V os ss vs w) (x : Ext w w') : HelpS base N S V os ss vs w' :=
  ⟨h.lies.ext x, block_ext x h.sb, block_ext x h.vb, h.hN, h.hS, h.hV, h.sv, h.sn, h.vn⟩
theorem HelpS.other {base N S V : Nat} {os : List RO} {ss vs : List Value} {w : World} (h : HelpS base N S V os ss vs w) {b j : Nat} (v : Value) (hb : b < base ∨ (b ≠ S ∧ b ≠ V ∧ (b < N ∨ N + os.length ≤ b))) : HelpS base N S V os ss vs (w.setCell ⟨b, j, none⟩ v) := by
  have h1 := h.hN
  have h2 := h.hS
  have h3 := h.hV
  exact ⟨h.lies.other v (by omega), (Below.heap_setCell _ _ _ _ (by simp; omega)).trans h.sb, (Below.heap_setCell _ _ _ _ (by simp; omega)).trans h.vb, h1, h2, h3, h.sv, h.sn, h.vn⟩
def nil4 : List Value := [.slice none 0 0, .slice none 0 0, .slice none 0 0, .slice none 0 0]
theorem mkStreams (w : World) : (Instr.makeSlice 27 (.int .i64 4) (.int .i64 4)).run Tryz.prog w = .ok (.slice (some ⟨w.heap.size, 0, none⟩) 4 4) (w.alloc (.cells #[.slice none 0 0, .slice none 0 0, .slice none 0 0, .slice none 0 0] 51 (0, 0))) := by kernel_rfl
theorem mkArrivals (w : World) : (Instr.makeSlice 28 (.int .i64 4) (.int .i64 4)).run Tryz.prog w = .ok (.slice (some ⟨w.heap.size, 0, none⟩) 4 4) (w.alloc (.cells #[.slice none 0 0, .slice none 0 0, .slice none 0 0, .slice none 0 0] 54 (0, 0))) := by kernel_rfl
def MeetQ (M : Act → World → Prop) : Exit → Act → World → Prop
  | .normal, a, w => M a w
  | _, _, _ => False
theorem wp_meetq {P : Program} {c : Code} {a : Act} {w : World} {Q : Exit → Act → World → Prop} (M : Act → World → Prop) (first : c.wp P (MeetQ M) a w) (rest : ∀ a w, M a w → Q .normal a w) : c.wp P Q a w :=
  Code.wp_mono (fun e a w h => by cases e <;> first | exact rest a w h | exact h.elim) first
section
variable {P : Program} {ops : Array Oper} {Q : Exit → Act → World → Prop} {md : Region.Mode} {S : World → Prop}
/-- One of the three that may come up. -/
theorem wpT_three (i j l : Nat) {n k : Nat} {oi oj ol : Oper} {fuel : Nat} {listed : Array Bool} {a : Act} {w : World} (hoi : ops[i]? = some oi) (hoj : ops[j]? = some oj) (hol : ops[l]? = some ol) (hr : Region.ready md ops listed = [i, j, l])
    (hwi : Region.wanted oi (yielded ops a.tmps) = true) (hwj : Region.wanted oj (yielded ops a.tmps) = true) (hwl : Region.wanted ol (yielded ops a.tmps) = true)
    (hi : ∀ K' : Act → World → Prop, Shut (∀ a w, S w → wpT P md ops Q S n k fuel (listed.setIfInBounds i true) a w → K' a w) → Oper.wp P oi a w K' Q)
    (hj : ∀ K' : Act → World → Prop, Shut (∀ a w, S w → wpT P md ops Q S n k fuel (listed.setIfInBounds j true) a w → K' a w) → Oper.wp P oj a w K' Q)
    (hl : ∀ K' : Act → World → Prop, Shut (∀ a w, S w → wpT P md ops Q S n k fuel (listed.setIfInBounds l true) a w → K' a w) → Oper.wp P ol a w K' Q) : wpT P md ops Q S n k (fuel + 1) listed a w := fun hc => by
  refine ⟨by rw [hr]; simp, fun x hx => ?_⟩
  have hx' := hx
  rw [hr] at hx
  rcases List.mem_cons.1 hx with rfl | hx
  · refine wpOp_step hoi (fun K' hK => ?_)
    rw [if_pos hwi]
    exact hi K' (fun a' w' h1 h2 => hK _ _ ⟨h1, h2 (hc.add hx')⟩)
  · rcases List.mem_cons.1 hx with rfl | hx
    · refine wpOp_step hoj (fun K' hK => ?_)
      rw [if_pos hwj]
      exact hj K' (fun a' w' h1 h2 => hK _ _ ⟨h1, h2 (hc.add hx')⟩)
    · obtain rfl := List.mem_singleton.1 hx
      refine wpOp_step hol (fun K' hK => ?_)
      rw [if_pos hwl]
      exact hl K' (fun a' w' h1 h2 => hK _ _ ⟨h1, h2 (hc.add hx')⟩)
end
/-- Behind the region. -/
def HelpM (R : Nat) (h : Int) (w : World) (a' : Act) (y : World) : Prop :=
  ∃ (N S V : Nat) (u0 u1 u3 u4 u5 u6 u7 : Value), a' = { tmps := #[u0, u1, .pointer (some ⟨R, 0, none⟩), u3, u4, u5, u6, u7], defers := [] } ∧ y.heap[R]? = some (.cells #[.int .i64 8, .int .i64 2, .slice (some ⟨N + 3, 0, none⟩) 2 2, .slice (some ⟨N + 13, 0, none⟩) 4 4, .int .i64 h, .slice (some ⟨S, 0, none⟩) 4 4, .slice (some ⟨V, 0, none⟩) 4 4] 30 (0, 0)) ∧
    HelpS w.heap.size N S V baseRO nil4 nil4 y ∧ Ext w y

theorem lies_only {N n : Nat} {os : List RO} {w w' : World} (l : Lies N os w) (h : Only n w w') (hn : n < N ∨ N + os.length ≤ n) : Lies N os w' := by
  refine ⟨fun i x hx => ?_, l.2⟩
  have hi : i < os.length := by
    apply Decidable.byContradiction
    intro hc
    rw [List.getElem?_eq_none (by simp; omega)] at hx; cases hx
  exact h.blk (l.1 i x hx) (by omega)
set_option maxRecDepth 100000 in
set_option maxHeartbeats 8000000 in
theorem help_any (w : World) (h : Int) : Calls Tryz.prog 15 #[.int .i64 h] w fun e w' => ∃ N S V, e = .returned (helpV N S V h) ∧ HelpS w.heap.size N S V baseRO nil4 nil4 w' ∧ Ext w w' := by
  go_enter Tryz.func15, Tryz.ntmps15
  go_upto_region 1 with (fail)
  refine wp_meetq (HelpM w.heap.size h w) ?_ ?_
  · refine wp_forget (fun v => Ext w v ∧ v.heap[w.heap.size]? = some zero7) ⟨(by repeat (first | exact Ext.refl _ | assumption | refine Ext.more ?_ _ | refine Ext.drew ?_ | refine Ext.drewN ?_ _ | refine Ext.alloc ?_ _ | refine Ext.setCell ?_ (by simp; try omega) _ | refine Ext.trans ?_ (by assumption))), heap_alloc_new w _⟩ ?_
    rintro v ⟨hx, hR⟩
    have HRL := hid (lt_of_block hR)
    have HX := hid (hx.drew)
    have HRV := hid (fun u (hu : Ext v.drew u) => block_ext hu (show v.drew.heap[w.heap.size]? = some zero7 from hR))
    clear hR hx
    have e1 := mkStreams
    have e2 := mkArrivals
    refine wp_region_T 5 1 (fun _ => True) (by kernel_rfl) (by kernel_rfl) ?_
    have HRL' : Hid (w.heap.size < v.drew.heap.size) := HRL.out
    clear HRL
    have HRL := HRL'
    clear HRL'
    generalize v.drew = v0 at *
    have HX0 := hid (Ext.refl v0)
    have HR0 := hid (HRV.out v0 HX0.out)
    have HSS : True := trivial
    refine wpT_take 1 (v := ?v54) rfl (by kernel_rfl) (by kernel_rfl) (by kernel_rfl) (by kernel_rfl) (by intro _ _ _ h; first | exact h | (obtain ⟨h, _⟩ := h; cases h)) (by rfl) HSS ?hy54 ?_
    case hy54 => (intro u hu; go_simp; first | done | (with_reducible rfl))
    (try simp only [Act.put, List.setIfInBounds_toArray, List.set_cons_zero, List.set_cons_succ])
    clear HSS
    refine wpT_three 0 2 3 rfl rfl rfl (by kernel_rfl) (by rfl) (by rfl) (by rfl) (fun K' hK => ?_) (fun K' hK => ?_) (fun K' hK => ?_)
    · go_simp
      refine (base_to _).mono ?_
      rintro e v1 ⟨N, rfl, hN, hl, hx, hs⟩
      have HX1 := hid (HX0.out.trans hx)
      have HLN := hid hl
      have HN := hid (And.intro hN.out hs)
      clear hN hl hx hs
      have HR1 := hid (HRV.out v1 HX1.out)
      refine hK.out _ _ trivial ?_
      clear hK K' HR0
      (try simp only [Act.put, List.setIfInBounds_toArray, List.set_cons_zero, List.set_cons_succ])
      refine wpT_two 2 3 rfl rfl (by kernel_rfl) (by rfl) (by rfl) (fun K' hK => ?_) (fun K' hK => ?_)
      · go_simp
        have hx := Ext.alloc (Ext.refl v1) (.cells #[.slice none 0 0, .slice none 0 0, .slice none 0 0, .slice none 0 0] 51 (0, 0))
        have HX2 := hid (HX1.out.trans hx)
        have HS2 := hid (heap_alloc_new v1 (.cells #[.slice none 0 0, .slice none 0 0, .slice none 0 0, .slice none 0 0] 51 (0, 0)))
        obtain ⟨S, hSe⟩ : ∃ z, z = v1.heap.size := ⟨_, rfl⟩
        have HSN : Hid (S = v1.heap.size ∧ (v1.alloc (.cells #[.slice none 0 0, .slice none 0 0, .slice none 0 0, .slice none 0 0] 51 (0, 0))).heap.size = S + 1) := ⟨hSe, by rw [World.size_alloc, hSe]⟩
        rw [← hSe] at HS2
        have HLN' := hid (HLN.out.ext hx)
        clear HLN
        have HLN := HLN'
        clear HLN'
        rw [← hSe]
        generalize v1.alloc (.cells #[.slice none 0 0, .slice none 0 0, .slice none 0 0, .slice none 0 0] 51 (0, 0)) = v2 at *
        clear hx hSe
        have HR2 := hid (HRV.out v2 HX2.out)
        refine hK.out _ _ trivial ?_
        clear hK K' HR1
        (try simp only [Act.put, List.setIfInBounds_toArray, List.set_cons_zero, List.set_cons_succ])
        refine wpT_one 3 rfl (by kernel_rfl) (by rfl) (fun K' hK => ?_)
        go_simp
        have hx := Ext.alloc (Ext.refl v2) (.cells #[.slice none 0 0, .slice none 0 0, .slice none 0 0, .slice none 0 0] 54 (0, 0))
        have HX3 := hid (HX2.out.trans hx)
        have HV3 := hid (heap_alloc_new v2 (.cells #[.slice none 0 0, .slice none 0 0, .slice none 0 0, .slice none 0 0] 54 (0, 0)))
        obtain ⟨V, hVe⟩ : ∃ z, z = v2.heap.size := ⟨_, rfl⟩
        have HVN : Hid (V = v2.heap.size ∧ (v2.alloc (.cells #[.slice none 0 0, .slice none 0 0, .slice none 0 0, .slice none 0 0] 54 (0, 0))).heap.size = V + 1) := ⟨hVe, by rw [World.size_alloc, hVe]⟩
        rw [← hVe] at HV3
        have HLN' := hid (HLN.out.ext hx)
        clear HLN
        have HLN := HLN'
        clear HLN'
        have HS3 := hid (block_ext hx HS2.out)
        clear HS2
        rw [← hVe]
        generalize v2.alloc (.cells #[.slice none 0 0, .slice none 0 0, .slice none 0 0, .slice none 0 0] 54 (0, 0)) = v3 at *
        clear hx hVe
        have HR3 := hid (HRV.out v3 HX3.out)
        refine hK.out _ _ trivial ?_
        clear hK K' HR2
        (try simp only [Act.put, List.setIfInBounds_toArray, List.set_cons_zero, List.set_cons_succ])
        have HSS : True := trivial
        refine wpT_take 4 (v := ?v55) rfl (by kernel_rfl) (by kernel_rfl) (by kernel_rfl) (by kernel_rfl) (by intro _ _ _ h; first | exact h | (obtain ⟨h, _⟩ := h; cases h)) (by rfl) HSS ?hy55 ?_
        case hy55 => (intro u hu; go_simp; first | done | (with_reducible rfl))
        (try simp only [Act.put, List.setIfInBounds_toArray, List.set_cons_zero, List.set_cons_succ])
        clear HSS
        refine wpT_done (by kernel_rfl) ?_
        refine wpAny_one 5 rfl (by kernel_rfl) (by rfl) (fun K' hK => ?_)
        have m0 := blk_cell HR3.out 0
        have f0 := blk_free HR3.out 0
        have m1 := blk_cell HR3.out 1
        have f1 := blk_free HR3.out 1
        have m2 := blk_cell HR3.out 2
        have f2 := blk_free HR3.out 2
        have m3 := blk_cell HR3.out 3
        have f3 := blk_free HR3.out 3
        have m4 := blk_cell HR3.out 4
        have f4 := blk_free HR3.out 4
        have m5 := blk_cell HR3.out 5
        have f5 := blk_free HR3.out 5
        have m6 := blk_cell HR3.out 6
        have f6 := blk_free HR3.out 6
        go_simp
        refine hK.out _ _ ?_
        (try simp only [Act.put, List.setIfInBounds_toArray, List.set_cons_zero, List.set_cons_succ])
        refine wpAny_done (by kernel_rfl) ?_ _
        have hz := HX1.out.size
        have hz2 := HX2.out.size
        have hz3 := HX3.out.size
        have hn := HN.out
        have hsn := HSN.out
        have hvn := HVN.out
        have hrl := HRL.out
        have hO : ∀ a0 a1 a2 a3 a4 a5 a6, Only w.heap.size v3 (((((((v3.setCell ⟨w.heap.size, 0, none⟩ a0).setCell ⟨w.heap.size, 1, none⟩ a1).setCell ⟨w.heap.size, 2, none⟩ a2).setCell ⟨w.heap.size, 3, none⟩ a3).setCell ⟨w.heap.size, 4, none⟩ a4).setCell ⟨w.heap.size, 5, none⟩ a5).setCell ⟨w.heap.size, 6, none⟩ a6) := fun _ _ _ _ _ _ _ => (((((((Only.refl _ _).setCell _).setCell _).setCell _).setCell _).setCell _).setCell _).setCell _
        exact ⟨N, S, V, _, _, _, _, _, _, _, rfl, sets7 HR3.out _ _ _ _ _ _ _, ⟨lies_only HLN.out (hO _ _ _ _ _ _ _) (by omega), (hO _ _ _ _ _ _ _).blk HS3.out (by omega), (hO _ _ _ _ _ _ _).blk HV3.out (by omega), by omega, by omega, by omega, by omega, by simp only [baseRO, List.length_cons, List.length_nil]; omega, by simp only [baseRO, List.length_cons, List.length_nil]; omega⟩, ⟨HX.out.below.trans (HX3.out.below.mono HX.out.size) |>.trans ((hO _ _ _ _ _ _ _).below (Nat.le_refl _) (by omega))⟩⟩
      · go_simp
        have hx := Ext.alloc (Ext.refl v1) (.cells #[.slice none 0 0, .slice none 0 0, .slice none 0 0, .slice none 0 0] 54 (0, 0))
        have HX2 := hid (HX1.out.trans hx)
        have HV2 := hid (heap_alloc_new v1 (.cells #[.slice none 0 0, .slice none 0 0, .slice none 0 0, .slice none 0 0] 54 (0, 0)))
        obtain ⟨V, hVe⟩ : ∃ z, z = v1.heap.size := ⟨_, rfl⟩
        have HVN : Hid (V = v1.heap.size ∧ (v1.alloc (.cells #[.slice none 0 0, .slice none 0 0, .slice none 0 0, .slice none 0 0] 54 (0, 0))).heap.size = V + 1) := ⟨hVe, by rw [World.size_alloc, hVe]⟩
        rw [← hVe] at HV2
        have HLN' := hid (HLN.out.ext hx)
        clear HLN
        have HLN := HLN'
        clear HLN'
        rw [← hVe]
        generalize v1.alloc (.cells #[.slice none 0 0, .slice none 0 0, .slice none 0 0, .slice none 0 0] 54 (0, 0)) = v2 at *
        clear hx hVe
        have HR2 := hid (HRV.out v2 HX2.out)
        refine hK.out _ _ trivial ?_
        clear hK K' HR1
        (try simp only [Act.put, List.setIfInBounds_toArray, List.set_cons_zero, List.set_cons_succ])
        refine wpT_one 2 rfl (by kernel_rfl) (by rfl) (fun K' hK => ?_)
        go_simp
        have hx := Ext.alloc (Ext.refl v2) (.cells #[.slice none 0 0, .slice none 0 0, .slice none 0 0, .slice none 0 0] 51 (0, 0))
        have HX3 := hid (HX2.out.trans hx)
        have HS3 := hid (heap_alloc_new v2 (.cells #[.slice none 0 0, .slice none 0 0, .slice none 0 0, .slice none 0 0] 51 (0, 0)))
        obtain ⟨S, hSe⟩ : ∃ z, z = v2.heap.size := ⟨_, rfl⟩
        have HSN : Hid (S = v2.heap.size ∧ (v2.alloc (.cells #[.slice none 0 0, .slice none 0 0, .slice none 0 0, .slice none 0 0] 51 (0, 0))).heap.size = S + 1) := ⟨hSe, by rw [World.size_alloc, hSe]⟩
        rw [← hSe] at HS3
        have HLN' := hid (HLN.out.ext hx)
        clear HLN
        have HLN := HLN'
        clear HLN'
        have HV3 := hid (block_ext hx HV2.out)
        clear HV2
        rw [← hSe]
        generalize v2.alloc (.cells #[.slice none 0 0, .slice none 0 0, .slice none 0 0, .slice none 0 0] 51 (0, 0)) = v3 at *
        clear hx hSe
        have HR3 := hid (HRV.out v3 HX3.out)
        refine hK.out _ _ trivial ?_
        clear hK K' HR2
        (try simp only [Act.put, List.setIfInBounds_toArray, List.set_cons_zero, List.set_cons_succ])
        have HSS : True := trivial
        refine wpT_take 4 (v := ?v56) rfl (by kernel_rfl) (by kernel_rfl) (by kernel_rfl) (by kernel_rfl) (by intro _ _ _ h; first | exact h | (obtain ⟨h, _⟩ := h; cases h)) (by rfl) HSS ?hy56 ?_
        case hy56 => (intro u hu; go_simp; first | done | (with_reducible rfl))
        (try simp only [Act.put, List.setIfInBounds_toArray, List.set_cons_zero, List.set_cons_succ])
        clear HSS
        refine wpT_done (by kernel_rfl) ?_
        refine wpAny_one 5 rfl (by kernel_rfl) (by rfl) (fun K' hK => ?_)
        have m0 := blk_cell HR3.out 0
        have f0 := blk_free HR3.out 0
        have m1 := blk_cell HR3.out 1
        have f1 := blk_free HR3.out 1
        have m2 := blk_cell HR3.out 2
        have f2 := blk_free HR3.out 2
        have m3 := blk_cell HR3.out 3
        have f3 := blk_free HR3.out 3
        have m4 := blk_cell HR3.out 4
        have f4 := blk_free HR3.out 4
        have m5 := blk_cell HR3.out 5
        have f5 := blk_free HR3.out 5
        have m6 := blk_cell HR3.out 6
        have f6 := blk_free HR3.out 6
        go_simp
        refine hK.out _ _ ?_
        (try simp only [Act.put, List.setIfInBounds_toArray, List.set_cons_zero, List.set_cons_succ])
        refine wpAny_done (by kernel_rfl) ?_ _
        have hz := HX1.out.size
        have hz2 := HX2.out.size
        have hz3 := HX3.out.size
        have hn := HN.out
        have hsn := HSN.out
        have hvn := HVN.out
        have hrl := HRL.out
        have hO : ∀ a0 a1 a2 a3 a4 a5 a6, Only w.heap.size v3 (((((((v3.setCell ⟨w.heap.size, 0, none⟩ a0).setCell ⟨w.heap.size, 1, none⟩ a1).setCell ⟨w.heap.size, 2, none⟩ a2).setCell ⟨w.heap.size, 3, none⟩ a3).setCell ⟨w.heap.size, 4, none⟩ a4).setCell ⟨w.heap.size, 5, none⟩ a5).setCell ⟨w.heap.size, 6, none⟩ a6) := fun _ _ _ _ _ _ _ => (((((((Only.refl _ _).setCell _).setCell _).setCell _).setCell _).setCell _).setCell _).setCell _
        exact ⟨N, S, V, _, _, _, _, _, _, _, rfl, sets7 HR3.out _ _ _ _ _ _ _, ⟨lies_only HLN.out (hO _ _ _ _ _ _ _) (by omega), (hO _ _ _ _ _ _ _).blk HS3.out (by omega), (hO _ _ _ _ _ _ _).blk HV3.out (by omega), by omega, by omega, by omega, by omega, by simp only [baseRO, List.length_cons, List.length_nil]; omega, by simp only [baseRO, List.length_cons, List.length_nil]; omega⟩, ⟨HX.out.below.trans (HX3.out.below.mono HX.out.size) |>.trans ((hO _ _ _ _ _ _ _).below (Nat.le_refl _) (by omega))⟩⟩
    · go_simp
      have hx := Ext.alloc (Ext.refl v0) (.cells #[.slice none 0 0, .slice none 0 0, .slice none 0 0, .slice none 0 0] 51 (0, 0))
      have HX1 := hid (HX0.out.trans hx)
      have HS1 := hid (heap_alloc_new v0 (.cells #[.slice none 0 0, .slice none 0 0, .slice none 0 0, .slice none 0 0] 51 (0, 0)))
      obtain ⟨S, hSe⟩ : ∃ z, z = v0.heap.size := ⟨_, rfl⟩
      have HSN : Hid (S = v0.heap.size ∧ (v0.alloc (.cells #[.slice none 0 0, .slice none 0 0, .slice none 0 0, .slice none 0 0] 51 (0, 0))).heap.size = S + 1) := ⟨hSe, by rw [World.size_alloc, hSe]⟩
      rw [← hSe] at HS1
      rw [← hSe]
      generalize v0.alloc (.cells #[.slice none 0 0, .slice none 0 0, .slice none 0 0, .slice none 0 0] 51 (0, 0)) = v1 at *
      clear hx hSe
      have HR1 := hid (HRV.out v1 HX1.out)
      refine hK.out _ _ trivial ?_
      clear hK K' HR0
      (try simp only [Act.put, List.setIfInBounds_toArray, List.set_cons_zero, List.set_cons_succ])
      refine wpT_two 0 3 rfl rfl (by kernel_rfl) (by rfl) (by rfl) (fun K' hK => ?_) (fun K' hK => ?_)
      · go_simp
        refine (base_to _).mono ?_
        rintro e v2 ⟨N, rfl, hN, hl, hx, hs⟩
        have HX2 := hid (HX1.out.trans hx)
        have HLN := hid hl
        have HN := hid (And.intro hN.out hs)
        have HS2 := hid (block_ext hx HS1.out)
        clear HS1
        clear hN hl hx hs
        have HR2 := hid (HRV.out v2 HX2.out)
        refine hK.out _ _ trivial ?_
        clear hK K' HR1
        (try simp only [Act.put, List.setIfInBounds_toArray, List.set_cons_zero, List.set_cons_succ])
        refine wpT_one 3 rfl (by kernel_rfl) (by rfl) (fun K' hK => ?_)
        go_simp
        have hx := Ext.alloc (Ext.refl v2) (.cells #[.slice none 0 0, .slice none 0 0, .slice none 0 0, .slice none 0 0] 54 (0, 0))
        have HX3 := hid (HX2.out.trans hx)
        have HV3 := hid (heap_alloc_new v2 (.cells #[.slice none 0 0, .slice none 0 0, .slice none 0 0, .slice none 0 0] 54 (0, 0)))
        obtain ⟨V, hVe⟩ : ∃ z, z = v2.heap.size := ⟨_, rfl⟩
        have HVN : Hid (V = v2.heap.size ∧ (v2.alloc (.cells #[.slice none 0 0, .slice none 0 0, .slice none 0 0, .slice none 0 0] 54 (0, 0))).heap.size = V + 1) := ⟨hVe, by rw [World.size_alloc, hVe]⟩
        rw [← hVe] at HV3
        have HS3 := hid (block_ext hx HS2.out)
        clear HS2
        have HLN' := hid (HLN.out.ext hx)
        clear HLN
        have HLN := HLN'
        clear HLN'
        rw [← hVe]
        generalize v2.alloc (.cells #[.slice none 0 0, .slice none 0 0, .slice none 0 0, .slice none 0 0] 54 (0, 0)) = v3 at *
        clear hx hVe
        have HR3 := hid (HRV.out v3 HX3.out)
        refine hK.out _ _ trivial ?_
        clear hK K' HR2
        (try simp only [Act.put, List.setIfInBounds_toArray, List.set_cons_zero, List.set_cons_succ])
        have HSS : True := trivial
        refine wpT_take 4 (v := ?v57) rfl (by kernel_rfl) (by kernel_rfl) (by kernel_rfl) (by kernel_rfl) (by intro _ _ _ h; first | exact h | (obtain ⟨h, _⟩ := h; cases h)) (by rfl) HSS ?hy57 ?_
        case hy57 => (intro u hu; go_simp; first | done | (with_reducible rfl))
        (try simp only [Act.put, List.setIfInBounds_toArray, List.set_cons_zero, List.set_cons_succ])
        clear HSS
        refine wpT_done (by kernel_rfl) ?_
        refine wpAny_one 5 rfl (by kernel_rfl) (by rfl) (fun K' hK => ?_)
        have m0 := blk_cell HR3.out 0
        have f0 := blk_free HR3.out 0
        have m1 := blk_cell HR3.out 1
        have f1 := blk_free HR3.out 1
        have m2 := blk_cell HR3.out 2
        have f2 := blk_free HR3.out 2
        have m3 := blk_cell HR3.out 3
        have f3 := blk_free HR3.out 3
        have m4 := blk_cell HR3.out 4
        have f4 := blk_free HR3.out 4
        have m5 := blk_cell HR3.out 5
        have f5 := blk_free HR3.out 5
        have m6 := blk_cell HR3.out 6
        have f6 := blk_free HR3.out 6
        go_simp
        refine hK.out _ _ ?_
        (try simp only [Act.put, List.setIfInBounds_toArray, List.set_cons_zero, List.set_cons_succ])
        refine wpAny_done (by kernel_rfl) ?_ _
        have hz := HX1.out.size
        have hz2 := HX2.out.size
        have hz3 := HX3.out.size
        have hn := HN.out
        have hsn := HSN.out
        have hvn := HVN.out
        have hrl := HRL.out
        have hO : ∀ a0 a1 a2 a3 a4 a5 a6, Only w.heap.size v3 (((((((v3.setCell ⟨w.heap.size, 0, none⟩ a0).setCell ⟨w.heap.size, 1, none⟩ a1).setCell ⟨w.heap.size, 2, none⟩ a2).setCell ⟨w.heap.size, 3, none⟩ a3).setCell ⟨w.heap.size, 4, none⟩ a4).setCell ⟨w.heap.size, 5, none⟩ a5).setCell ⟨w.heap.size, 6, none⟩ a6) := fun _ _ _ _ _ _ _ => (((((((Only.refl _ _).setCell _).setCell _).setCell _).setCell _).setCell _).setCell _).setCell _
        exact ⟨N, S, V, _, _, _, _, _, _, _, rfl, sets7 HR3.out _ _ _ _ _ _ _, ⟨lies_only HLN.out (hO _ _ _ _ _ _ _) (by omega), (hO _ _ _ _ _ _ _).blk HS3.out (by omega), (hO _ _ _ _ _ _ _).blk HV3.out (by omega), by omega, by omega, by omega, by omega, by simp only [baseRO, List.length_cons, List.length_nil]; omega, by simp only [baseRO, List.length_cons, List.length_nil]; omega⟩, ⟨HX.out.below.trans (HX3.out.below.mono HX.out.size) |>.trans ((hO _ _ _ _ _ _ _).below (Nat.le_refl _) (by omega))⟩⟩
      · go_simp
        have hx := Ext.alloc (Ext.refl v1) (.cells #[.slice none 0 0, .slice none 0 0, .slice none 0 0, .slice none 0 0] 54 (0, 0))
        have HX2 := hid (HX1.out.trans hx)
        have HV2 := hid (heap_alloc_new v1 (.cells #[.slice none 0 0, .slice none 0 0, .slice none 0 0, .slice none 0 0] 54 (0, 0)))
        obtain ⟨V, hVe⟩ : ∃ z, z = v1.heap.size := ⟨_, rfl⟩
        have HVN : Hid (V = v1.heap.size ∧ (v1.alloc (.cells #[.slice none 0 0, .slice none 0 0, .slice none 0 0, .slice none 0 0] 54 (0, 0))).heap.size = V + 1) := ⟨hVe, by rw [World.size_alloc, hVe]⟩
        rw [← hVe] at HV2
        have HS2 := hid (block_ext hx HS1.out)
        clear HS1
        rw [← hVe]
        generalize v1.alloc (.cells #[.slice none 0 0, .slice none 0 0, .slice none 0 0, .slice none 0 0] 54 (0, 0)) = v2 at *
        clear hx hVe
        have HR2 := hid (HRV.out v2 HX2.out)
        refine hK.out _ _ trivial ?_
        clear hK K' HR1
        (try simp only [Act.put, List.setIfInBounds_toArray, List.set_cons_zero, List.set_cons_succ])
        refine wpT_one 0 rfl (by kernel_rfl) (by rfl) (fun K' hK => ?_)
        go_simp
        refine (base_to _).mono ?_
        rintro e v3 ⟨N, rfl, hN, hl, hx, hs⟩
        have HX3 := hid (HX2.out.trans hx)
        have HLN := hid hl
        have HN := hid (And.intro hN.out hs)
        have HS3 := hid (block_ext hx HS2.out)
        clear HS2
        have HV3 := hid (block_ext hx HV2.out)
        clear HV2
        clear hN hl hx hs
        have HR3 := hid (HRV.out v3 HX3.out)
        refine hK.out _ _ trivial ?_
        clear hK K' HR2
        (try simp only [Act.put, List.setIfInBounds_toArray, List.set_cons_zero, List.set_cons_succ])
        have HSS : True := trivial
        refine wpT_take 4 (v := ?v58) rfl (by kernel_rfl) (by kernel_rfl) (by kernel_rfl) (by kernel_rfl) (by intro _ _ _ h; first | exact h | (obtain ⟨h, _⟩ := h; cases h)) (by rfl) HSS ?hy58 ?_
        case hy58 => (intro u hu; go_simp; first | done | (with_reducible rfl))
        (try simp only [Act.put, List.setIfInBounds_toArray, List.set_cons_zero, List.set_cons_succ])
        clear HSS
        refine wpT_done (by kernel_rfl) ?_
        refine wpAny_one 5 rfl (by kernel_rfl) (by rfl) (fun K' hK => ?_)
        have m0 := blk_cell HR3.out 0
        have f0 := blk_free HR3.out 0
        have m1 := blk_cell HR3.out 1
        have f1 := blk_free HR3.out 1
        have m2 := blk_cell HR3.out 2
        have f2 := blk_free HR3.out 2
        have m3 := blk_cell HR3.out 3
        have f3 := blk_free HR3.out 3
        have m4 := blk_cell HR3.out 4
        have f4 := blk_free HR3.out 4
        have m5 := blk_cell HR3.out 5
        have f5 := blk_free HR3.out 5
        have m6 := blk_cell HR3.out 6
        have f6 := blk_free HR3.out 6
        go_simp
        refine hK.out _ _ ?_
        (try simp only [Act.put, List.setIfInBounds_toArray, List.set_cons_zero, List.set_cons_succ])
        refine wpAny_done (by kernel_rfl) ?_ _
        have hz := HX1.out.size
        have hz2 := HX2.out.size
        have hz3 := HX3.out.size
        have hn := HN.out
        have hsn := HSN.out
        have hvn := HVN.out
        have hrl := HRL.out
        have hO : ∀ a0 a1 a2 a3 a4 a5 a6, Only w.heap.size v3 (((((((v3.setCell ⟨w.heap.size, 0, none⟩ a0).setCell ⟨w.heap.size, 1, none⟩ a1).setCell ⟨w.heap.size, 2, none⟩ a2).setCell ⟨w.heap.size, 3, none⟩ a3).setCell ⟨w.heap.size, 4, none⟩ a4).setCell ⟨w.heap.size, 5, none⟩ a5).setCell ⟨w.heap.size, 6, none⟩ a6) := fun _ _ _ _ _ _ _ => (((((((Only.refl _ _).setCell _).setCell _).setCell _).setCell _).setCell _).setCell _).setCell _
        exact ⟨N, S, V, _, _, _, _, _, _, _, rfl, sets7 HR3.out _ _ _ _ _ _ _, ⟨lies_only HLN.out (hO _ _ _ _ _ _ _) (by omega), (hO _ _ _ _ _ _ _).blk HS3.out (by omega), (hO _ _ _ _ _ _ _).blk HV3.out (by omega), by omega, by omega, by omega, by omega, by simp only [baseRO, List.length_cons, List.length_nil]; omega, by simp only [baseRO, List.length_cons, List.length_nil]; omega⟩, ⟨HX.out.below.trans (HX3.out.below.mono HX.out.size) |>.trans ((hO _ _ _ _ _ _ _).below (Nat.le_refl _) (by omega))⟩⟩
    · go_simp
      have hx := Ext.alloc (Ext.refl v0) (.cells #[.slice none 0 0, .slice none 0 0, .slice none 0 0, .slice none 0 0] 54 (0, 0))
      have HX1 := hid (HX0.out.trans hx)
      have HV1 := hid (heap_alloc_new v0 (.cells #[.slice none 0 0, .slice none 0 0, .slice none 0 0, .slice none 0 0] 54 (0, 0)))
      obtain ⟨V, hVe⟩ : ∃ z, z = v0.heap.size := ⟨_, rfl⟩
      have HVN : Hid (V = v0.heap.size ∧ (v0.alloc (.cells #[.slice none 0 0, .slice none 0 0, .slice none 0 0, .slice none 0 0] 54 (0, 0))).heap.size = V + 1) := ⟨hVe, by rw [World.size_alloc, hVe]⟩
      rw [← hVe] at HV1
      rw [← hVe]
      generalize v0.alloc (.cells #[.slice none 0 0, .slice none 0 0, .slice none 0 0, .slice none 0 0] 54 (0, 0)) = v1 at *
      clear hx hVe
      have HR1 := hid (HRV.out v1 HX1.out)
      refine hK.out _ _ trivial ?_
      clear hK K' HR0
      (try simp only [Act.put, List.setIfInBounds_toArray, List.set_cons_zero, List.set_cons_succ])
      refine wpT_two 0 2 rfl rfl (by kernel_rfl) (by rfl) (by rfl) (fun K' hK => ?_) (fun K' hK => ?_)
      · go_simp
        refine (base_to _).mono ?_
        rintro e v2 ⟨N, rfl, hN, hl, hx, hs⟩
        have HX2 := hid (HX1.out.trans hx)
        have HLN := hid hl
        have HN := hid (And.intro hN.out hs)
        have HV2 := hid (block_ext hx HV1.out)
        clear HV1
        clear hN hl hx hs
        have HR2 := hid (HRV.out v2 HX2.out)
        refine hK.out _ _ trivial ?_
        clear hK K' HR1
        (try simp only [Act.put, List.setIfInBounds_toArray, List.set_cons_zero, List.set_cons_succ])
        refine wpT_one 2 rfl (by kernel_rfl) (by rfl) (fun K' hK => ?_)
        go_simp
        have hx := Ext.alloc (Ext.refl v2) (.cells #[.slice none 0 0, .slice none 0 0, .slice none 0 0, .slice none 0 0] 51 (0, 0))
        have HX3 := hid (HX2.out.trans hx)
        have HS3 := hid (heap_alloc_new v2 (.cells #[.slice none 0 0, .slice none 0 0, .slice none 0 0, .slice none 0 0] 51 (0, 0)))
        obtain ⟨S, hSe⟩ : ∃ z, z = v2.heap.size := ⟨_, rfl⟩
        have HSN : Hid (S = v2.heap.size ∧ (v2.alloc (.cells #[.slice none 0 0, .slice none 0 0, .slice none 0 0, .slice none 0 0] 51 (0, 0))).heap.size = S + 1) := ⟨hSe, by rw [World.size_alloc, hSe]⟩
        rw [← hSe] at HS3
        have HV3 := hid (block_ext hx HV2.out)
        clear HV2
        have HLN' := hid (HLN.out.ext hx)
        clear HLN
        have HLN := HLN'
        clear HLN'
        rw [← hSe]
        generalize v2.alloc (.cells #[.slice none 0 0, .slice none 0 0, .slice none 0 0, .slice none 0 0] 51 (0, 0)) = v3 at *
        clear hx hSe
        have HR3 := hid (HRV.out v3 HX3.out)
        refine hK.out _ _ trivial ?_
        clear hK K' HR2
        (try simp only [Act.put, List.setIfInBounds_toArray, List.set_cons_zero, List.set_cons_succ])
        have HSS : True := trivial
        refine wpT_take 4 (v := ?v59) rfl (by kernel_rfl) (by kernel_rfl) (by kernel_rfl) (by kernel_rfl) (by intro _ _ _ h; first | exact h | (obtain ⟨h, _⟩ := h; cases h)) (by rfl) HSS ?hy59 ?_
        case hy59 => (intro u hu; go_simp; first | done | (with_reducible rfl))
        (try simp only [Act.put, List.setIfInBounds_toArray, List.set_cons_zero, List.set_cons_succ])
        clear HSS
        refine wpT_done (by kernel_rfl) ?_
        refine wpAny_one 5 rfl (by kernel_rfl) (by rfl) (fun K' hK => ?_)
        have m0 := blk_cell HR3.out 0
        have f0 := blk_free HR3.out 0
        have m1 := blk_cell HR3.out 1
        have f1 := blk_free HR3.out 1
        have m2 := blk_cell HR3.out 2
        have f2 := blk_free HR3.out 2
        have m3 := blk_cell HR3.out 3
        have f3 := blk_free HR3.out 3
        have m4 := blk_cell HR3.out 4
        have f4 := blk_free HR3.out 4
        have m5 := blk_cell HR3.out 5
        have f5 := blk_free HR3.out 5
        have m6 := blk_cell HR3.out 6
        have f6 := blk_free HR3.out 6
        go_simp
        refine hK.out _ _ ?_
        (try simp only [Act.put, List.setIfInBounds_toArray, List.set_cons_zero, List.set_cons_succ])
        refine wpAny_done (by kernel_rfl) ?_ _
        have hz := HX1.out.size
        have hz2 := HX2.out.size
        have hz3 := HX3.out.size
        have hn := HN.out
        have hsn := HSN.out
        have hvn := HVN.out
        have hrl := HRL.out
        have hO : ∀ a0 a1 a2 a3 a4 a5 a6, Only w.heap.size v3 (((((((v3.setCell ⟨w.heap.size, 0, none⟩ a0).setCell ⟨w.heap.size, 1, none⟩ a1).setCell ⟨w.heap.size, 2, none⟩ a2).setCell ⟨w.heap.size, 3, none⟩ a3).setCell ⟨w.heap.size, 4, none⟩ a4).setCell ⟨w.heap.size, 5, none⟩ a5).setCell ⟨w.heap.size, 6, none⟩ a6) := fun _ _ _ _ _ _ _ => (((((((Only.refl _ _).setCell _).setCell _).setCell _).setCell _).setCell _).setCell _).setCell _
        exact ⟨N, S, V, _, _, _, _, _, _, _, rfl, sets7 HR3.out _ _ _ _ _ _ _, ⟨lies_only HLN.out (hO _ _ _ _ _ _ _) (by omega), (hO _ _ _ _ _ _ _).blk HS3.out (by omega), (hO _ _ _ _ _ _ _).blk HV3.out (by omega), by omega, by omega, by omega, by omega, by simp only [baseRO, List.length_cons, List.length_nil]; omega, by simp only [baseRO, List.length_cons, List.length_nil]; omega⟩, ⟨HX.out.below.trans (HX3.out.below.mono HX.out.size) |>.trans ((hO _ _ _ _ _ _ _).below (Nat.le_refl _) (by omega))⟩⟩
      · go_simp
        have hx := Ext.alloc (Ext.refl v1) (.cells #[.slice none 0 0, .slice none 0 0, .slice none 0 0, .slice none 0 0] 51 (0, 0))
        have HX2 := hid (HX1.out.trans hx)
        have HS2 := hid (heap_alloc_new v1 (.cells #[.slice none 0 0, .slice none 0 0, .slice none 0 0, .slice none 0 0] 51 (0, 0)))
        obtain ⟨S, hSe⟩ : ∃ z, z = v1.heap.size := ⟨_, rfl⟩
        have HSN : Hid (S = v1.heap.size ∧ (v1.alloc (.cells #[.slice none 0 0, .slice none 0 0, .slice none 0 0, .slice none 0 0] 51 (0, 0))).heap.size = S + 1) := ⟨hSe, by rw [World.size_alloc, hSe]⟩
        rw [← hSe] at HS2
        have HV2 := hid (block_ext hx HV1.out)
        clear HV1
        rw [← hSe]
        generalize v1.alloc (.cells #[.slice none 0 0, .slice none 0 0, .slice none 0 0, .slice none 0 0] 51 (0, 0)) = v2 at *
        clear hx hSe
        have HR2 := hid (HRV.out v2 HX2.out)
        refine hK.out _ _ trivial ?_
        clear hK K' HR1
        (try simp only [Act.put, List.setIfInBounds_toArray, List.set_cons_zero, List.set_cons_succ])
        refine wpT_one 0 rfl (by kernel_rfl) (by rfl) (fun K' hK => ?_)
        go_simp
        refine (base_to _).mono ?_
        rintro e v3 ⟨N, rfl, hN, hl, hx, hs⟩
        have HX3 := hid (HX2.out.trans hx)
        have HLN := hid hl
        have HN := hid (And.intro hN.out hs)
        have HV3 := hid (block_ext hx HV2.out)
        clear HV2
        have HS3 := hid (block_ext hx HS2.out)
        clear HS2
        clear hN hl hx hs
        have HR3 := hid (HRV.out v3 HX3.out)
        refine hK.out _ _ trivial ?_
        clear hK K' HR2
        (try simp only [Act.put, List.setIfInBounds_toArray, List.set_cons_zero, List.set_cons_succ])
        have HSS : True := trivial
        refine wpT_take 4 (v := ?v60) rfl (by kernel_rfl) (by kernel_rfl) (by kernel_rfl) (by kernel_rfl) (by intro _ _ _ h; first | exact h | (obtain ⟨h, _⟩ := h; cases h)) (by rfl) HSS ?hy60 ?_
        case hy60 => (intro u hu; go_simp; first | done | (with_reducible rfl))
        (try simp only [Act.put, List.setIfInBounds_toArray, List.set_cons_zero, List.set_cons_succ])
        clear HSS
        refine wpT_done (by kernel_rfl) ?_
        refine wpAny_one 5 rfl (by kernel_rfl) (by rfl) (fun K' hK => ?_)
        have m0 := blk_cell HR3.out 0
        have f0 := blk_free HR3.out 0
        have m1 := blk_cell HR3.out 1
        have f1 := blk_free HR3.out 1
        have m2 := blk_cell HR3.out 2
        have f2 := blk_free HR3.out 2
        have m3 := blk_cell HR3.out 3
        have f3 := blk_free HR3.out 3
        have m4 := blk_cell HR3.out 4
        have f4 := blk_free HR3.out 4
        have m5 := blk_cell HR3.out 5
        have f5 := blk_free HR3.out 5
        have m6 := blk_cell HR3.out 6
        have f6 := blk_free HR3.out 6
        go_simp
        refine hK.out _ _ ?_
        (try simp only [Act.put, List.setIfInBounds_toArray, List.set_cons_zero, List.set_cons_succ])
        refine wpAny_done (by kernel_rfl) ?_ _
        have hz := HX1.out.size
        have hz2 := HX2.out.size
        have hz3 := HX3.out.size
        have hn := HN.out
        have hsn := HSN.out
        have hvn := HVN.out
        have hrl := HRL.out
        have hO : ∀ a0 a1 a2 a3 a4 a5 a6, Only w.heap.size v3 (((((((v3.setCell ⟨w.heap.size, 0, none⟩ a0).setCell ⟨w.heap.size, 1, none⟩ a1).setCell ⟨w.heap.size, 2, none⟩ a2).setCell ⟨w.heap.size, 3, none⟩ a3).setCell ⟨w.heap.size, 4, none⟩ a4).setCell ⟨w.heap.size, 5, none⟩ a5).setCell ⟨w.heap.size, 6, none⟩ a6) := fun _ _ _ _ _ _ _ => (((((((Only.refl _ _).setCell _).setCell _).setCell _).setCell _).setCell _).setCell _).setCell _
        exact ⟨N, S, V, _, _, _, _, _, _, _, rfl, sets7 HR3.out _ _ _ _ _ _ _, ⟨lies_only HLN.out (hO _ _ _ _ _ _ _) (by omega), (hO _ _ _ _ _ _ _).blk HS3.out (by omega), (hO _ _ _ _ _ _ _).blk HV3.out (by omega), by omega, by omega, by omega, by omega, by simp only [baseRO, List.length_cons, List.length_nil]; omega, by simp only [baseRO, List.length_cons, List.length_nil]; omega⟩, ⟨HX.out.below.trans (HX3.out.below.mono HX.out.size) |>.trans ((hO _ _ _ _ _ _ _).below (Nat.le_refl _) (by omega))⟩⟩
  · refine fun a' y => ex_elim fun N => ex_elim fun S => ex_elim fun V => ex_elim fun u0 => ex_elim fun u1 => ex_elim fun u3 => ex_elim fun u4 => ex_elim fun u5 => ex_elim fun u6 => ex_elim fun u7 => ?_
    rintro ⟨rfl, hy, hH, hx⟩
    have m0 := blk_cell hy 0
    have m1 := blk_cell hy 1
    have m2 := blk_cell hy 2
    have m3 := blk_cell hy 3
    have m4 := blk_cell hy 4
    have m5 := blk_cell hy 5
    have m6 := blk_cell hy 6
    simp only [List.getElem?_toArray, List.getElem?_cons_zero, List.getElem?_cons_succ] at m0 m1 m2 m3 m4 m5 m6
    go_wp2
    exact bodyPost_ret (v := helpV N S V h) (by simp [results, Tryz.results15, go_sem, m0, m1, m2, m3, m4, m5, m6]) rfl ⟨N, S, V, rfl, hH, hx⟩
end Go.Proofs.YtbllibgddiiboaaGreat

namespace Go.Proofs.YtbllibgddiiboaaGreat
open Go.RowKit

theorem read_ok (w : World) {l : List UInt8} (h : scrOk l = true) : Calls Tryz.prog 7 #[.string (str l)] w (ReadGood (scrR ⟨l, 0⟩).1 w) := by
  obtain ⟨h1, h2, h3, h4⟩ := progOk_iff.2 h
  have hs := progOk_same h
  obtain ⟨q, s, hq⟩ : ∃ q s, scrP ⟨⟨l, 0⟩, false⟩ = (q, s) := ⟨_, _, rfl⟩
  rw [hq] at h2 h3 h4 hs
  have hs' : q = (scrR ⟨l, 0⟩).1 := hs
  have h3' : s.r.s = [] := h3
  subst hs'
  exact read_good w l h1 _ s hq h2 (by rw [h3']; rfl) h4
theorem read_no (w : World) {l : List UInt8} (h : scrOk l = false) : Calls Tryz.prog 7 #[.string (str l)] w (ReadBad w) := by
  by_cases hl : l.length ≤ 40000
  · obtain ⟨q, s, hq⟩ : ∃ q s, scrP ⟨⟨l, 0⟩, false⟩ = (q, s) := ⟨_, _, rfl⟩
    refine read_bad w l hl q s hq ?_
    cases hw : s.wrong
    · by_cases hz : s.r.s.length = 0
      · refine .inr (.inr ⟨rfl, hz, fun hi => ?_⟩)
        have hp : progOk l := by
          unfold progOk
          rw [hq]
          exact ⟨hl, hw, List.eq_nil_of_length_eq_zero hz, hi⟩
        rw [progOk_iff.1 hp] at h
        cases h
      · exact .inr (.inl ⟨rfl, by omega⟩)
    · exact .inl rfl
  · exact (read_large w l (by omega)).mono fun e w' ⟨he, hx⟩ => ⟨12, by decide, he, hx⟩
theorem scrBytes_of (w : World) (s : Scr) (pv dv sv av : Value) (hc : ScrV w s pv dv sv av) (hi : isScr s = 0 → CnfIn s.conf) (hb : isScr s = 0 → (allBytes s).length ≤ 80000) :
    Calls Tryz.prog 13 #[scrV s pv dv sv av] w (Yields w (.string (str (scrBytes s)))) := by
  by_cases h : isScr s = 0
  · rw [scrBytes_ok h]; exact scrBytes_yes w s pv dv sv av hc h (hi h) (hb h)
  · rw [scrBytes_bad h]; exact scrBytes_no w s pv dv sv av hc h

/-! ### A script that lies as the statements' own does -/
structure SV (N S V : Nat) (h : Int) (s : Scr) (w : World) : Prop where
  v : ScrV w s (.slice (some ⟨N + 3, 0, none⟩) 2 2) (.slice (some ⟨N + 13, 0, none⟩) 4 4) (.slice (some ⟨S, 0, none⟩) 4 4) (.slice (some ⟨V, 0, none⟩) 4 4)
  f : s.conf.frame = 8
  e : s.conf.epoch = 2
  h : s.horizon = h
theorem SV.ext {N S V : Nat} {h : Int} {s : Scr} {w w' : World} (x : Ext w w') (k : SV N S V h s w) : SV N S V h s w' := ⟨k.v.ext x, k.f, k.e, k.h⟩
theorem SV.val {N S V : Nat} {h : Int} {s : Scr} {w : World} (k : SV N S V h s w) : scrV s (.slice (some ⟨N + 3, 0, none⟩) 2 2) (.slice (some ⟨N + 13, 0, none⟩) 4 4) (.slice (some ⟨S, 0, none⟩) 4 4) (.slice (some ⟨V, 0, none⟩) 4 4) = helpV N S V h := by
  unfold scrV helpV
  rw [k.f, k.e, k.h]
/-- The elements of a row of rows, each in its cell. -/
theorem HelpS.script {base N S V : Nat} {os : List RO} {ss vs : List Value} {w : World} (h : HelpS base N S V os ss vs w) {hz : Int} {c : Cnf} {st : List (List Axn)} {ar : List (List Arv)} (hc : confOf os 8 2 (.s 3 2) (.s 13 4) = some c)
    (l1 : st.length = 4) (l2 : ar.length = 4) (hs : ∀ (i : Nat) l, st[i]? = some l → ∃ v, ss[i]? = some v ∧ AxnsV w v l) (hv : ∀ (i : Nat) l, ar[i]? = some l → ∃ v, vs[i]? = some v ∧ ArvsV w v l) : SV N S V hz ⟨c, hz, st, ar⟩ w := by
  obtain ⟨hf, he, hcv⟩ := conf_lies h.lies (pv := .s 3 2) (dv := .s 13 4) (RV.wf_of rfl) (RV.wf_of rfl) hc
  refine ⟨⟨hcv, ?_, ?_⟩, hf, he, rfl⟩
  · refine ⟨some ⟨S, 0, none⟩, 4, by rw [l1], by rw [l1]; omega, by unfold maxLen; omega, fun _ => ⟨S, 0, rfl, fun i x hi => ?_⟩⟩
    obtain ⟨v, h1, h2⟩ := hs i x hi
    refine ⟨v, ?_, h2⟩
    rw [blk_cell h.sb]
    simpa using h1
  · refine ⟨some ⟨V, 0, none⟩, 4, by rw [l2], by rw [l2]; omega, by unfold maxLen; omega, fun _ => ⟨V, 0, rfl, fun i x hi => ?_⟩⟩
    obtain ⟨v, h1, h2⟩ := hv i x hi
    refine ⟨v, ?_, h2⟩
    rw [blk_cell h.vb]
    simpa using h1
theorem axns_nil (w : World) : AxnsV w (.slice none 0 0) [] := ⟨none, 0, rfl, by simp, by unfold maxLen; omega, fun h => by simp at h⟩
theorem arvs_nil (w : World) : ArvsV w (.slice none 0 0) [] := ⟨none, 0, rfl, by simp, by unfold maxLen; omega, fun h => by simp at h⟩
theorem axns_one {w : World} {g : Nat} {x : Axn} (h : w.heap[g]? = some (.cells #[.int .i64 x.op, .int .i64 x.a, .int .i64 x.b] 50 (0, 0))) : AxnsV w (.slice (some ⟨g, 0, none⟩) 1 1) [x] :=
  ⟨_, _, rfl, by simp, by unfold maxLen; omega, fun _ => ⟨g, 0, rfl, fun i y hi => by
    match i, hi with
    | 0, hi =>
      simp at hi; subst hi
      exact ⟨blk_cell h 0, blk_cell h 1, blk_cell h 2⟩⟩⟩
theorem arvs_one {w : World} {g : Nat} {x : Arv} (h : w.heap[g]? = some (.cells #[.int .i64 x.tick, .int .i64 x.obj] 53 (0, 0))) : ArvsV w (.slice (some ⟨g, 0, none⟩) 1 1) [x] :=
  ⟨_, _, rfl, by simp, by unfold maxLen; omega, fun _ => ⟨g, 0, rfl, fun i y hi => by
    match i, hi with
    | 0, hi =>
      simp at hi; subst hi
      exact ⟨blk_cell h 0, blk_cell h 1⟩⟩⟩
theorem arvs_two {w : World} {g : Nat} {x y : Arv} (h : w.heap[g]? = some (.cells #[.int .i64 x.tick, .int .i64 x.obj, .int .i64 y.tick, .int .i64 y.obj] 53 (0, 0))) : ArvsV w (.slice (some ⟨g, 0, none⟩) 2 2) [x, y] :=
  ⟨_, _, rfl, by simp, by unfold maxLen; omega, fun _ => ⟨g, 0, rfl, fun i z hi => by
    match i, hi with
    | 0, hi =>
      simp at hi; subst hi
      exact ⟨blk_cell h 0, blk_cell h 1⟩
    | 1, hi =>
      simp at hi; subst hi
      exact ⟨blk_cell h 2, blk_cell h 3⟩⟩⟩

/-! ### The scripts of the check -/
def kS : Scr := ⟨baseC, 20, [[], [⟨1, 0, 3⟩], [], []], [[], [], [⟨3, 1⟩], []]⟩
def kU : Scr := ⟨baseC, 20, [[], [], [], []], [[⟨3, 0⟩, ⟨2, 0⟩], [], [], []]⟩
def kV : Scr := ⟨baseC, -1, [[], [], [], []], [[], [], [], []]⟩
theorem kS_is : isScr kS = 0 := by decide
theorem kU_is : isScr kU = 10 := by decide
theorem kV_is : isScr kV = 12 := by decide
theorem cats_ok {c : Cnf} (h : c.doms.all (fun d => decide (0 ≤ d.cats) && decide (d.cats < 18446744073709551616)) = true) : ∀ d ∈ c.doms, U64 d.cats := fun d hd => by
  have := List.all_eq_true.1 h d hd
  simp only [Bool.and_eq_true, decide_eq_true_eq] at this
  exact this
theorem base_in : CnfIn baseC := isConf_in baseC_is (isConf_held baseC_is (cats_ok (by decide)))
theorem kS_len : (allBytes kS).length ≤ 40000 := allBytes_length kS_is base_in (fun d hd r hr => by have := (isConf_held baseC_is (cats_ok (by decide))).route d hd r hr; revert d r; decide)
theorem dom_len (d : Dom) : 17 ≤ (domBytes d).length := by
  have h1 := numB_pos d.level
  have h2 := bitsB_length d.cats
  have h3 := numB_pos d.routes.length
  have h4 := numB_pos d.to
  have h5 := numB_pos d.release.length
  have h6 := numB_pos d.threads
  have h7 := numB_pos d.groups
  have h8 := numB_pos d.ring
  have h9 := numB_pos d.sends
  have h10 := numB_pos d.box
  simp only [domBytes, rowB, List.length_append]
  omega
theorem kS_long : 60 < (allBytes kS).length := by
  have h : ∀ l : List Dom, 17 * l.length ≤ (l.flatMap domBytes).length := fun l => by
    induction l with
    | nil => simp
    | cons d l ih =>
      have := dom_len d
      rw [List.flatMap_cons, List.length_append, List.length_cons]
      omega
  have h4 := h kS.conf.doms
  have e : kS.conf.doms.length = 4 := rfl
  simp only [allBytes, confBytes, List.length_append]
  omega
theorem kS_ok : scrOk (allBytes kS) = true := scrOk_bytes kS_is base_in kS_len
theorem kS_read : (scrR ⟨allBytes kS, 0⟩).1 = kS := by rw [scr_back' kS_is base_in]
theorem no_ok : scrOk [] = false := by decide
end Go.Proofs.YtbllibgddiiboaaGreat

namespace Go.Proofs.YtbllibgddiiboaaGreat
open Go.RowKit

abbrev helpO (N S V : Nat) (h : Int) : Obj := .cells #[.int .i64 8, .int .i64 2, .slice (some ⟨N + 3, 0, none⟩) 2 2, .slice (some ⟨N + 13, 0, none⟩) 4 4, .int .i64 h, .slice (some ⟨S, 0, none⟩) 4 4, .slice (some ⟨V, 0, none⟩) 4 4] 30 (0, 0)
abbrev axnO (a b c : Int) : Obj := .cells #[.int .i64 a, .int .i64 b, .int .i64 c] 50 (0, 0)
theorem HelpS.putS {base N S V : Nat} {os : List RO} {ss vs : List Value} {w : World} (h : HelpS base N S V os ss vs w) (j : Nat) (u : Value) : HelpS base N S V os (ss.set j u) vs (w.setCell ⟨S, j, none⟩ u) :=
  ⟨h.lies.other u h.sn, by rw [blk_set h.sb j u]; simp, (Below.heap_setCell _ _ _ _ (by simp; exact h.sv.symm)).trans h.vb, h.hN, h.hS, h.hV, h.sv, h.sn, h.vn⟩
theorem HelpS.putV {base N S V : Nat} {os : List RO} {ss vs : List Value} {w : World} (h : HelpS base N S V os ss vs w) (j : Nat) (u : Value) : HelpS base N S V os ss (vs.set j u) (w.setCell ⟨V, j, none⟩ u) :=
  ⟨h.lies.other u h.vn, (Below.heap_setCell _ _ _ _ (by simp; exact h.sv)).trans h.sb, by rw [blk_set h.vb j u]; simp, h.hN, h.hS, h.hV, h.sv, h.sn, h.vn⟩
theorem heap_new3 (w : World) (o1 o2 o3 : Obj) : (((w.alloc o1).alloc o2).alloc o3).heap[w.heap.size + 2]? = some o3 := by
  have := heap_new2 (w.alloc o1) o2 o3
  rwa [World.size_alloc] at this
theorem heap_new2' (w : World) (p : Addr) (u : Value) (o1 o2 : Obj) : (((w.setCell p u).alloc o1).alloc o2).heap[w.heap.size]? = some o1 ∧ (((w.setCell p u).alloc o1).alloc o2).heap[w.heap.size + 1]? = some o2 := by
  have h1 := heap_alloc_new (w.setCell p u) o1
  have h2 := heap_new2 (w.setCell p u) o1 o2
  have e : (w.setCell p u).heap.size = w.heap.size := by simp [World.setCell]
  rw [e] at h1 h2
  exact ⟨block_ext (Ext.alloc (Ext.refl _) _) h1, h2⟩
abbrev arvO (a b : Int) : Obj := .cells #[.int .i64 a, .int .i64 b] 53 (0, 0)
theorem heap_new1' (w : World) (p : Addr) (u : Value) (o1 : Obj) : ((w.setCell p u).alloc o1).heap[w.heap.size]? = some o1 := by
  have h1 := heap_alloc_new (w.setCell p u) o1
  have e : (w.setCell p u).heap.size = w.heap.size := by simp [World.setCell]
  rwa [e] at h1
theorem kBytes {N S V : Nat} {w : World} (k : SV N S V 20 kS w) : Calls Tryz.prog 13 #[helpV N S V 20] w (Yields w (.string (str (allBytes kS)))) := by
  have := scrBytes_yes w kS _ _ _ _ k.v kS_is base_in (by have := kS_len; omega)
  rwa [k.val] at this
theorem is_errno_to' {n m : Int} {r : Bool} (e : (n == m) = r) (w : World) : Calls Tryz.prog 10 #[.iface 39 (.int .i64 n), .iface 39 (.int .i64 m)] w (Yields w (.bool r)) := e ▸ Err.is_errno n m w
theorem sIs {N S V : Nat} {h : Int} {s : Scr} {n : Nat} (e : isScr s = n) {w : World} (k : SV N S V h s w) : Calls Tryz.prog 16 #[helpV N S V h] w (Yields w (errV n)) := by
  have := scrIs_to e w _ _ _ _ k.v
  rwa [k.val] at this
theorem kIs0 {N S V : Nat} {w : World} (k : SV N S V 20 kS w) : Calls Tryz.prog 16 #[helpV N S V 20] w (Yields w .nilIface) := sIs kS_is k
theorem kIsU {N S V : Nat} {w : World} (k : SV N S V 20 kU w) : Calls Tryz.prog 16 #[helpV N S V 20] w (Yields w (.iface 39 (.int .i64 10))) := sIs kU_is k
theorem kIsV {N S V : Nat} {w : World} (k : SV N S V (-1) kV w) : Calls Tryz.prog 16 #[helpV N S V (-1)] w (Yields w (.iface 39 (.int .i64 12))) := sIs kV_is k
theorem kBytesV {N S V : Nat} {w : World} (k : SV N S V (-1) kV w) : Calls Tryz.prog 13 #[helpV N S V (-1)] w (Yields w (.string { data := #[] })) := by
  have := scrBytes_no w kV _ _ _ _ k.v (by rw [kV_is]; decide)
  rw [k.val] at this
  exact this
theorem kSameV {N S V N' S' V' : Nat} {w : World} (k : SV N S V 20 kS w) (k' : SV N' S' V' (-1) kV w) : Calls Tryz.prog 14 #[helpV N S V 20, helpV N' S' V' (-1)] w (Yields w (.bool false)) := by
  have := scrSame_to (r := false) (by decide) w _ _ _ _ _ _ _ _ k.v k'.v
  rwa [k.val, k'.val] at this
theorem kSameT {N S V cp cd cs ca : Nat} {pp pd ps pa : Option Addr} {w : World} (k : SV N S V 20 kS w) (k' : ScrV w kS (.slice pp 2 cp) (.slice pd 4 cd) (.slice ps 4 cs) (.slice pa 4 ca)) : Calls Tryz.prog 14 #[helpV N S V 20, .agg #[.int .i64 8, .int .i64 2, .slice pp 2 cp, .slice pd 4 cd, .int .i64 20, .slice ps 4 cs, .slice pa 4 ca]] w (Yields w (.bool true)) := by
  have := scrSame_to (sameS_self kS) w _ _ _ _ _ _ _ _ k.v k'
  rw [k.val] at this
  exact this
theorem kRead (w : World) : Calls Tryz.prog 7 #[.string (str (allBytes kS))] w (fun e w' => ∃ pp cp pd cd ps cs pa ca, e = .returned (.tuple #[.agg #[.int .i64 8, .int .i64 2, .slice pp 2 cp, .slice pd 4 cd, .int .i64 20, .slice ps 4 cs, .slice pa 4 ca], .nilIface]) ∧ ScrV w' kS (.slice pp 2 cp) (.slice pd 4 cd) (.slice ps 4 cs) (.slice pa 4 ca) ∧ Ext w w') := by
  have := read_ok w kS_ok
  rw [kS_read] at this
  exact this
theorem kNo (w : World) : Calls Tryz.prog 7 #[.string { data := #[] }] w (ReadBad w) := by
  exact read_no w no_ok
set_option maxRecDepth 100000 in
set_option maxHeartbeats 8000000 in
theorem known4_any (w : World) : Calls Tryz.prog 6 #[] w (Yields w (.bool true)) := by
  go_enter Tryz.func6, Tryz.ntmps6
  go_wp2_with fail
  refine (help_any _ 20).mono ?_
  rintro e w1 ⟨N1, S1, V1, rfl, h1, x1⟩
  have c1 := blk_cell h1.sb 1
  have f1 := blk_free h1.sb 1
  have b1 := lt_of_block h1.sb
  simp only [nil4, List.getElem?_toArray, List.getElem?_cons_zero, List.getElem?_cons_succ] at c1
  go_upto_region 3 with fail
  refine wp_forget (fun v => HelpS w.heap.size N1 S1 V1 baseRO [.slice none 0 0, .slice (some ⟨w1.heap.size + 1, 0, none⟩) 1 1, .slice none 0 0, .slice none 0 0] nil4 v ∧ v.heap[w1.heap.size]? = some (helpO N1 S1 V1 20) ∧ v.heap[w1.heap.size + 1]? = some (axnO 1 0 3) ∧ Ext w v)
    ⟨(h1.putS 1 _).ext (Ext.alloc (Ext.alloc (Ext.refl _) _) _), (heap_new2' w1 _ _ _ _).1, (heap_new2' w1 _ _ _ _).2, Ext.alloc (Ext.alloc (Ext.setCell x1 h1.hS _) _) _⟩ ?_
  rintro v2 ⟨h2, hA2, hL2, x2⟩
  clear c1 f1 b1 h1 x1
  generalize w1.heap.size = A1 at *
  clear w1
  have c2 := blk_cell h2.vb 2
  have f2 := blk_free h2.vb 2
  have b2 := lt_of_block h2.vb
  have b3 := lt_of_block hA2
  have k6 := blk_cell hA2 6
  simp only [nil4, List.getElem?_toArray, List.getElem?_cons_zero, List.getElem?_cons_succ] at c2 k6
  go_upto_region 4 with fail
  refine wp_forget (fun v => SV N1 S1 V1 20 kS v ∧ v.heap[A1]? = some (helpO N1 S1 V1 20) ∧ Ext w v) ⟨?_, ?_, Ext.alloc (Ext.setCell x2 h2.hV _) _⟩ ?_
  · have h3 := (h2.putV 2 (.slice (some ⟨v2.heap.size, 0, none⟩) 1 1)).ext (Ext.alloc (Ext.refl _) (arvO 3 1))
    have hn := heap_new1' v2 ⟨V1, 2, none⟩ (.slice (some ⟨v2.heap.size, 0, none⟩) 1 1) (arvO 3 1)
    have hl : ((v2.setCell ⟨V1, 2, none⟩ (.slice (some ⟨v2.heap.size, 0, none⟩) 1 1)).alloc (arvO 3 1)).heap[A1 + 1]? = some (axnO 1 0 3) := block_ext (Ext.alloc (Ext.refl _) _) ((Below.heap_setCell _ _ _ _ (fun e => by
      have h4 := h2.vb
      simp only at e
      rw [← e, hL2] at h4
      simp at h4)).trans hL2)
    refine h3.script baseC_of rfl rfl (fun i l hi => ?_) (fun i l hi => ?_)
    · match i, hi with
      | 0, hi => simp at hi; subst hi; exact ⟨_, rfl, axns_nil _⟩
      | 1, hi => simp at hi; subst hi; exact ⟨_, rfl, axns_one (x := ⟨1, 0, 3⟩) hl⟩
      | 2, hi => simp at hi; subst hi; exact ⟨_, rfl, axns_nil _⟩
      | 3, hi => simp at hi; subst hi; exact ⟨_, rfl, axns_nil _⟩
    · match i, hi with
      | 0, hi => simp at hi; subst hi; exact ⟨_, rfl, arvs_nil _⟩
      | 1, hi => simp at hi; subst hi; exact ⟨_, rfl, arvs_nil _⟩
      | 2, hi => simp at hi; subst hi; exact ⟨_, rfl, arvs_one (x := ⟨3, 1⟩) hn⟩
      | 3, hi => simp at hi; subst hi; exact ⟨_, rfl, arvs_nil _⟩
  · exact block_ext (Ext.alloc (Ext.refl _) _) ((Below.heap_setCell _ _ _ _ (fun e => by
      have h4 := h2.vb
      simp only at e
      rw [← e, hA2] at h4
      simp at h4)).trans hA2)
  clear c2 f2 b2 b3 k6 h2 hA2 hL2 x2
  rintro v3 ⟨hs, hA, hx⟩
  have HS := hid hs
  have HA := hid hA
  have HX := hid hx
  have k0 := blk_cell hA 0
  have k1 := blk_cell hA 1
  have k2 := blk_cell hA 2
  have k3 := blk_cell hA 3
  have k4 := blk_cell hA 4
  have k5 := blk_cell hA 5
  have k6 := blk_cell hA 6
  simp only [List.getElem?_toArray, List.getElem?_cons_zero, List.getElem?_cons_succ] at k0 k1 k2 k3 k4 k5 k6
  clear hs hA hx
  go_upto_region 5 with (go_at_call 13; refine (kBytes HS.out).yields ?_; intro p1)
  refine wp_forget (fun v => SV N1 S1 V1 20 kS v ∧ v.heap[A1]? = some (helpO N1 S1 V1 20) ∧ Ext w v) ⟨HS.out.ext (by repeat (first | exact Ext.refl _ | assumption | refine Ext.more ?_ _ | refine Ext.drew ?_ | refine Ext.drewN ?_ _ | refine Ext.alloc ?_ _ | refine Ext.setCell ?_ (by simp; try omega) _ | refine Ext.trans ?_ (by assumption))), block_ext (by repeat (first | exact Ext.refl _ | assumption | refine Ext.more ?_ _ | refine Ext.drew ?_ | refine Ext.drewN ?_ _ | refine Ext.alloc ?_ _ | refine Ext.setCell ?_ (by simp; try omega) _ | refine Ext.trans ?_ (by assumption))) HA.out, HX.out.trans (by repeat (first | exact Ext.refl _ | assumption | refine Ext.more ?_ _ | refine Ext.drew ?_ | refine Ext.drewN ?_ _ | refine Ext.alloc ?_ _ | refine Ext.setCell ?_ (by simp; try omega) _ | refine Ext.trans ?_ (by assumption)))⟩ ?_
  clear k0 k1 k2 k3 k4 k5 k6 HS HA HX
  clear p1
  rintro v4 ⟨hs, hA, hx⟩
  have HS := hid hs
  have HA := hid hA
  have HX := hid hx
  clear hs hA hx
  go_upto_region 6 with (go_at_call 7; refine (kRead _).mono ?_; rintro e v5 ⟨pp, cp, pd, cd, ps, cs, pa, ca, rfl, ht, hx5⟩; have HT := hid ht; have HX5 := hid hx5; clear ht hx5)
  refine wp_forget (fun v => SV N1 S1 V1 20 kS v ∧ v.heap[A1]? = some (helpO N1 S1 V1 20) ∧ Ext w v ∧ ScrV v kS (.slice pp 2 cp) (.slice pd 4 cd) (.slice ps 4 cs) (.slice pa 4 ca) ∧ v.heap[v5.heap.size]? = some (.cells #[.int .i64 8, .int .i64 2, .slice pp 2 cp, .slice pd 4 cd, .int .i64 20, .slice ps 4 cs, .slice pa 4 ca] 30 (0, 0))) ⟨(HS.out.ext HX5.out).ext (by repeat (first | exact Ext.refl _ | assumption | refine Ext.more ?_ _ | refine Ext.drew ?_ | refine Ext.drewN ?_ _ | refine Ext.alloc ?_ _ | refine Ext.setCell ?_ (by simp; try omega) _ | refine Ext.trans ?_ (by assumption))), block_ext (by repeat (first | exact Ext.refl _ | assumption | refine Ext.more ?_ _ | refine Ext.drew ?_ | refine Ext.drewN ?_ _ | refine Ext.alloc ?_ _ | refine Ext.setCell ?_ (by simp; try omega) _ | refine Ext.trans ?_ (by assumption))) (block_ext HX5.out HA.out), (HX.out.trans HX5.out).trans (by repeat (first | exact Ext.refl _ | assumption | refine Ext.more ?_ _ | refine Ext.drew ?_ | refine Ext.drewN ?_ _ | refine Ext.alloc ?_ _ | refine Ext.setCell ?_ (by simp; try omega) _ | refine Ext.trans ?_ (by assumption))), HT.out.ext (by repeat (first | exact Ext.refl _ | assumption | refine Ext.more ?_ _ | refine Ext.drew ?_ | refine Ext.drewN ?_ _ | refine Ext.alloc ?_ _ | refine Ext.setCell ?_ (by simp; try omega) _ | refine Ext.trans ?_ (by assumption))), heap_alloc_new v5 _⟩ ?_
  clear HS HA HX HT HX5
  generalize v5.heap.size = A3 at *
  rintro v6 ⟨hs, hA, hx, ht, hA3⟩
  have HS := hid hs
  have HA := hid hA
  have HX := hid hx
  have HT := hid ht
  have HA3 := hid hA3
  clear hs hA hx ht hA3
  go_upto_region 7 with (go_at_call 7; refine (kNo _).mono ?_; rintro e v7 ⟨n, hn, rfl, hx7⟩; have HNN := hid hn; have HX7 := hid hx7; clear hn hx7)
  refine wp_forget (fun v => Ext v6 v) (HX7.out.alloc _) ?_
  clear HX7
  rintro v8 hx8
  have HS' := hid (HS.out.ext hx8)
  have HA' := hid (block_ext hx8 HA.out)
  have HX' := hid (HX.out.trans hx8)
  have HT' := hid (HT.out.ext hx8)
  have HA3' := hid (block_ext hx8 HA3.out)
  clear HS HA HX HT HA3 hx8
  go_upto_region 8 with (go_at_call 15; refine (help_any _ 20).mono ?_; rintro e v9 ⟨N2, S2, V2, rfl, h9, x9⟩; have H9 := hid h9; have X9 := hid x9; clear h9 x9)
  refine wp_forget (fun v => HelpS v8.heap.size N2 S2 V2 baseRO nil4 nil4 v ∧ v.heap[v9.heap.size]? = some (helpO N2 S2 V2 20) ∧ Ext v8 v) ⟨H9.out.ext (by repeat (first | exact Ext.refl _ | assumption | refine Ext.more ?_ _ | refine Ext.drew ?_ | refine Ext.drewN ?_ _ | refine Ext.alloc ?_ _ | refine Ext.setCell ?_ (by simp; try omega) _ | refine Ext.trans ?_ (by assumption))), heap_alloc_new v9 _, X9.out.trans (by repeat (first | exact Ext.refl _ | assumption | refine Ext.more ?_ _ | refine Ext.drew ?_ | refine Ext.drewN ?_ _ | refine Ext.alloc ?_ _ | refine Ext.setCell ?_ (by simp; try omega) _ | refine Ext.trans ?_ (by assumption)))⟩ ?_
  clear H9 X9
  generalize v9.heap.size = A7 at *
  rintro va ⟨h2, hA7, x2⟩
  have c2 := blk_cell h2.vb 0
  have f2 := blk_free h2.vb 0
  have b2 := lt_of_block h2.vb
  have b3 := lt_of_block hA7
  have k6 := blk_cell hA7 6
  simp only [nil4, List.getElem?_toArray, List.getElem?_cons_zero, List.getElem?_cons_succ] at c2 k6
  have H2 := hid h2
  have HA7 := hid hA7
  have X2 := hid x2
  clear h2 hA7 x2
  go_upto_region 9 with fail
  refine wp_forget (fun v => SV N2 S2 V2 20 kU v ∧ v.heap[A7]? = some (helpO N2 S2 V2 20) ∧ Ext v8 v) ⟨?_, ?_, Ext.alloc (Ext.setCell X2.out H2.out.hV _) _⟩ ?_
  · have h3 := (H2.out.putV 0 (.slice (some ⟨va.heap.size, 0, none⟩) 2 2)).ext (Ext.alloc (Ext.refl _) (.cells #[.int .i64 3, .int .i64 0, .int .i64 2, .int .i64 0] 53 (0, 0)))
    have hn := heap_new1' va ⟨V2, 0, none⟩ (.slice (some ⟨va.heap.size, 0, none⟩) 2 2) (.cells #[.int .i64 3, .int .i64 0, .int .i64 2, .int .i64 0] 53 (0, 0))
    refine h3.script baseC_of rfl rfl (fun i l hi => ?_) (fun i l hi => ?_)
    · match i, hi with
      | 0, hi => simp at hi; subst hi; exact ⟨_, rfl, axns_nil _⟩
      | 1, hi => simp at hi; subst hi; exact ⟨_, rfl, axns_nil _⟩
      | 2, hi => simp at hi; subst hi; exact ⟨_, rfl, axns_nil _⟩
      | 3, hi => simp at hi; subst hi; exact ⟨_, rfl, axns_nil _⟩
    · match i, hi with
      | 0, hi => simp at hi; subst hi; exact ⟨_, rfl, arvs_two (x := ⟨3, 0⟩) (y := ⟨2, 0⟩) hn⟩
      | 1, hi => simp at hi; subst hi; exact ⟨_, rfl, arvs_nil _⟩
      | 2, hi => simp at hi; subst hi; exact ⟨_, rfl, arvs_nil _⟩
      | 3, hi => simp at hi; subst hi; exact ⟨_, rfl, arvs_nil _⟩
  · exact block_ext (Ext.alloc (Ext.refl _) _) ((Below.heap_setCell _ _ _ _ (fun e => by
      have h4 := H2.out.vb
      simp only at e
      rw [← e, HA7.out] at h4
      simp at h4)).trans HA7.out)
  clear c2 f2 b2 b3 k6 H2 HA7 X2
  rintro vb ⟨hu, hA7, hxb⟩
  have HU := hid hu
  have HA7 := hid hA7
  have HXB := hid hxb
  clear hu hA7 hxb
  go_upto_region 10 with (go_at_call 15; refine (help_any _ (-1)).mono ?_; rintro e vc ⟨N3, S3, V3, rfl, h9, x9⟩; have H9 := hid h9; have X9 := hid x9; clear h9 x9)
  refine wp_forget (fun v => HelpS vb.heap.size N3 S3 V3 baseRO nil4 nil4 v ∧ v.heap[vc.heap.size]? = some (helpO N3 S3 V3 (-1)) ∧ Ext vb v) ⟨H9.out.ext (by repeat (first | exact Ext.refl _ | assumption | refine Ext.more ?_ _ | refine Ext.drew ?_ | refine Ext.drewN ?_ _ | refine Ext.alloc ?_ _ | refine Ext.setCell ?_ (by simp; try omega) _ | refine Ext.trans ?_ (by assumption))), heap_alloc_new vc _, X9.out.trans (by repeat (first | exact Ext.refl _ | assumption | refine Ext.more ?_ _ | refine Ext.drew ?_ | refine Ext.drewN ?_ _ | refine Ext.alloc ?_ _ | refine Ext.setCell ?_ (by simp; try omega) _ | refine Ext.trans ?_ (by assumption)))⟩ ?_
  clear H9 X9
  generalize vc.heap.size = A8 at *
  rintro W ⟨h3, hA8, x3⟩
  have hV : SV N3 S3 V3 (-1) kV W := h3.script baseC_of rfl rfl (fun i l hi => by
      match i, hi with
      | 0, hi => simp at hi; subst hi; exact ⟨_, rfl, axns_nil _⟩
      | 1, hi => simp at hi; subst hi; exact ⟨_, rfl, axns_nil _⟩
      | 2, hi => simp at hi; subst hi; exact ⟨_, rfl, axns_nil _⟩
      | 3, hi => simp at hi; subst hi; exact ⟨_, rfl, axns_nil _⟩) (fun i l hi => by
      match i, hi with
      | 0, hi => simp at hi; subst hi; exact ⟨_, rfl, arvs_nil _⟩
      | 1, hi => simp at hi; subst hi; exact ⟨_, rfl, arvs_nil _⟩
      | 2, hi => simp at hi; subst hi; exact ⟨_, rfl, arvs_nil _⟩
      | 3, hi => simp at hi; subst hi; exact ⟨_, rfl, arvs_nil _⟩)
  have xb : Ext v8 W := HXB.out.trans x3
  have QS := hid (HS'.out.ext xb)
  have QT := hid (HT'.out.ext xb)
  have QU := hid (HU.out.ext x3)
  have QV := hid hV
  have QX := hid (HX'.out.trans xb)
  have hA := block_ext xb HA'.out
  have hA3 := block_ext xb HA3'.out
  have hA7 := block_ext x3 HA7.out
  have a0 := blk_cell hA 0
  have a1 := blk_cell hA 1
  have a2 := blk_cell hA 2
  have a3 := blk_cell hA 3
  have a4 := blk_cell hA 4
  have a5 := blk_cell hA 5
  have a6 := blk_cell hA 6
  have b0 := blk_cell hA3 0
  have b1 := blk_cell hA3 1
  have b2 := blk_cell hA3 2
  have b3 := blk_cell hA3 3
  have b4 := blk_cell hA3 4
  have b5 := blk_cell hA3 5
  have b6 := blk_cell hA3 6
  have c0 := blk_cell hA7 0
  have c1 := blk_cell hA7 1
  have c2 := blk_cell hA7 2
  have c3 := blk_cell hA7 3
  have c4 := blk_cell hA7 4
  have c5 := blk_cell hA7 5
  have c6 := blk_cell hA7 6
  have d0 := blk_cell hA8 0
  have d1 := blk_cell hA8 1
  have d2 := blk_cell hA8 2
  have d3 := blk_cell hA8 3
  have d4 := blk_cell hA8 4
  have d5 := blk_cell hA8 5
  have d6 := blk_cell hA8 6
  simp only [List.getElem?_toArray, List.getElem?_cons_zero, List.getElem?_cons_succ] at a0 a1 a2 a3 a4 a5 a6 b0 b1 b2 b3 b4 b5 b6 c0 c1 c2 c3 c4 c5 c6 d0 d1 d2 d3 d4 d5 d6
  have l1 := lt_of_block hA
  have l2 := lt_of_block hA3
  have l3 := lt_of_block hA7
  have l4 := lt_of_block hA8
  obtain ⟨tb, tof, hts, tv, t0, tn⟩ := QT.out.streams.at 1 (show 1 < kS.streams.length by decide)
  obtain ⟨tp, tc, rfl, -, -⟩ := tn.shape
  have hts' := hts
  subst hts'
  have t0' : W.cell? ⟨tb, tof + 1, none⟩ = some (.slice tp 1 tc) := t0
  have l5 := World.block_lt_of_cell? _ _ t0'
  have hl60 : (60 : Int) < ((allBytes kS).length : Int) := by have := kS_long; omega
  have hne := fun v w => run_neq_iface_nil (P := Tryz.prog) w 39 v Tryz.underlying32
  have hnn := fun w => run_neq_nil_nil' (P := Tryz.prog) w Tryz.underlying32
  have hee := fun v w => run_eql_iface_nil (P := Tryz.prog) w 39 v Tryz.underlying32
  have hen := fun w => run_eql_nil_nil' (P := Tryz.prog) w Tryz.underlying32
  clear hts t0 tn hA hA3 hA7 hA8 h3 x3 xb hV HS' HA' HT' HX' HA3' HU HA7 HXB
  go_wp2_with (first
    | (go_at_call 16; (with_reducible refine (kIs0 (QS.out.ext (by repeat (first | exact Ext.refl _ | assumption | refine Ext.more ?_ _ | refine Ext.drew ?_ | refine Ext.drewN ?_ _ | refine Ext.alloc ?_ _ | refine Ext.setCell ?_ (by simp; try omega) _ | refine Ext.trans ?_ (by assumption))))).yields ?_); intro p1)
    | (go_at_call 16; (with_reducible refine (kIsU (QU.out.ext (by repeat (first | exact Ext.refl _ | assumption | refine Ext.more ?_ _ | refine Ext.drew ?_ | refine Ext.drewN ?_ _ | refine Ext.alloc ?_ _ | refine Ext.setCell ?_ (by simp; try omega) _ | refine Ext.trans ?_ (by assumption))))).yields ?_); intro p2)
    | (go_at_call 16; (with_reducible refine (kIsV (QV.out.ext (by repeat (first | exact Ext.refl _ | assumption | refine Ext.more ?_ _ | refine Ext.drew ?_ | refine Ext.drewN ?_ _ | refine Ext.alloc ?_ _ | refine Ext.setCell ?_ (by simp; try omega) _ | refine Ext.trans ?_ (by assumption))))).yields ?_); intro p3)
    | (go_at_call 10; (with_reducible refine (is_errno_to' (r := true) rfl _).yields ?_); intro p4)
    | (go_at_call 14; (with_reducible refine (kSameT (QS.out.ext (by repeat (first | exact Ext.refl _ | assumption | refine Ext.more ?_ _ | refine Ext.drew ?_ | refine Ext.drewN ?_ _ | refine Ext.alloc ?_ _ | refine Ext.setCell ?_ (by simp; try omega) _ | refine Ext.trans ?_ (by assumption)))) (QT.out.ext (by repeat (first | exact Ext.refl _ | assumption | refine Ext.more ?_ _ | refine Ext.drew ?_ | refine Ext.drewN ?_ _ | refine Ext.alloc ?_ _ | refine Ext.setCell ?_ (by simp; try omega) _ | refine Ext.trans ?_ (by assumption))))).yields ?_); intro p5)
    | (go_at_call 13; (with_reducible refine (kBytesV (QV.out.ext (by repeat (first | exact Ext.refl _ | assumption | refine Ext.more ?_ _ | refine Ext.drew ?_ | refine Ext.drewN ?_ _ | refine Ext.alloc ?_ _ | refine Ext.setCell ?_ (by simp; try omega) _ | refine Ext.trans ?_ (by assumption))))).yields ?_); intro p6)
    | (go_at_call 14; (with_reducible refine (kSameV (QS.out.ext (by repeat (first | exact Ext.refl _ | assumption | refine Ext.more ?_ _ | refine Ext.drew ?_ | refine Ext.drewN ?_ _ | refine Ext.alloc ?_ _ | refine Ext.setCell ?_ (by simp; try omega) _ | refine Ext.trans ?_ (by assumption)))) (QV.out.ext (by repeat (first | exact Ext.refl _ | assumption | refine Ext.more ?_ _ | refine Ext.drew ?_ | refine Ext.drewN ?_ _ | refine Ext.alloc ?_ _ | refine Ext.setCell ?_ (by simp; try omega) _ | refine Ext.trans ?_ (by assumption))))).yields ?_); intro p7))
  go_returns
  exact ⟨rfl, QX.out.trans (by repeat (first | exact Ext.refl _ | assumption | refine Ext.more ?_ _ | refine Ext.drew ?_ | refine Ext.drewN ?_ _ | refine Ext.alloc ?_ _ | refine Ext.setCell ?_ (by simp; try omega) _ | refine Ext.trans ?_ (by assumption)))⟩
end Go.Proofs.YtbllibgddiiboaaGreat

namespace Go.Proofs.YtbllibgddiiboaaGreat
open Go.ChangeShapes Go.WideShapes Go.ChangeAt Go.RowKit Go.Joins Go.Deep

namespace scriptBack
@[go_sem high] theorem run_slice_str_to {P : Program} (w : World) (t : TypeId) (l : List UInt8) (k : IntKind) (j : Int) (h : P.underlying t = some .string) (h0 : 0 ≤ j) (h1 : j ≤ (l.length : Int)) :
    (Instr.slice t (.string (str l)) none (some (.int k j)) none).run P w = .ok (.string (str (l.take j.toNat))) w := by
  rw [run_slice_string_to_if w t (str l) k j h]
  simp only [str_size, str_extract]
  rw [if_pos ⟨h0, h1⟩]
  simp
theorem conf_cats {w : World} {c : Cnf} {pv dv : Value} (h : ConfV w c pv dv) : ∀ d ∈ c.doms, U64 d.cats := fun d hd => by
  obtain ⟨i, hi, rfl⟩ := List.mem_iff_getElem.1 hd
  obtain ⟨p, cap, h0, h1, h2, h3⟩ := h.doms
  obtain ⟨b, off, _, h4⟩ := h3 (by omega)
  obtain ⟨vr, ve, _, _, _, hu⟩ := h4 i c.doms[i] (List.getElem?_eq_getElem hi)
  exact hu
theorem scr_in {w : World} {s : Scr} {pv dv sv av : Value} (h : ScrV w s pv dv sv av) (hi : isScr s = 0) : CnfIn s.conf :=
  isConf_in (isScr_parts hi).1 (isConf_held (isScr_parts hi).1 (conf_cats h.conf))
theorem wideScr_to {s : Scr} {h : Int} {r : Bool} (e : wideS s h = r) (w : World) (pv dv sv av : Value) (hc : ScrV w s pv dv sv av) :
    Calls Tryz.prog 11 #[scrV s pv dv sv av, .int .i64 h] w (Yields w (.bool r)) := e ▸ wideScr_any w s h pv dv sv av hc
theorem sameScr_to {a b : Scr} {r : Bool} (e : sameS a b = r) (w : World) (pa da sa va pb db sb vb : Value) (ha : ScrV w a pa da sa va) (hb : ScrV w b pb db sb vb) :
    Calls Tryz.prog 9 #[scrV a pa da sa va, scrV b pb db sb vb] w (Yields w (.bool r)) := e ▸ sameScr_any w a b pa da sa va pb db sb vb ha hb
theorem rIsScr_to {s : Scr} {n : Nat} (e : isScr s = n) (w : World) (pv dv sv av : Value) (hc : ScrV w s pv dv sv av) (hr : ∀ d ∈ s.conf.doms, ∀ r ∈ d.routes, r.length ≤ 300) :
    Calls Tryz.prog 12 #[scrV s pv dv sv av] w (Yields w (.int .i64 n)) := e ▸ rIsScr_any w s pv dv sv av hc hr
theorem rem_in (n k : Int) (h0 : 0 ≤ n) (hk : 0 < k) (hk' : k ≤ 40000) : IntKind.i64.wrap (n.tmod k) = n.tmod k := IntWalk.i64_in _ (by
  have h1 := Int.tmod_nonneg k h0
  have h2 := Int.tmod_lt_of_pos n hk
  omega)

set_option maxRecDepth 100000 in
set_option maxHeartbeats 8000000 in
theorem walk (s : Scr) (pv dv sv av : Value) (n : Int) (m : List UInt8) (w : World) (hn : 0 ≤ n ∧ n ≤ 65535) (hc : ScrV w s pv dv sv av) :
    Calls Tryz.prog 4 #[scrV s pv dv sv av, .int .u16 n, .string (str m)] w (Yields w (.bool true)) := by
  obtain ⟨pp, cp, rfl, -, -⟩ := hc.conf.plans.shape
  obtain ⟨pd, cd, rfl, -, -⟩ := hc.conf.doms.shape
  obtain ⟨ps, cs, rfl, -, -⟩ := hc.streams.shape
  obtain ⟨pa, ca, rfl, -, -⟩ := hc.arrivals.shape
  have HC := hid hc
  clear hc
  go_enter Tryz.func4, Tryz.ntmps4
  cases hw : wideS s 5000
  case true =>
    have HW := hid hw
    clear hw
    go_wp2_with (first | (go_at_call 6; refine (known4_any _).yields ?_; intro p0) | (go_at_call 11; (with_reducible refine (wideScr_to HW.out _ _ _ _ _ (HC.out.ext (by repeat (first | exact Ext.refl _ | assumption | refine Ext.more ?_ _ | refine Ext.drew ?_ | refine Ext.drewN ?_ _ | refine Ext.alloc ?_ _ | refine Ext.setCell ?_ (by simp; try omega) _ | refine Ext.trans ?_ (by assumption))))).yields ?_); intro p1))
    go_returns
    exact ⟨rfl, (by repeat (first | exact Ext.refl _ | assumption | refine Ext.more ?_ _ | refine Ext.drew ?_ | refine Ext.drewN ?_ _ | refine Ext.alloc ?_ _ | refine Ext.setCell ?_ (by simp; try omega) _ | refine Ext.trans ?_ (by assumption)))⟩
  have HW := hid hw
  have HR := hid (wide_routes20 (wideS_conf hw).1)
  have HR3 : Hid (∀ d ∈ s.conf.doms, ∀ r ∈ d.routes, r.length ≤ 300) := fun d hd r hr => by have := HR.out d hd r hr; omega
  clear hw
  by_cases hi : isScr s = 0
  case neg =>
    have h1 : (((isScr s : Nat) : Int) == 0) = false := by simp; omega
    have h2 : (((isScr s : Nat) : Int) != 0) = true := by simp; omega
    clear hi
    go_wp2_with (first | (go_at_call 6; refine (known4_any _).yields ?_; intro p0) | (go_at_call 11; (with_reducible refine (wideScr_to HW.out _ _ _ _ _ (HC.out.ext (by repeat (first | exact Ext.refl _ | assumption | refine Ext.more ?_ _ | refine Ext.drew ?_ | refine Ext.drewN ?_ _ | refine Ext.alloc ?_ _ | refine Ext.setCell ?_ (by simp; try omega) _ | refine Ext.trans ?_ (by assumption))))).yields ?_); intro p1) | (go_at_call 12; (with_reducible refine (rIsScr_any _ _ _ _ _ _ (HC.out.ext (by repeat (first | exact Ext.refl _ | assumption | refine Ext.more ?_ _ | refine Ext.drew ?_ | refine Ext.drewN ?_ _ | refine Ext.alloc ?_ _ | refine Ext.setCell ?_ (by simp; try omega) _ | refine Ext.trans ?_ (by assumption)))) HR3.out).yields ?_); intro p2))
    go_returns
    exact ⟨rfl, (by repeat (first | exact Ext.refl _ | assumption | refine Ext.more ?_ _ | refine Ext.drew ?_ | refine Ext.drewN ?_ _ | refine Ext.alloc ?_ _ | refine Ext.setCell ?_ (by simp; try omega) _ | refine Ext.trans ?_ (by assumption)))⟩
  have HI := hid hi
  have h1 : (((0 : Nat) : Int) == 0) = true := by simp
  have h2 : (((0 : Nat) : Int) != 0) = false := by simp
  clear hi
  by_cases hl : 20 < m.length
  · go_wp2_with (first | (go_at_call 6; refine (known4_any _).yields ?_; intro p0) | (go_at_call 11; (with_reducible refine (wideScr_to HW.out _ _ _ _ _ (HC.out.ext (by repeat (first | exact Ext.refl _ | assumption | refine Ext.more ?_ _ | refine Ext.drew ?_ | refine Ext.drewN ?_ _ | refine Ext.alloc ?_ _ | refine Ext.setCell ?_ (by simp; try omega) _ | refine Ext.trans ?_ (by assumption))))).yields ?_); intro p1) | (go_at_call 12; (with_reducible refine (rIsScr_to HI.out _ _ _ _ _ (HC.out.ext (by repeat (first | exact Ext.refl _ | assumption | refine Ext.more ?_ _ | refine Ext.drew ?_ | refine Ext.drewN ?_ _ | refine Ext.alloc ?_ _ | refine Ext.setCell ?_ (by simp; try omega) _ | refine Ext.trans ?_ (by assumption)))) HR3.out).yields ?_); intro p2))
    go_returns
    exact ⟨rfl, (by repeat (first | exact Ext.refl _ | assumption | refine Ext.more ?_ _ | refine Ext.drew ?_ | refine Ext.drewN ?_ _ | refine Ext.alloc ?_ _ | refine Ext.setCell ?_ (by simp; try omega) _ | refine Ext.trans ?_ (by assumption)))⟩
  have hl' : (m.length : Int) ≤ 20 := by omega
  have hlb : decide ((20 : Int) < (m.length : Int)) = false := by simpa using hl'
  clear hl
  have HIN := hid (scr_in HC.out HI.out)
  have hbl := allBytes_length HI.out HIN.out HR.out
  have hbp := allBytes_pos s
  go_upto_region 5 with (first | (go_at_call 6; refine (known4_any _).yields ?_; intro p0) | (go_at_call 11; (with_reducible refine (wideScr_to HW.out _ _ _ _ _ (HC.out.ext (by repeat (first | exact Ext.refl _ | assumption | refine Ext.more ?_ _ | refine Ext.drew ?_ | refine Ext.drewN ?_ _ | refine Ext.alloc ?_ _ | refine Ext.setCell ?_ (by simp; try omega) _ | refine Ext.trans ?_ (by assumption))))).yields ?_); intro p1) | (go_at_call 12; (with_reducible refine (rIsScr_to HI.out _ _ _ _ _ (HC.out.ext (by repeat (first | exact Ext.refl _ | assumption | refine Ext.more ?_ _ | refine Ext.drew ?_ | refine Ext.drewN ?_ _ | refine Ext.alloc ?_ _ | refine Ext.setCell ?_ (by simp; try omega) _ | refine Ext.trans ?_ (by assumption)))) HR3.out).yields ?_); intro p2))
  refine wp_forget (fun v => Ext w v ∧ v.heap[w.heap.size]? = some (.cells #[.int .i64 s.conf.frame, .int .i64 s.conf.epoch, .slice pp s.conf.plans.length cp, .slice pd s.conf.doms.length cd, .int .i64 s.horizon, .slice ps s.streams.length cs, .slice pa s.arrivals.length ca] 30 (0, 0))) ⟨(by repeat (first | exact Ext.refl _ | assumption | refine Ext.more ?_ _ | refine Ext.drew ?_ | refine Ext.drewN ?_ _ | refine Ext.alloc ?_ _ | refine Ext.setCell ?_ (by simp; try omega) _ | refine Ext.trans ?_ (by assumption))), block_ext (ext_more _ _) (heap_alloc_new w _)⟩ ?_
  clear p0 p1 p2
  rintro v0 ⟨hx0, hb0⟩
  have HX0 := hid hx0
  have HB0 := hid hb0
  have HBL := hid hbl
  have hL0 : (((allBytes s).length : Int) == 0) = false := beq_eq_false_iff_ne.2 (by omega)
  have hL0n : (0 : Int) < ((allBytes s).length : Int) := by omega
  have hLm : ((allBytes s).length : Int) ≤ 40000 := by omega
  have hrd : ∀ w, Calls Tryz.prog 7 #[.string (str (allBytes s))] w (ReadGood s w) := fun w => by
    have := read_ok w (scrOk_bytes HI.out HIN.out hbl)
    rwa [scr_back' HI.out HIN.out] at this
  have HRD := hid hrd
  clear hrd
  have k0 := blk_cell hb0 0
  have k1 := blk_cell hb0 1
  have k2 := blk_cell hb0 2
  have k3 := blk_cell hb0 3
  have k4 := blk_cell hb0 4
  have k5 := blk_cell hb0 5
  have k6 := blk_cell hb0 6
  simp only [List.getElem?_toArray, List.getElem?_cons_zero, List.getElem?_cons_succ] at k0 k1 k2 k3 k4 k5 k6
  clear hx0 hb0 hbl hbp
  go_upto_region 9 with (first | (go_at_call 13; refine (scrBytes_yes _ s _ _ _ _ (HC.out.ext (HX0.out.trans (by repeat (first | exact Ext.refl _ | assumption | refine Ext.more ?_ _ | refine Ext.drew ?_ | refine Ext.drewN ?_ _ | refine Ext.alloc ?_ _ | refine Ext.setCell ?_ (by simp; try omega) _ | refine Ext.trans ?_ (by assumption))))) HI.out HIN.out (by have := HBL.out; omega)).yields ?_; intro p3) | (go_at_call 7; refine (HRD.out _).mono ?_; rintro e v1 ⟨pp1, cp1, pd1, cd1, ps1, cs1, pa1, ca1, rfl, ht1, hx1⟩; have HT1 := hid ht1; have HX1 := hid ((HX0.out.trans (ext_more v0 p3)).trans hx1); have HB1 := hid (block_ext hx1 (block_ext (ext_more v0 p3) HB0.out)); clear ht1 hx1))
  refine wp_forget (fun v => Ext w v ∧ v.heap[w.heap.size]? = some (.cells #[.int .i64 s.conf.frame, .int .i64 s.conf.epoch, .slice pp s.conf.plans.length cp, .slice pd s.conf.doms.length cd, .int .i64 s.horizon, .slice ps s.streams.length cs, .slice pa s.arrivals.length ca] 30 (0, 0)) ∧ v.heap[v1.heap.size]? = some (.cells #[.int .i64 s.conf.frame, .int .i64 s.conf.epoch, .slice pp1 s.conf.plans.length cp1, .slice pd1 s.conf.doms.length cd1, .int .i64 s.horizon, .slice ps1 s.streams.length cs1, .slice pa1 s.arrivals.length ca1] 30 (0, 0)) ∧ ScrV v s (.slice pp1 s.conf.plans.length cp1) (.slice pd1 s.conf.doms.length cd1) (.slice ps1 s.streams.length cs1) (.slice pa1 s.arrivals.length ca1)) ⟨HX1.out.alloc _, block_ext (Ext.alloc (Ext.refl _) _) HB1.out, heap_alloc_new v1 _, HT1.out.ext (by repeat (first | exact Ext.refl _ | assumption | refine Ext.more ?_ _ | refine Ext.drew ?_ | refine Ext.drewN ?_ _ | refine Ext.alloc ?_ _ | refine Ext.setCell ?_ (by simp; try omega) _ | refine Ext.trans ?_ (by assumption)))⟩ ?_
  clear k0 k1 k2 k3 k4 k5 k6 HT1 HX1 HB1 HX0 HB0 p3
  rintro v2 ⟨hx2, hb2, ha2, ht2⟩
  have HX2 := hid hx2
  have HB2 := hid hb2
  have HA2 := hid ha2
  have HT2 := hid ht2
  clear hx2 hb2 ha2 ht2
  have hr0 : 0 ≤ n % ((allBytes s).length : Int) := Int.emod_nonneg _ (by omega)
  have hr1 : n % ((allBytes s).length : Int) < ((allBytes s).length : Int) := Int.emod_lt_of_pos _ hL0n
  have hr2 : n % ((allBytes s).length : Int) ≤ ((allBytes s).length : Int) := by omega
  obtain ⟨hn0, hn1⟩ := hn
  go_upto_region 10 with (fail)
  clear h1 h2 hL0
  refine (read_no v2 (scrOk_less HI.out HIN.out (k := (n % ((allBytes s).length : Int)).toNat) (by omega))).mono ?_
  rintro e v3 ⟨n1, hn1, rfl, hx3⟩
  have HX3 := hid hx3
  clear hx3 hr0 hr1 hr2 hL0n
  go_upto_region 10 with (fail)
  refine wp_forget (fun v => Ext v2 v) (HX3.out.alloc _) ?_
  clear HX3
  rintro v4 hx4
  have HX4 := hid (HX2.out.trans hx4)
  have hb4 := block_ext hx4 HB2.out
  have ha4 := block_ext hx4 HA2.out
  have HB4 := hid hb4
  have HA4 := hid ha4
  have HT4 := hid (HT2.out.ext hx4)
  clear hx4 HX2 HB2 HA2 HT2 hb4 ha4
  have hne := fun v w => run_neq_iface_nil (P := Tryz.prog) w 39 v Tryz.underlying32
  have hnn := fun w => run_neq_nil_nil' (P := Tryz.prog) w Tryz.underlying32
  have hee := fun v w => run_eql_iface_nil (P := Tryz.prog) w 39 v Tryz.underlying32
  have hen := fun w => run_eql_nil_nil' (P := Tryz.prog) w Tryz.underlying32
  cases m with
  | nil =>
    have hs0 : (str []).toList = [] := str_toList []
    go_wp2_with fail
    refine (HRD.out _).mono ?_
    rintro e v5 ⟨pp2, cp2, pd2, cd2, ps2, cs2, pa2, ca2, rfl, -, hx5⟩
    have hb5 := block_ext hx5 HB4.out
    have ha5 := block_ext hx5 HA4.out
    have HX5 := hid (HX4.out.trans hx5)
    have HT5 := hid (HT4.out.ext hx5)
    have HC5 := hid (HC.out.ext HX5.out)
    clear hx5 HX4 HB4 HA4 HT4
    have l1 := lt_of_block hb5
    have l2 := lt_of_block ha5
    have k0 := blk_cell hb5 0
    have k1 := blk_cell hb5 1
    have k2 := blk_cell hb5 2
    have k3 := blk_cell hb5 3
    have k4 := blk_cell hb5 4
    have k5 := blk_cell hb5 5
    have k6 := blk_cell hb5 6
    simp only [List.getElem?_toArray, List.getElem?_cons_zero, List.getElem?_cons_succ] at k0 k1 k2 k3 k4 k5 k6
    have t0 := blk_cell ha5 0
    have t1 := blk_cell ha5 1
    have t2 := blk_cell ha5 2
    have t3 := blk_cell ha5 3
    have t4 := blk_cell ha5 4
    have t5 := blk_cell ha5 5
    have t6 := blk_cell ha5 6
    simp only [List.getElem?_toArray, List.getElem?_cons_zero, List.getElem?_cons_succ] at t0 t1 t2 t3 t4 t5 t6
    clear hb5 ha5
    go_wp2_with (go_at_call 9; (with_reducible refine (sameScr_to (sameS_self s) _ _ _ _ _ _ _ _ _ (HC5.out.ext (by repeat (first | exact Ext.refl _ | assumption | refine Ext.more ?_ _ | refine Ext.drew ?_ | refine Ext.drewN ?_ _ | refine Ext.alloc ?_ _ | refine Ext.setCell ?_ (by simp; try omega) _ | refine Ext.trans ?_ (by assumption)))) (HT5.out.ext (by repeat (first | exact Ext.refl _ | assumption | refine Ext.more ?_ _ | refine Ext.drew ?_ | refine Ext.drewN ?_ _ | refine Ext.alloc ?_ _ | refine Ext.setCell ?_ (by simp; try omega) _ | refine Ext.trans ?_ (by assumption))))).yields ?_); intro p5)
    go_returns
    exact ⟨rfl, HX5.out.trans (by repeat (first | exact Ext.refl _ | assumption | refine Ext.more ?_ _ | refine Ext.drew ?_ | refine Ext.drewN ?_ _ | refine Ext.alloc ?_ _ | refine Ext.setCell ?_ (by simp; try omega) _ | refine Ext.trans ?_ (by assumption)))⟩
  | cons c m' =>
    have hs0 : (str (c :: m')).toList = c :: m' := str_toList _
    go_wp2_with fail
    refine (read_no v4 (scrOk_more HI.out HIN.out (c :: m') (by simp))).mono ?_
    rintro e v5 ⟨n2, hn2, rfl, hx5⟩
    have hb5 := block_ext hx5 HB4.out
    have ha5 := block_ext hx5 HA4.out
    have HX5 := hid (HX4.out.trans hx5)
    have HT5 := hid (HT4.out.ext hx5)
    have HC5 := hid (HC.out.ext HX5.out)
    clear hx5 HX4 HB4 HA4 HT4
    have l1 := lt_of_block hb5
    have l2 := lt_of_block ha5
    have k0 := blk_cell hb5 0
    have k1 := blk_cell hb5 1
    have k2 := blk_cell hb5 2
    have k3 := blk_cell hb5 3
    have k4 := blk_cell hb5 4
    have k5 := blk_cell hb5 5
    have k6 := blk_cell hb5 6
    simp only [List.getElem?_toArray, List.getElem?_cons_zero, List.getElem?_cons_succ] at k0 k1 k2 k3 k4 k5 k6
    have t0 := blk_cell ha5 0
    have t1 := blk_cell ha5 1
    have t2 := blk_cell ha5 2
    have t3 := blk_cell ha5 3
    have t4 := blk_cell ha5 4
    have t5 := blk_cell ha5 5
    have t6 := blk_cell ha5 6
    simp only [List.getElem?_toArray, List.getElem?_cons_zero, List.getElem?_cons_succ] at t0 t1 t2 t3 t4 t5 t6
    clear hb5 ha5
    go_wp2_with (go_at_call 9; (with_reducible refine (sameScr_to (sameS_self s) _ _ _ _ _ _ _ _ _ (HC5.out.ext (by repeat (first | exact Ext.refl _ | assumption | refine Ext.more ?_ _ | refine Ext.drew ?_ | refine Ext.drewN ?_ _ | refine Ext.alloc ?_ _ | refine Ext.setCell ?_ (by simp; try omega) _ | refine Ext.trans ?_ (by assumption)))) (HT5.out.ext (by repeat (first | exact Ext.refl _ | assumption | refine Ext.more ?_ _ | refine Ext.drew ?_ | refine Ext.drewN ?_ _ | refine Ext.alloc ?_ _ | refine Ext.setCell ?_ (by simp; try omega) _ | refine Ext.trans ?_ (by assumption))))).yields ?_); intro p5)
    go_returns
    exact ⟨rfl, HX5.out.trans (by repeat (first | exact Ext.refl _ | assumption | refine Ext.more ?_ _ | refine Ext.drew ?_ | refine Ext.drewN ?_ _ | refine Ext.alloc ?_ _ | refine Ext.setCell ?_ (by simp; try omega) _ | refine Ext.trans ?_ (by assumption)))⟩

set_option linter.unusedVariables false in
set_option maxRecDepth 100000 in
theorem lifted (os : Os) (started : os.Started) (H : Type) (enc : TypeId × Value → H) :
    ReturnsInHanded {} Tryz.checked os 4 .any (Rows.scriptBackSpec.pre6 enc Tryz.prog Tryz.f4 Rows.scriptBackRow.domain false) (Rows.scriptBackSpec.post enc Tryz.prog Tryz.f4 false true false false) := by
  refine returnsInHanded_of_change (C := Tryz.checked) Own.own started (by kernel_rfl) Tryz.func4
    (ChangeSpec.witness6 (enc := enc) (C := Tryz.checked) false ⟨#[], #[.agg #[.int .i64 0, .int .i64 0, .slice none 0 0, .slice none 0 0, .int .i64 0, .slice none 0 0, .slice none 0 0], .int .u16 0, .string ByteArray.empty], []⟩ 8 (by kernel_rfl) (by kernel_rfl) (by kernel_rfl) (by kernel_rfl)) ?_
  intro W base args ds gs before hval0 hW hcnd _
  have hval : ∀ (j : Nat) t v, Tryz.f4.params[j]? = some t → args[j]? = some v → Value.okWide Tryz.prog W .any base t v := hval0
  have hW' := hW
  obtain ⟨p, q, hA0, hV, rfl, hfz, hnd⟩ := hW
  have hA : DataW.TrodAll enc Tryz.prog W 0 (fun _ => true) true Tryz.f4.params.toList args.toList ds p := hA0
  rw [Tryz.params4] at hA hval
  obtain ⟨v0, vs0, d0, ds0, p0, q0, hargs, rfl, rfl, h0, r0⟩ := trodAll_cons hA
  obtain ⟨v1, vs1, d1, ds1, p1, q1, rfl, rfl, rfl, h1, r1⟩ := trodAll_cons r0
  obtain ⟨v2, vs2, d2, ds2, p2, q2, rfl, rfl, rfl, h2, r2⟩ := trodAll_cons r1
  obtain ⟨rfl, rfl, rfl⟩ := trodAll_nil r2
  obtain rfl : args = #[v0, v1, v2] := by cases args; simp_all
  obtain ⟨rfl, rfl⟩ := trodVars_none hV
  have k0 := h0
  have lt0 : ∀ x ∈ p0, x.block < W.heap.size := by obtain ⟨m, hm⟩ := k0; exact DataW.trod_lt m _ _ _ hm
  have k1 := h1
  have lt1 : ∀ x ∈ p1, x.block < W.heap.size := by obtain ⟨m, hm⟩ := k1; exact DataW.trod_lt m _ _ _ hm
  have k2 := h2
  have lt2 : ∀ x ∈ p2, x.block < W.heap.size := by obtain ⟨m, hm⟩ := k2; exact DataW.trod_lt m _ _ _ hm
  obtain ⟨s, pv, dv, sv, av, rfl, hs⟩ := Own.open_scr (hval 0 30 v0 rfl rfl) (by exact h0)
  obtain ⟨n, rfl, rfl, rfl, wn⟩ := open_int Tryz.underlying41 (hval 1 41 v1 rfl rfl) h1
  obtain ⟨m, rfl, rfl, rfl, wm⟩ := Go.ChangeMaps.open_string Tryz.underlying9 (hval 2 9 v2 rfl rfl) h2
  have bn := bounds_u16 wn
  obtain ⟨sl, rfl⟩ : ∃ sl, m = str sl := ⟨m.data.toList, (str_data m).symm⟩
  clear hA0 hval0
  refine (walk s pv dv sv av n sl W (by omega) hs).mono fun e W' ⟨he, hx⟩ => ?_
  subst he
  exact ⟨_, rfl, _, _, _, [], _, [], hW', trodAll_mk1 (shut_bool Tryz.underlying4 _), (trodAll_cons_mk (Below.trod Own.laidOut (by kernel_rfl) (of_decide_eq_true (by kernel_rfl)) k0 hx.below lt0) (trodAll_cons_mk (Below.trod Own.laidOut (by kernel_rfl) (of_decide_eq_true (by kernel_rfl)) k1 hx.below lt1) (trodAll_cons_mk (Below.trod Own.laidOut (by kernel_rfl) (of_decide_eq_true (by kernel_rfl)) k2 hx.below lt2) trodAll_mk0))), rfl, hx.below.frame _, fun h => by cases h⟩

theorem proved : Rows.ScriptBackSaid :=
  OpenClaim.holds_of_wide 4 Tryz.f4 rfl rfl rfl rfl rfl rfl rfl ⟨rfl, rfl, rfl, rfl, rfl⟩ rfl rfl rfl rfl rfl (by kernel_rfl) Tryz.func4 (by kernel_rfl)
    (of_decide_eq_true (by kernel_rfl)) (by unfold Func.isWrapper; first | (rw [if_pos (by decide +kernel)]; kernel_rfl) | (rw [if_neg (by decide +kernel)]; exact ⟨rfl, rfl⟩))
    (fun os started H enc _ => lifted os started H enc)

end scriptBack
end Go.Proofs.YtbllibgddiiboaaGreat

namespace Go.Proofs.YtbllibgddiiboaaGreat
open Go.RowKit

/-- The way to the switch: what b is. -/
structure Spoilt (w0 w : World) (g cap : Nat) (bs : List UInt8) : Prop where
  ext : Ext w0 w
  new : w0.heap.size ≤ g
  lt : g < w.heap.size
  fits : bs.length ≤ cap
  cell : ∀ j (hj : j < bs.length), w.cell? ⟨g, j, none⟩ = some (bcell bs[j])
  spare : ∀ j, j < cap → (w.cell? ⟨g, j, none⟩).isSome = true ∧ w.frozen? ⟨g, j, none⟩ = false

theorem spoilt_of {w0 w : World} (bs : List UInt8) (cap : Nat) (hx : Ext w0 w) (hcap : bs.length ≤ cap) :
    Spoilt w0 (w.drew.alloc (.cells (bytesRow (str bs) cap) 5 ((bytesRow (str bs) cap).size, (bytesRow (str bs) cap).size + 1))) w.heap.size cap bs := by
  have hsz : (bytesRow (str bs) cap).size = cap := by
    have : (str bs).data.size = bs.length := by simp [str]
    simp only [bytesRow, Array.size_append, Array.size_map, Array.size_replicate, str_size]; omega
  refine ⟨hx.drew.alloc _, hx.size, by simp, hcap, fun j hj => ?_, fun j hj => ⟨?_, ?_⟩⟩
  · rw [show w.heap.size = w.drew.heap.size from rfl, World.cell?_alloc_mark, bytesRow_at _ _ _ (by simpa [str] using hj)]
    simp [str, bcell]
  · rw [show w.heap.size = w.drew.heap.size from rfl, World.cell?_alloc_mark]
    simp [hsz, hj]
  · rw [show w.heap.size = w.drew.heap.size from rfl, World.frozen?_alloc_mark]
    simp [hsz]; omega

theorem spoil (bs : List UInt8) (w : World) : ∃ g cap W, (convert 9 46 (.string (str bs))).run Tryz.prog w = .ok (.slice (some ⟨g, 0, none⟩) bs.length cap) W ∧ Spoilt w W g cap bs := by
  have h := run_bytes_of_string (P := Tryz.prog) w 9 46 5 (str bs) Tryz.underlying9 Tryz.underlying46 Tryz.underlying5
  have hge := grownCap_ge w (str bs).size 0 5
  rw [str_size] at h hge
  exact ⟨_, _, _, h, spoilt_of bs _ (Ext.refl _) hge⟩
theorem Spoilt.back {w0 w : World} {g cap : Nat} {bs : List UInt8} (h : Spoilt w0 w g cap bs) (k : Nat) (hk : k ≤ bs.length) :
    (convert 46 9 (.slice (some ⟨g, 0, none⟩) k cap)).run Tryz.prog w = .ok (.string (str (bs.take k))) w := by
  have := run_string_of_bytes (P := Tryz.prog) w 46 9 5 ⟨g, 0, none⟩ cap (bs.take k) Tryz.underlying46 Tryz.underlying5 Tryz.underlying9 (fun j hj => by
    rw [List.length_take] at hj
    rw [add_add, Nat.zero_add, h.cell j (by omega)]
    simp [bcell])
  rwa [List.length_take, Nat.min_eq_left hk] at this

theorem Spoilt.set {w0 w : World} {g cap : Nat} {bs : List UInt8} (h : Spoilt w0 w g cap bs) {k : Nat} (hk : k < bs.length) (c : UInt8) : Spoilt w0 (w.setCell ⟨g, k, none⟩ (.int .u8 c.toNat)) g cap (bs.set k c) := by
  have hf := h.fits
  have hsome : ∀ j, j < cap → (w.cell? ⟨g, j, none⟩).isSome = true := fun j hj => (h.spare j hj).1
  refine ⟨h.ext.setCell h.new _, h.new, by simpa [World.setCell] using h.lt, by simpa using hf, fun j hj => ?_, fun j hj => ⟨?_, ?_⟩⟩
  · simp only [List.length_set] at hj
    by_cases he : j = k
    · subst he
      obtain ⟨v', hv'⟩ := Option.isSome_iff_exists.1 (hsome j (by omega))
      simp [bcell, hv', go_sem]
    · have hc := h.cell j hj
      rw [List.getElem_set_ne (Ne.symm he), ← hc]
      exact World.cell?_setCell_other _ _ _ _ (fun h => he (by cases h; rfl))
  · by_cases he : j = k
    · subst he
      obtain ⟨v', hv'⟩ := Option.isSome_iff_exists.1 (hsome j hj)
      simp [hv', go_sem]
    · have := hsome j hj
      rw [← this]
      congr 1
      exact World.cell?_setCell_other _ _ _ _ (fun h => he (by cases h; rfl))
  · rw [← (h.spare j hj).2]
    exact World.frozen?_setCell ..
theorem xor_fin : ∀ x c : Fin 256, bits BinOp.xor IntKind.u8 (x.val : Int) (c.val : Int) = ((x.val ^^^ c.val : Nat) : Int) := by decide +kernel
theorem xor8 (x c : UInt8) : bits BinOp.xor IntKind.u8 (x.toNat : Int) (c.toNat : Int) = ((x ^^^ c).toNat : Int) := by
  have := xor_fin ⟨x.toNat, x.toNat_lt⟩ ⟨c.toNat, c.toNat_lt⟩
  rw [this, UInt8.toNat_xor]
end Go.Proofs.YtbllibgddiiboaaGreat

namespace Go.Proofs.YtbllibgddiiboaaGreat
open Go.ChangeShapes Go.WideShapes Go.ChangeAt Go.RowKit Go.Joins Go.Deep
set_option linter.unusedSimpArgs false

theorem Spoilt.drew {w0 w : World} {g cap : Nat} {bs : List UInt8} (h : Spoilt w0 w g cap bs) : Spoilt w0 w.drew g cap bs :=
  ⟨h.ext.drew, h.new, h.lt, h.fits, h.cell, h.spare⟩
theorem Spoilt.back_in {w0 w z : World} {g cap : Nat} {bs : List UInt8} (h : Spoilt w0 w g cap bs) (hz : Ext w z) {n : Nat} (hn : n = bs.length) :
    (convert 46 9 (.slice (some ⟨g, 0, none⟩) n cap)).run Tryz.prog z = .ok (.string (str bs)) z := by
  rw [hn]
  exact run_string_of_bytes (P := Tryz.prog) z 46 9 5 ⟨g, 0, none⟩ cap bs Tryz.underlying46 Tryz.underlying5 Tryz.underlying9 (fun j hj => by
    rw [add_add, Nat.zero_add, hz.cell (h.cell j hj)]
    simp [bcell])

namespace scriptOnce
theorem rIsScr_to {s : Scr} {n : Nat} (e : isScr s = n) (w : World) (pv dv sv av : Value) (hc : ScrV w s pv dv sv av) (hr : ∀ d ∈ s.conf.doms, ∀ r ∈ d.routes, r.length ≤ 300) :
    Calls Tryz.prog 12 #[scrV s pv dv sv av] w (Yields w (.int .i64 n)) := e ▸ rIsScr_any w s pv dv sv av hc hr
theorem set_same {l : List UInt8} {k : Nat} {c : UInt8} (hk : k < l.length) (h : l.set k c = l) : l[k] = c := by
  have := congrArg (fun m : List UInt8 => m[k]?) h
  simp [hk] at this
  exact this.symm
theorem xor_same {x c : UInt8} (h : x = x ^^^ c) : c = 0 := by
  have h2 : x ^^^ (x ^^^ c) = x ^^^ x := by rw [← h]
  rw [← UInt8.xor_assoc, UInt8.xor_self, UInt8.zero_xor] at h2
  exact h2

set_option maxRecDepth 100000 in
set_option maxHeartbeats 8000000 in
theorem walk (s : Scr) (pv dv sv av : Value) (n : Int) (c : UInt8) (w : World) (hn : 0 ≤ n ∧ n ≤ 65535) (hc : ScrV w s pv dv sv av) :
    Calls Tryz.prog 5 #[scrV s pv dv sv av, .int .u16 n, .int .u8 c.toNat] w (Yields w (.bool true)) := by
  obtain ⟨pp, cp, rfl, -, -⟩ := hc.conf.plans.shape
  obtain ⟨pd, cd, rfl, -, -⟩ := hc.conf.doms.shape
  obtain ⟨ps, cs, rfl, -, -⟩ := hc.streams.shape
  obtain ⟨pa, ca, rfl, -, -⟩ := hc.arrivals.shape
  have HC := hid hc
  clear hc
  go_enter Tryz.func5, Tryz.ntmps5
  cases hw : wideS s 5000
  case true =>
    have HW := hid hw
    clear hw
    go_wp2_with (first | (go_at_call 6; refine (known4_any _).yields ?_; intro p0) | (go_at_call 11; (with_reducible refine (scriptBack.wideScr_to HW.out _ _ _ _ _ (HC.out.ext (by repeat (first | exact Ext.refl _ | assumption | refine Ext.more ?_ _ | refine Ext.drew ?_ | refine Ext.drewN ?_ _ | refine Ext.alloc ?_ _ | refine Ext.setCell ?_ (by simp; try omega) _ | refine Ext.trans ?_ (by assumption))))).yields ?_); intro p1))
    go_returns
    exact ⟨rfl, (by repeat (first | exact Ext.refl _ | assumption | refine Ext.more ?_ _ | refine Ext.drew ?_ | refine Ext.drewN ?_ _ | refine Ext.alloc ?_ _ | refine Ext.setCell ?_ (by simp; try omega) _ | refine Ext.trans ?_ (by assumption)))⟩
  have HW := hid hw
  have HR := hid (wide_routes20 (wideS_conf hw).1)
  have HR3 : Hid (∀ d ∈ s.conf.doms, ∀ r ∈ d.routes, r.length ≤ 300) := fun d hd r hr => by have := HR.out d hd r hr; omega
  clear hw
  by_cases hi : isScr s = 0
  case neg =>
    have h1 : (((isScr s : Nat) : Int) == 0) = false := by simp; omega
    have h2 : (((isScr s : Nat) : Int) != 0) = true := by simp; omega
    clear hi
    go_wp2_with (first | (go_at_call 6; refine (known4_any _).yields ?_; intro p0) | (go_at_call 11; (with_reducible refine (scriptBack.wideScr_to HW.out _ _ _ _ _ (HC.out.ext (by repeat (first | exact Ext.refl _ | assumption | refine Ext.more ?_ _ | refine Ext.drew ?_ | refine Ext.drewN ?_ _ | refine Ext.alloc ?_ _ | refine Ext.setCell ?_ (by simp; try omega) _ | refine Ext.trans ?_ (by assumption))))).yields ?_); intro p1) | (go_at_call 12; (with_reducible refine (rIsScr_any _ _ _ _ _ _ (HC.out.ext (by repeat (first | exact Ext.refl _ | assumption | refine Ext.more ?_ _ | refine Ext.drew ?_ | refine Ext.drewN ?_ _ | refine Ext.alloc ?_ _ | refine Ext.setCell ?_ (by simp; try omega) _ | refine Ext.trans ?_ (by assumption)))) HR3.out).yields ?_); intro p2))
    go_returns
    exact ⟨rfl, (by repeat (first | exact Ext.refl _ | assumption | refine Ext.more ?_ _ | refine Ext.drew ?_ | refine Ext.drewN ?_ _ | refine Ext.alloc ?_ _ | refine Ext.setCell ?_ (by simp; try omega) _ | refine Ext.trans ?_ (by assumption)))⟩
  have HI := hid hi
  have h1 : (((0 : Nat) : Int) == 0) = true := by simp
  have h2 : (((0 : Nat) : Int) != 0) = false := by simp
  clear hi
  have HIN := hid (scriptBack.scr_in HC.out HI.out)
  have hbl := allBytes_length HI.out HIN.out HR.out
  have hbp := allBytes_pos s
  go_upto_region 5 with (first | (go_at_call 6; refine (known4_any _).yields ?_; intro p0) | (go_at_call 11; (with_reducible refine (scriptBack.wideScr_to HW.out _ _ _ _ _ (HC.out.ext (by repeat (first | exact Ext.refl _ | assumption | refine Ext.more ?_ _ | refine Ext.drew ?_ | refine Ext.drewN ?_ _ | refine Ext.alloc ?_ _ | refine Ext.setCell ?_ (by simp; try omega) _ | refine Ext.trans ?_ (by assumption))))).yields ?_); intro p1) | (go_at_call 12; (with_reducible refine (rIsScr_to HI.out _ _ _ _ _ (HC.out.ext (by repeat (first | exact Ext.refl _ | assumption | refine Ext.more ?_ _ | refine Ext.drew ?_ | refine Ext.drewN ?_ _ | refine Ext.alloc ?_ _ | refine Ext.setCell ?_ (by simp; try omega) _ | refine Ext.trans ?_ (by assumption)))) HR3.out).yields ?_); intro p2))
  refine wp_forget (fun v => Ext w v ∧ v.heap[w.heap.size]? = some (.cells #[.int .i64 s.conf.frame, .int .i64 s.conf.epoch, .slice pp s.conf.plans.length cp, .slice pd s.conf.doms.length cd, .int .i64 s.horizon, .slice ps s.streams.length cs, .slice pa s.arrivals.length ca] 30 (0, 0))) ⟨(by repeat (first | exact Ext.refl _ | assumption | refine Ext.more ?_ _ | refine Ext.drew ?_ | refine Ext.drewN ?_ _ | refine Ext.alloc ?_ _ | refine Ext.setCell ?_ (by simp; try omega) _ | refine Ext.trans ?_ (by assumption))), block_ext (ext_more _ _) (heap_alloc_new w _)⟩ ?_
  clear p0 p1 p2 h1 h2
  rintro v0 ⟨hx0, hb0⟩
  have HX0 := hid hx0
  have HB0 := hid hb0
  have k0 := blk_cell hb0 0
  have k1 := blk_cell hb0 1
  have k2 := blk_cell hb0 2
  have k3 := blk_cell hb0 3
  have k4 := blk_cell hb0 4
  have k5 := blk_cell hb0 5
  have k6 := blk_cell hb0 6
  simp only [List.getElem?_toArray, List.getElem?_cons_zero, List.getElem?_cons_succ] at k0 k1 k2 k3 k4 k5 k6
  clear hx0 hb0
  obtain ⟨L, hL⟩ : ∃ L, L = allBytes s := ⟨_, rfl⟩
  have HLE := hid hL
  have hB := scrBytes_yes v0 s _ _ _ _ (HC.out.ext HX0.out) HI.out HIN.out (by omega)
  rw [← hL] at hB hbl hbp
  have HBY := hid hB
  clear hB hL
  obtain ⟨kk, hkk⟩ : ∃ kk : Nat, (kk : Int) = n % (L.length : Int) := ⟨(n % (L.length : Int)).toNat, Int.toNat_of_nonneg (Int.emod_nonneg _ (by omega))⟩
  have hkl : kk < L.length := by have := Int.emod_lt_of_pos n (show (0 : Int) < (L.length : Int) by omega); omega
  have hke : n % (L.length : Int) = (kk : Int) := hkk.symm
  clear hkk
  have HKL := hid hkl
  have HBL := hid hbl
  have HBP := hid hbp
  have hL0 : ((L.length : Int) == 0) = false := beq_eq_false_iff_ne.2 (by omega)
  go_upto_region 8 with (first | (go_at_call 13; refine HBY.out.yields ?_; intro p3; obtain ⟨g, cap, W, hconv, hsp⟩ := spoil L (more v0 p3); have HSP := hid hsp; clear hsp))
  have hkf := HSP.out.fits
  obtain ⟨x, hx⟩ : ∃ x, x = L[kk]'hkl := ⟨_, rfl⟩
  have hcell : W.cell? ⟨g, kk, none⟩ = some (.int .u8 (x.toNat : Int)) := by rw [hx]; exact HSP.out.cell kk hkl
  have hsome := (HSP.out.spare kk (by omega)).1
  have hfree := (HSP.out.spare kk (by omega)).2
  have HCELL := hid hcell
  have HX := hid hx
  have h0k : (0 : Int) ≤ (kk : Int) := by omega
  have hk1 : (kk : Int) < (L.length : Int) := by omega
  have hnat : (kk : Int).toNat = kk := rfl
  have hcv : IntKind.i64.wrap n = n := IntWalk.i64_in _ (by omega)
  have hket : n.tmod (L.length : Int) = (kk : Int) := by rw [Int.tmod_eq_emod_of_nonneg hn.1]; exact hke
  have hcv2 : IntKind.i64.wrap (kk : Int) = kk := IntWalk.i64_in _ (by omega)
  have hx8 := xor8 x c
  have hLne : ¬ (L = []) := fun h => by rw [h] at hkl; simp at hkl
  clear hcell hx hkf
  refine wp_region_T 17 1 (fun u => u.cell? ⟨g, kk, none⟩ = some (.int .u8 (x.toNat : Int))) (by kernel_rfl) (by kernel_rfl) ?_
  have HSS : W.drew.cell? ⟨g, kk, none⟩ = some (.int .u8 (x.toNat : Int)) := HCELL.out
  refine wpT_take 0 (v := ?v1) rfl (by kernel_rfl) (by kernel_rfl) (by kernel_rfl) (by kernel_rfl) (by intro _ _ _ h; first | exact h | (obtain ⟨h, _⟩ := h; cases h)) (by rfl) HSS ?hy1 ?_
  case hy1 => (intro u hu; go_simp; first | done | (with_reducible rfl))
  (try simp only [Act.put, List.setIfInBounds_toArray, List.set_cons_zero, List.set_cons_succ])
  refine wpT_take 1 (v := ?v2) rfl (by kernel_rfl) (by kernel_rfl) (by kernel_rfl) (by kernel_rfl) (by intro _ _ _ h; first | exact h | (obtain ⟨h, _⟩ := h; cases h)) (by rfl) HSS ?hy2 ?_
  case hy2 => (intro u hu; go_simp; first | done | (with_reducible rfl))
  (try simp only [Act.put, List.setIfInBounds_toArray, List.set_cons_zero, List.set_cons_succ])
  refine wpT_take 2 (v := ?v3) rfl (by kernel_rfl) (by kernel_rfl) (by kernel_rfl) (by kernel_rfl) (by intro _ _ _ h; first | exact h | (obtain ⟨h, _⟩ := h; cases h)) (by rfl) HSS ?hy3 ?_
  case hy3 => (intro u hu; go_simp; first | done | (with_reducible rfl))
  (try simp only [Act.put, List.setIfInBounds_toArray, List.set_cons_zero, List.set_cons_succ])
  refine wpT_take 3 (v := ?v4) rfl (by kernel_rfl) (by kernel_rfl) (by kernel_rfl) (by kernel_rfl) (by intro _ _ _ h; first | exact h | (obtain ⟨h, _⟩ := h; cases h)) (by rfl) HSS ?hy4 ?_
  case hy4 => (intro u hu; go_simp; first | done | (with_reducible rfl))
  (try simp only [Act.put, List.setIfInBounds_toArray, List.set_cons_zero, List.set_cons_succ])
  refine wpT_take 4 (v := ?v5) rfl (by kernel_rfl) (by kernel_rfl) (by kernel_rfl) (by kernel_rfl) (by intro _ _ _ h; first | exact h | (obtain ⟨h, _⟩ := h; cases h)) (by rfl) HSS ?hy5 ?_
  case hy5 => (intro u hu; go_simp; first | done | (with_reducible rfl))
  (try simp only [Act.put, List.setIfInBounds_toArray, List.set_cons_zero, List.set_cons_succ])
  refine wpT_take 5 (v := ?v6) rfl (by kernel_rfl) (by kernel_rfl) (by kernel_rfl) (by kernel_rfl) (by intro _ _ _ h; first | exact h | (obtain ⟨h, _⟩ := h; cases h)) (by rfl) HSS ?hy6 ?_
  case hy6 => (intro u hu; go_simp; first | done | (with_reducible rfl))
  (try simp only [Act.put, List.setIfInBounds_toArray, List.set_cons_zero, List.set_cons_succ])
  refine wpT_take 6 (v := ?v7) rfl (by kernel_rfl) (by kernel_rfl) (by kernel_rfl) (by kernel_rfl) (by intro _ _ _ h; first | exact h | (obtain ⟨h, _⟩ := h; cases h)) (by rfl) HSS ?hy7 ?_
  case hy7 => (intro u hu; go_simp; first | done | (with_reducible rfl))
  (try simp only [Act.put, List.setIfInBounds_toArray, List.set_cons_zero, List.set_cons_succ])
  refine wpT_take 7 (v := ?v8) rfl (by kernel_rfl) (by kernel_rfl) (by kernel_rfl) (by kernel_rfl) (by intro _ _ _ h; first | exact h | (obtain ⟨h, _⟩ := h; cases h)) (by rfl) HSS ?hy8 ?_
  case hy8 => (intro u hu; go_simp; first | done | (with_reducible rfl))
  (try simp only [Act.put, List.setIfInBounds_toArray, List.set_cons_zero, List.set_cons_succ])
  refine wpT_take 8 (v := ?v9) rfl (by kernel_rfl) (by kernel_rfl) (by kernel_rfl) (by kernel_rfl) (by intro _ _ _ h; first | exact h | (obtain ⟨h, _⟩ := h; cases h)) (by rfl) HSS ?hy9 ?_
  case hy9 => (intro u hu; go_simp; first | done | (with_reducible rfl))
  (try simp only [Act.put, List.setIfInBounds_toArray, List.set_cons_zero, List.set_cons_succ])
  refine wpT_take 9 (v := ?v10) rfl (by kernel_rfl) (by kernel_rfl) (by kernel_rfl) (by kernel_rfl) (by intro _ _ _ h; first | exact h | (obtain ⟨h, _⟩ := h; cases h)) (by rfl) HSS ?hy10 ?_
  case hy10 => (intro u hu; go_simp; first | done | (with_reducible rfl))
  (try simp only [Act.put, List.setIfInBounds_toArray, List.set_cons_zero, List.set_cons_succ])
  refine wpT_take 10 (v := ?v11) rfl (by kernel_rfl) (by kernel_rfl) (by kernel_rfl) (by kernel_rfl) (by intro _ _ _ h; first | exact h | (obtain ⟨h, _⟩ := h; cases h)) (by rfl) HSS ?hy11 ?_
  case hy11 => (intro u hu; go_simp; first | done | (with_reducible rfl))
  (try simp only [Act.put, List.setIfInBounds_toArray, List.set_cons_zero, List.set_cons_succ])
  refine wpT_take 11 (v := ?v12) rfl (by kernel_rfl) (by kernel_rfl) (by kernel_rfl) (by kernel_rfl) (by intro _ _ _ h; first | exact h | (obtain ⟨h, _⟩ := h; cases h)) (by rfl) HSS ?hy12 ?_
  case hy12 => (intro u hu; go_simp; first | done | (with_reducible rfl))
  (try simp only [Act.put, List.setIfInBounds_toArray, List.set_cons_zero, List.set_cons_succ])
  refine wpT_take 12 (v := ?v13) rfl (by kernel_rfl) (by kernel_rfl) (by kernel_rfl) (by kernel_rfl) (by intro _ _ _ h; first | exact h | (obtain ⟨h, _⟩ := h; cases h)) (by rfl) HSS ?hy13 ?_
  case hy13 => (intro u hu; go_simp; first | done | (with_reducible rfl))
  (try simp only [Act.put, List.setIfInBounds_toArray, List.set_cons_zero, List.set_cons_succ])
  refine wpT_take 13 (v := ?v14) rfl (by kernel_rfl) (by kernel_rfl) (by kernel_rfl) (by kernel_rfl) (by intro _ _ _ h; first | exact h | (obtain ⟨h, _⟩ := h; cases h)) (by rfl) HSS ?hy14 ?_
  case hy14 => (intro u hu; go_simp; first | done | (with_reducible rfl))
  (try simp only [Act.put, List.setIfInBounds_toArray, List.set_cons_zero, List.set_cons_succ])
  refine wpT_take 14 (v := ?v15) rfl (by kernel_rfl) (by kernel_rfl) (by kernel_rfl) (by kernel_rfl) (by intro _ _ _ h; first | exact h | (obtain ⟨h, _⟩ := h; cases h)) (by rfl) HSS ?hy15 ?_
  case hy15 => (intro u hu; go_simp; first | done | (with_reducible rfl))
  (try simp only [Act.put, List.setIfInBounds_toArray, List.set_cons_zero, List.set_cons_succ])
  refine wpT_take 15 (v := ?v16) rfl (by kernel_rfl) (by kernel_rfl) (by kernel_rfl) (by kernel_rfl) (by intro _ _ _ h; first | exact h | (obtain ⟨h, _⟩ := h; cases h)) (by rfl) HSS ?hy16 ?_
  case hy16 => (intro u hu; go_simp; first | done | (with_reducible rfl))
  (try simp only [Act.put, List.setIfInBounds_toArray, List.set_cons_zero, List.set_cons_succ])
  refine wpT_take 16 (v := ?v17) rfl (by kernel_rfl) (by kernel_rfl) (by kernel_rfl) (by kernel_rfl) (by intro _ _ _ h; first | exact h | (obtain ⟨h, _⟩ := h; cases h)) (by rfl) HSS ?hy17 ?_
  case hy17 => (intro u hu; go_simp; first | done | (with_reducible rfl))
  (try simp only [Act.put, List.setIfInBounds_toArray, List.set_cons_zero, List.set_cons_succ])
  refine wpT_done (by kernel_rfl) ?_
  refine wpAny_one 17 rfl (by kernel_rfl) (by rfl) (fun K' hK => ?_)
  go_simp
  refine hK.out _ _ ?_
  (try simp only [Act.put, List.setIfInBounds_toArray, List.set_cons_zero, List.set_cons_succ])
  refine wpAny_done (by kernel_rfl) ?_ _
  refine ‹∀ (a : Act) (w : World), Code.wp _ _ _ a w → _› _ _ ?_
  obtain ⟨M, hM⟩ : ∃ M, M = L.set kk (x ^^^ c) := ⟨_, rfl⟩
  refine wp_forget (fun y => Spoilt (more v0 p3) y g cap M) (by rw [hM]; have h := (HSP.out.set HKL.out (x ^^^ c)).drew; rwa [UInt8.toNat_xor] at h) ?_
  rintro y hsp2
  have hml : M.length = L.length := by rw [hM]; simp
  have hnl : L.length = M.length := hml.symm
  have hkl := HKL.out
  have hsame : M = L ↔ c = 0 := by
    have hx := HX.out
    refine ⟨fun h => ?_, fun h => ?_⟩
    · rw [hM] at h
      exact xor_same (hx.trans (set_same hkl h))
    · rw [hM, h, UInt8.xor_zero, hx, List.set_getElem_self]
  have HSAME := hid hsame
  have hokl : scrOk L = true := by rw [HLE.out]; exact scrOk_bytes HI.out HIN.out (by have := HBL.out; rw [HLE.out] at this; exact this)
  have hcv3 : ∀ z, Ext y z → (convert 46 9 (.slice (some ⟨g, 0, none⟩) L.length cap)).run Tryz.prog z = .ok (.string (str M)) z := fun z hz => hsp2.back_in hz hnl
  have HCV := hid hcv3
  have hcy := hcv3 y (Ext.refl _)
  have HXY := hid (HX0.out.trans ((ext_more v0 p3).trans hsp2.ext))
  have hby := block_ext ((ext_more v0 p3).trans hsp2.ext) HB0.out
  have HBY2 := hid hby
  have HML := hid hml
  clear hml hnl
  clear hsome hfree hx8 hcv hcv2 hket hke hnat h0k hk1 HCELL HSS hK K' hcv3 hsame hby k0 k1 k2 k3 k4 k5 k6
  have hne := fun v w => run_neq_iface_nil (P := Tryz.prog) w 39 v Tryz.underlying32
  have hnn := fun w => run_neq_nil_nil' (P := Tryz.prog) w Tryz.underlying32
  have hee := fun v w => run_eql_iface_nil (P := Tryz.prog) w 39 v Tryz.underlying32
  have hen := fun w => run_eql_nil_nil' (P := Tryz.prog) w Tryz.underlying32
  clear hM
  cases hok : scrOk M with
  | false =>
    have hc0 : c ≠ 0 := fun h => by
      rw [HSAME.out.2 h, hokl] at hok
      cases hok
    have hcn : c.toNat ≠ 0 := fun h => hc0 (UInt8.toNat_inj.1 (by simpa using h))
    have hcb : ((c.toNat : Int) != 0) = true := by simpa using hcn
    go_upto_region 10 with (go_at_call 7; refine (read_no _ hok).mono ?_; rintro e v3 ⟨n1, hn1, rfl, hx3⟩; have HX3 := hid hx3; clear hx3)
    ((first | refine wp_region_more (by kernel_rfl) (by kernel_rfl) ?_ | refine wp_region_ext (by kernel_rfl) (by kernel_rfl) ?_); (try dsimp only [append_cons', append_nil']); (repeat (go_big_quiet_step ((fail)))); refine wpQuiet_nil ?_; rintro _ ⟨pq, rfl⟩)
    go_wp2
    go_returns
    exact ⟨rfl, HXY.out.trans (HX3.out.trans (by repeat (first | exact Ext.refl _ | assumption | refine Ext.more ?_ _ | refine Ext.drew ?_ | refine Ext.drewN ?_ _ | refine Ext.alloc ?_ _ | refine Ext.setCell ?_ (by simp; try omega) _ | refine Ext.trans ?_ (by assumption))))⟩
  | true =>
    obtain ⟨q1, q2, q3, q4⟩ := scrOk_known hok
    have hrd := read_ok y hok
    obtain ⟨t, ht⟩ : ∃ t, t = (scrR ⟨M, 0⟩).1 := ⟨_, rfl⟩
    rw [← ht] at q1 q2 q3 q4 hrd
    have HRD := hid hrd
    have h1 : sameS s t = true ↔ c = 0 := by
      rw [sameS_iff, ← HSAME.out]
      refine ⟨fun h => by rw [← q3, ← h, ← HLE.out], fun h => ?_⟩
      exact (scr_prefix HI.out HIN.out q1 q2 (m := []) (by rw [q3, List.append_nil, h, HLE.out])).1
    obtain ⟨r, hr1, hr2⟩ : ∃ r : Bool, sameS s t = r ∧ ((c.toNat : Int) == 0) = r := by
      by_cases hz : c = 0
      · exact ⟨true, h1.2 hz, by rw [hz]; rfl⟩
      · refine ⟨false, Bool.eq_false_iff.2 (fun h => hz (h1.1 h)), beq_eq_false_iff_ne.2 (fun h => hz (UInt8.toNat_inj.1 (by simpa using h)))⟩
    have HSS := hid hr1
    have HBT : Hid (∀ z pv dv sv av, ScrV z t pv dv sv av → Calls Tryz.prog 13 #[scrV t pv dv sv av] z (Yields z (.string (str M)))) := fun z pv dv sv av h => by
      have := scrBytes_yes z t pv dv sv av h q1 q2 (by have := HBL.out; have := HML.out; rw [q3]; omega)
      rwa [q3] at this
    clear h1 hr1 hrd q1 q2 q3 q4 ht
    go_upto_region 10 with (go_at_call 7; refine HRD.out.mono ?_; rintro e v1 ⟨pp1, cp1, pd1, cd1, ps1, cs1, pa1, ca1, rfl, ht1, hx1⟩; have HT1 := hid ht1; have HX1 := hid hx1; have HB1 := hid (block_ext hx1 HBY2.out); clear ht1 hx1)
    refine wp_forget (fun v => Ext y v ∧ v.heap[w.heap.size]? = some (.cells #[.int .i64 s.conf.frame, .int .i64 s.conf.epoch, .slice pp s.conf.plans.length cp, .slice pd s.conf.doms.length cd, .int .i64 s.horizon, .slice ps s.streams.length cs, .slice pa s.arrivals.length ca] 30 (0, 0)) ∧ v.heap[v1.heap.size]? = some (.cells #[.int .i64 t.conf.frame, .int .i64 t.conf.epoch, .slice pp1 t.conf.plans.length cp1, .slice pd1 t.conf.doms.length cd1, .int .i64 t.horizon, .slice ps1 t.streams.length cs1, .slice pa1 t.arrivals.length ca1] 30 (0, 0)) ∧ ScrV v t (.slice pp1 t.conf.plans.length cp1) (.slice pd1 t.conf.doms.length cd1) (.slice ps1 t.streams.length cs1) (.slice pa1 t.arrivals.length ca1)) ⟨HX1.out.alloc _, block_ext (Ext.alloc (Ext.refl _) _) HB1.out, heap_alloc_new v1 _, HT1.out.ext (by repeat (first | exact Ext.refl _ | assumption | refine Ext.more ?_ _ | refine Ext.drew ?_ | refine Ext.drewN ?_ _ | refine Ext.alloc ?_ _ | refine Ext.setCell ?_ (by simp; try omega) _ | refine Ext.trans ?_ (by assumption)))⟩ ?_
    rintro v2 ⟨hx2, hb2, ha2, ht2⟩
    have l1 := lt_of_block hb2
    have l2 := lt_of_block ha2
    have k0 := blk_cell hb2 0
    have k1 := blk_cell hb2 1
    have k2 := blk_cell hb2 2
    have k3 := blk_cell hb2 3
    have k4 := blk_cell hb2 4
    have k5 := blk_cell hb2 5
    have k6 := blk_cell hb2 6
    simp only [List.getElem?_toArray, List.getElem?_cons_zero, List.getElem?_cons_succ] at k0 k1 k2 k3 k4 k5 k6
    have t0 := blk_cell ha2 0
    have t1 := blk_cell ha2 1
    have t2 := blk_cell ha2 2
    have t3 := blk_cell ha2 3
    have t4 := blk_cell ha2 4
    have t5 := blk_cell ha2 5
    have t6 := blk_cell ha2 6
    simp only [List.getElem?_toArray, List.getElem?_cons_zero, List.getElem?_cons_succ] at t0 t1 t2 t3 t4 t5 t6
    have HX2 := hid (HXY.out.trans hx2)
    have HC2 := hid (HC.out.ext HX2.out)
    have HT2 := hid ht2
    have hc2 := HCV.out v2 hx2
    have hcm := fun p => HCV.out (more v2 p) (hx2.trans (ext_more _ _))
    clear hx2 hb2 ha2 ht2 hcy HX1 HB1 HT1 HBY2 HXY
    cases r
    all_goals
      ((first | refine wp_region_more (by kernel_rfl) (by kernel_rfl) ?_ | refine wp_region_ext (by kernel_rfl) (by kernel_rfl) ?_); (try dsimp only [append_cons', append_nil']); (repeat (go_big_quiet_step ((first | (go_at_call 13; refine Calls.more_of (HBT.out _ _ _ _ _ (HT2.out.ext (by repeat (first | exact Ext.refl _ | assumption | refine Ext.more ?_ _ | refine Ext.drew ?_ | refine Ext.drewN ?_ _ | refine Ext.alloc ?_ _ | refine Ext.setCell ?_ (by simp; try omega) _ | refine Ext.trans ?_ (by assumption)))))) | (go_at_call 14; (with_reducible refine Calls.more_of (scrSame_to HSS.out _ _ _ _ _ _ _ _ _ (HC2.out.ext (by repeat (first | exact Ext.refl _ | assumption | refine Ext.more ?_ _ | refine Ext.drew ?_ | refine Ext.drewN ?_ _ | refine Ext.alloc ?_ _ | refine Ext.setCell ?_ (by simp; try omega) _ | refine Ext.trans ?_ (by assumption)))) (HT2.out.ext (by repeat (first | exact Ext.refl _ | assumption | refine Ext.more ?_ _ | refine Ext.drew ?_ | refine Ext.drewN ?_ _ | refine Ext.alloc ?_ _ | refine Ext.setCell ?_ (by simp; try omega) _ | refine Ext.trans ?_ (by assumption))))))))))); refine wpQuiet_nil ?_; rintro _ ⟨pq, rfl⟩)
      go_wp2
      go_returns
      exact ⟨rfl, HX2.out.trans (by repeat (first | exact Ext.refl _ | assumption | refine Ext.more ?_ _ | refine Ext.drew ?_ | refine Ext.drewN ?_ _ | refine Ext.alloc ?_ _ | refine Ext.setCell ?_ (by simp; try omega) _ | refine Ext.trans ?_ (by assumption)))⟩

set_option linter.unusedVariables false in
set_option maxRecDepth 100000 in
theorem lifted (os : Os) (started : os.Started) (H : Type) (enc : TypeId × Value → H) :
    ReturnsInHanded {} Tryz.checked os 5 .any (Rows.scriptOnceSpec.pre6 enc Tryz.prog Tryz.f5 Rows.scriptOnceRow.domain false) (Rows.scriptOnceSpec.post enc Tryz.prog Tryz.f5 false true false false) := by
  refine returnsInHanded_of_change (C := Tryz.checked) Own.own started (by kernel_rfl) Tryz.func5
    (ChangeSpec.witness6 (enc := enc) (C := Tryz.checked) false ⟨#[], #[.agg #[.int .i64 0, .int .i64 0, .slice none 0 0, .slice none 0 0, .int .i64 0, .slice none 0 0, .slice none 0 0], .int .u16 0, .int .u8 0], []⟩ 8 (by kernel_rfl) (by kernel_rfl) (by kernel_rfl) (by kernel_rfl)) ?_
  intro W base args ds gs before hval0 hW hcnd _
  have hval : ∀ (j : Nat) t v, Tryz.f5.params[j]? = some t → args[j]? = some v → Value.okWide Tryz.prog W .any base t v := hval0
  have hW' := hW
  obtain ⟨p, q, hA0, hV, rfl, hfz, hnd⟩ := hW
  have hA : DataW.TrodAll enc Tryz.prog W 0 (fun _ => true) true Tryz.f5.params.toList args.toList ds p := hA0
  rw [Tryz.params5] at hA hval
  obtain ⟨v0, vs0, d0, ds0, p0, q0, hargs, rfl, rfl, h0, r0⟩ := trodAll_cons hA
  obtain ⟨v1, vs1, d1, ds1, p1, q1, rfl, rfl, rfl, h1, r1⟩ := trodAll_cons r0
  obtain ⟨v2, vs2, d2, ds2, p2, q2, rfl, rfl, rfl, h2, r2⟩ := trodAll_cons r1
  obtain ⟨rfl, rfl, rfl⟩ := trodAll_nil r2
  obtain rfl : args = #[v0, v1, v2] := by cases args; simp_all
  obtain ⟨rfl, rfl⟩ := trodVars_none hV
  have k0 := h0
  have lt0 : ∀ x ∈ p0, x.block < W.heap.size := by obtain ⟨m, hm⟩ := k0; exact DataW.trod_lt m _ _ _ hm
  have k1 := h1
  have lt1 : ∀ x ∈ p1, x.block < W.heap.size := by obtain ⟨m, hm⟩ := k1; exact DataW.trod_lt m _ _ _ hm
  have k2 := h2
  have lt2 : ∀ x ∈ p2, x.block < W.heap.size := by obtain ⟨m, hm⟩ := k2; exact DataW.trod_lt m _ _ _ hm
  obtain ⟨s, pv, dv, sv, av, rfl, hs⟩ := Own.open_scr (hval 0 30 v0 rfl rfl) (by exact h0)
  obtain ⟨n, rfl, rfl, rfl, wn⟩ := open_int Tryz.underlying41 (hval 1 41 v1 rfl rfl) h1
  obtain ⟨b, rfl, rfl, rfl, wb⟩ := open_int Tryz.underlying5 (hval 2 5 v2 rfl rfl) h2
  have bn := bounds_u16 wn
  have bb := bounds_u8 wb
  obtain ⟨c, rfl⟩ : ∃ c : UInt8, b = (c.toNat : Int) := ⟨UInt8.ofNat b.toNat, by rw [UInt8.toNat_ofNat']; omega⟩
  clear hA0 hval0
  refine (walk s pv dv sv av n c W (by omega) hs).mono fun e W' ⟨he, hx⟩ => ?_
  subst he
  exact ⟨_, rfl, _, _, _, [], _, [], hW', trodAll_mk1 (shut_bool Tryz.underlying4 _), (trodAll_cons_mk (Below.trod Own.laidOut (by kernel_rfl) (of_decide_eq_true (by kernel_rfl)) k0 hx.below lt0) (trodAll_cons_mk (Below.trod Own.laidOut (by kernel_rfl) (of_decide_eq_true (by kernel_rfl)) k1 hx.below lt1) (trodAll_cons_mk (Below.trod Own.laidOut (by kernel_rfl) (of_decide_eq_true (by kernel_rfl)) k2 hx.below lt2) trodAll_mk0))), rfl, hx.below.frame _, fun h => by cases h⟩

theorem proved : Rows.ScriptOnceSaid :=
  OpenClaim.holds_of_wide 5 Tryz.f5 rfl rfl rfl rfl rfl rfl rfl ⟨rfl, rfl, rfl, rfl, rfl⟩ rfl rfl rfl rfl rfl (by kernel_rfl) Tryz.func5 (by kernel_rfl)
    (of_decide_eq_true (by kernel_rfl)) (by unfold Func.isWrapper; first | (rw [if_pos (by decide +kernel)]; kernel_rfl) | (rw [if_neg (by decide +kernel)]; exact ⟨rfl, rfl⟩))
    (fun os started H enc _ => lifted os started H enc)

end scriptOnce
end Go.Proofs.YtbllibgddiiboaaGreat
