/- What the statements' own check of configurations comes to. -/
import Derived.Test.YtgcbkhbpbmmfhaaBase
import Derived.Test.YtgcbkhbpbmmfhaaCf3
import Derived.Test.YtgcbkhbpbmmfhaaCf5
import Derived.Test.YtgcbkhbpbmmfhaaErr
import Derived.Deep.RegionHeld3
import Derived.Deep.RegionWith
import Derived.Deep.CutRange
namespace Go.Proofs.Ytgcbkhbpbmmfhaa
open Go.RowKit

theorem confIs_ok {c : Cnf} (e : isConf c = 0) (w : World) (pv dv : Value) (hc : ConfV w c pv dv) : Calls Try.prog 10 #[confV c pv dv] w (Yields w .nilIface) := confIs_to e w pv dv hc
theorem confIs_bad {c : Cnf} {n : Nat} (k : Int) (e : isConf c = n) (h0 : n ≠ 0) (hk : (n : Int) = k) (w : World) (pv dv : Value) (hc : ConfV w c pv dv) : Calls Try.prog 10 #[confV c pv dv] w (Yields w (.iface 31 (.int .i64 k))) := by
  have := confIs_to e w pv dv hc
  rw [errV_pos h0, hk] at this
  exact this
theorem confTicks_to {c : Cnf} {n : Int} (e : ticksN c = n) (w : World) (pv dv : Value) (hc : ConfV w c pv dv) : Calls Try.prog 13 #[confV c pv dv] w (Yields w (.int .i64 n)) := e ▸ confTicks_any w c pv dv hc
theorem is_errno_to {n m : Int} {r : Bool} (e : (n == m) = r) (w : World) : Calls Try.prog 11 #[.iface 31 (.int .i64 n), .iface 31 (.int .i64 m)] w (Yields w (.bool r)) := e ▸ Err.is_errno n m w
def noC : Cnf := ⟨0, 0, [], []⟩
theorem noC_V (w : World) : ConfV w noC (.slice none 0 0) (.slice none 0 0) := ⟨⟨none, 0, rfl, by simp [noC], by unfold maxLen; omega, fun h => by simp [noC] at h⟩, ⟨none, 0, rfl, by simp [noC], by unfold maxLen; omega, fun h => by simp [noC] at h⟩⟩
theorem noC_is : isConf noC = 10 := by decide

abbrev varRO : RO := ([.i 8, .i 2, .s 3 2, .s 13 4], 26)
def cRO : List RO := baseRO ++ [varRO]
def dRO : List RO := setRO baseRO 13 2 (.s 16 1) ++ [varRO] ++ [([.i 1, .i 2], 3)] ++ [([.s 15 2], 33)]
def eRO : List RO := setRO baseRO 1 0 (.i (-1)) ++ [varRO]
def fRO : List RO := setRO baseRO 13 27 (.i 0) ++ [varRO]
def dC : Cnf := ⟨8, 2, [[2, 2, 2, 2], [5, 1, 1, 1]], [⟨0, 0, [[1, 2]], [], -1, 4, 2, 4, 3, 2⟩, ⟨1, 1, [[3]], [0, 1], 0, 4, 2, 4, 3, 2⟩, ⟨1, 2, [[3]], [], -1, 4, 2, 4, 3, 2⟩, ⟨2, 3, [], [0, 1, 2], 1, 4, 2, 4, 3, 2⟩]⟩
def eC : Cnf := ⟨8, 2, [[-1, 2, 2, 2], [5, 1, 1, 1]], [⟨0, 0, [[1, 3], [2, 3]], [], -1, 4, 2, 4, 3, 2⟩, ⟨1, 1, [[3]], [0, 1], 0, 4, 2, 4, 3, 2⟩, ⟨1, 2, [[3]], [], -1, 4, 2, 4, 3, 2⟩, ⟨2, 3, [], [0, 1, 2], 1, 4, 2, 4, 3, 2⟩]⟩
def fC : Cnf := ⟨8, 2, [[2, 2, 2, 2], [5, 1, 1, 1]], [⟨0, 0, [[1, 3], [2, 3]], [], -1, 4, 2, 4, 3, 2⟩, ⟨1, 1, [[3]], [0, 1], 0, 4, 2, 4, 3, 2⟩, ⟨1, 2, [[3]], [], -1, 4, 2, 0, 3, 2⟩, ⟨2, 3, [], [0, 1, 2], 1, 4, 2, 4, 3, 2⟩]⟩
theorem cC_of : confOf cRO 8 2 (.s 3 2) (.s 13 4) = some baseC := by rfl
theorem dC_of : confOf dRO 8 2 (.s 3 2) (.s 13 4) = some dC := by rfl
theorem eC_of : confOf eRO 8 2 (.s 3 2) (.s 13 4) = some eC := by rfl
theorem fC_of : confOf fRO 8 2 (.s 3 2) (.s 13 4) = some fC := by rfl
theorem dC_is : isConf dC = 17 := by decide
theorem eC_is : isConf eC = 18 := by decide
theorem fC_is : isConf fC = 19 := by decide

/-- A configuration that lies as Base's does. -/
structure KV (N : Nat) (c : Cnf) (w : World) : Prop where
  v : ConfV w c (.slice (some ⟨N + 3, 0, none⟩) 2 2) (.slice (some ⟨N + 13, 0, none⟩) 4 4)
  f : c.frame = 8
  e : c.epoch = 2
theorem KV.ext {N : Nat} {c : Cnf} {w w' : World} (h : Ext w w') (k : KV N c w) : KV N c w' := ⟨k.v.ext h, k.f, k.e⟩
theorem KV.val {N : Nat} {c : Cnf} {w : World} (k : KV N c w) : confV c (.slice (some ⟨N + 3, 0, none⟩) 2 2) (.slice (some ⟨N + 13, 0, none⟩) 4 4) = baseV N := by
  unfold confV baseV
  rw [k.f, k.e]
theorem known_conf {N : Nat} {os : List RO} {w : World} (l : Lies N os w) {c : Cnf} (h : confOf os 8 2 (.s 3 2) (.s 13 4) = some c) : KV N c w :=
  have := conf_lies l (RV.wf_of rfl) (RV.wf_of rfl) h
  ⟨this.2.2, this.1, this.2.1⟩
theorem kIs_ok {N : Nat} {c : Cnf} (e : isConf c = 0) {w : World} (k : KV N c w) : Calls Try.prog 10 #[baseV N] w (Yields w .nilIface) := k.val ▸ confIs_ok e w _ _ k.v
theorem kIs_bad {N : Nat} {c : Cnf} {n : Nat} (x : Int) (e : isConf c = n) (h0 : n ≠ 0) (hk : (n : Int) = x) {w : World} (k : KV N c w) : Calls Try.prog 10 #[baseV N] w (Yields w (.iface 31 (.int .i64 x))) := k.val ▸ confIs_bad x e h0 hk w _ _ k.v
theorem kTicks {N : Nat} {c : Cnf} {n : Int} (e : ticksN c = n) {w : World} (k : KV N c w) : Calls Try.prog 13 #[baseV N] w (Yields w (.int .i64 n)) := k.val ▸ confTicks_to e w _ _ k.v
theorem kSame {N M : Nat} {c d : Cnf} {r : Bool} (e : sameC c d = r) {w : World} (k : KV N c w) (l : KV M d w) : Calls Try.prog 14 #[baseV N, baseV M] w (Yields w (.bool r)) := k.val ▸ l.val ▸ confSame_to e w _ _ _ _ k.v l.v
theorem noIs (w : World) : Calls Try.prog 10 #[.agg #[.int .i64 0, .int .i64 0, .slice none 0 0, .slice none 0 0]] w (Yields w (.iface 31 (.int .i64 10))) := confIs_bad 10 noC_is (by decide) rfl w _ _ (noC_V w)

set_option maxRecDepth 100000 in
set_option maxHeartbeats 8000000 in
theorem known_any (w : World) : Calls Try.prog 8 #[] w (Yields w (.bool true)) := by
  go_enter Try.func8, Try.ntmps8
  go_wp2_with fail
  refine (base_to _).mono ?_
  rintro e w1 ⟨N1, rfl, n1, l1, x1, s1⟩
  go_wp2_with fail
  refine calls_forget (fun v => Lies N1 cRO v ∧ Ext w v ∧ v.heap.size = N1 + 15) ⟨l1.one s1 varRO rfl, x1.alloc _, by simp [s1]⟩ ?_
  rintro v1 ⟨L1, X1, S1⟩
  clear l1 x1 s1
  refine (base_to _).mono ?_
  rintro e w2 ⟨N2, rfl, n2, l2, x2, s2⟩
  have g1 : N1 + 15 = N2 := (n2.out.trans S1).symm
  have G1 := hid g1
  have c2 : w2.cell? ⟨N2 + 13, 2, none⟩ = some (.slice (some ⟨N2 + 6, 0, none⟩) 2 2) := l2.cell (b := 13) (j := 2) rfl rfl
  have f2 : w2.frozen? ⟨N2 + 13, 2, none⟩ = false := l2.unfrozen 2 rfl
  clear g1
  go_wp2_with fail
  refine calls_forget (fun v => Lies N2 dRO v ∧ Lies N1 cRO v ∧ Ext w v ∧ v.heap.size = N2 + 17) ⟨(((l2.set (b := 13) (j := 2) (.s 16 1) rfl (RV.wf_of rfl)).one (by simp [s2, setRO, baseRO]) varRO rfl).one (by simp [s2, setRO, baseRO]) ([.i 1, .i 2], 3) rfl).one (by simp [s2, setRO, baseRO]) ([.s 15 2], 33) rfl,
    (Lies.other (L1.ext x2) _ (.inr (by have := G1.out; simp only [cRO, baseRO, List.length_append, List.length_cons, List.length_nil]; omega))).ext ((((Ext.refl _).alloc _).alloc _).alloc _),
    (((Ext.setCell (X1.trans x2) (by have := n1.out; have := G1.out; simp; omega) _).alloc _).alloc _).alloc _, by simp [s2]⟩ ?_
  rintro v2 ⟨L2, L1', X2, S2⟩
  clear L1 X1 S1 n2 l2 x2 s2 c2 f2
  refine (base_to _).mono ?_
  rintro e w3 ⟨N3, rfl, n3, l3, x3, s3⟩
  have G2 : Hid (N2 + 17 = N3) := (n3.out.trans S2).symm
  have c3 : w3.cell? ⟨N3 + 3, 0, none⟩ = some (.slice (some ⟨N3 + 1, 0, none⟩) 4 4) := l3.cell (b := 3) (j := 0) rfl rfl
  have c3' : w3.cell? ⟨N3 + 1, 0, none⟩ = some (.int .i64 2) := l3.cell (b := 1) (j := 0) rfl rfl
  have f3 : w3.frozen? ⟨N3 + 1, 0, none⟩ = false := l3.unfrozen 0 rfl
  go_wp2_with fail
  refine calls_forget (fun v => Lies N3 eRO v ∧ Lies N2 dRO v ∧ Lies N1 cRO v ∧ Ext w v ∧ v.heap.size = N3 + 15) ⟨(l3.set (b := 1) (j := 0) (.i (-1)) rfl (RV.wf_of rfl)).one (by simp [s3, setRO, baseRO]) varRO rfl,
    (Lies.other (L2.ext x3) _ (.inr (by have := G2.out; simp only [dRO, setRO, baseRO, List.length_append, List.length_modify, List.length_cons, List.length_nil]; omega))).ext ((Ext.refl _).alloc _),
    (Lies.other (L1'.ext x3) _ (.inr (by have := G1.out; have := G2.out; simp only [cRO, baseRO, List.length_append, List.length_cons, List.length_nil]; omega))).ext ((Ext.refl _).alloc _),
    (Ext.setCell (X2.trans x3) (by have := n1.out; have := G1.out; have := G2.out; simp; omega) _).alloc _, by simp [s3]⟩ ?_
  rintro v3 ⟨L3, L2', L1, X3, S3⟩
  clear L1' X2 S2 n3 l3 x3 s3 c3 c3' f3 L2
  refine (base_to _).mono ?_
  rintro e w4 ⟨N4, rfl, n4, l4, x4, s4⟩
  have G3 : Hid (N3 + 15 = N4) := (n4.out.trans S3).symm
  have c4 : w4.cell? ⟨N4 + 13, 27, none⟩ = some (.int .i64 4) := l4.cell (b := 13) (j := 27) rfl rfl
  have f4 : w4.frozen? ⟨N4 + 13, 27, none⟩ = false := l4.unfrozen 27 rfl
  go_upto_region 8 with fail
  refine wp_forget (fun v => Lies N4 fRO v ∧ Lies N3 eRO v ∧ Lies N2 dRO v ∧ Lies N1 cRO v ∧ Ext w v) ⟨(l4.set (b := 13) (j := 27) (.i 0) rfl (RV.wf_of rfl)).one (by simp [s4, setRO, baseRO]) varRO rfl,
    (Lies.other (L3.ext x4) _ (.inr (by have := G3.out; simp only [eRO, setRO, baseRO, List.length_append, List.length_modify, List.length_cons, List.length_nil]; omega))).ext ((Ext.refl _).alloc _),
    (Lies.other (L2'.ext x4) _ (.inr (by have := G2.out; have := G3.out; simp only [dRO, setRO, baseRO, List.length_append, List.length_modify, List.length_cons, List.length_nil]; omega))).ext ((Ext.refl _).alloc _),
    (Lies.other (L1.ext x4) _ (.inr (by have := G1.out; have := G2.out; have := G3.out; simp only [cRO, baseRO, List.length_append, List.length_cons, List.length_nil]; omega))).ext ((Ext.refl _).alloc _),
    (Ext.setCell (X3.trans x4) (by have := n1.out; have := G1.out; have := G2.out; have := G3.out; simp; omega) _).alloc _⟩ ?_
  rintro W ⟨L4, L3', L2, L1', X⟩
  clear L1 X3 S3 n4 l4 x4 s4 c4 f4 L3 L2' n1 G1 G2 G3
  have VC := hid (known_conf L1' cC_of)
  have VD := hid (known_conf L2 dC_of)
  have VE := hid (known_conf L3' eC_of)
  have VF := hid (known_conf L4 fC_of)
  have k10 : W.cell? ⟨N1 + 14, 0, none⟩ = some (.int .i64 8) := L1'.cell (b := 14) (j := 0) rfl rfl
  have k11 : W.cell? ⟨N1 + 14, 1, none⟩ = some (.int .i64 2) := L1'.cell (b := 14) (j := 1) rfl rfl
  have k12 : W.cell? ⟨N1 + 14, 2, none⟩ = some (.slice (some ⟨N1 + 3, 0, none⟩) 2 2) := L1'.cell (b := 14) (j := 2) rfl rfl
  have k13 : W.cell? ⟨N1 + 14, 3, none⟩ = some (.slice (some ⟨N1 + 13, 0, none⟩) 4 4) := L1'.cell (b := 14) (j := 3) rfl rfl
  have k20 : W.cell? ⟨N2 + 14, 0, none⟩ = some (.int .i64 8) := L2.cell (b := 14) (j := 0) rfl rfl
  have k21 : W.cell? ⟨N2 + 14, 1, none⟩ = some (.int .i64 2) := L2.cell (b := 14) (j := 1) rfl rfl
  have k22 : W.cell? ⟨N2 + 14, 2, none⟩ = some (.slice (some ⟨N2 + 3, 0, none⟩) 2 2) := L2.cell (b := 14) (j := 2) rfl rfl
  have k23 : W.cell? ⟨N2 + 14, 3, none⟩ = some (.slice (some ⟨N2 + 13, 0, none⟩) 4 4) := L2.cell (b := 14) (j := 3) rfl rfl
  have k30 : W.cell? ⟨N3 + 14, 0, none⟩ = some (.int .i64 8) := L3'.cell (b := 14) (j := 0) rfl rfl
  have k31 : W.cell? ⟨N3 + 14, 1, none⟩ = some (.int .i64 2) := L3'.cell (b := 14) (j := 1) rfl rfl
  have k32 : W.cell? ⟨N3 + 14, 2, none⟩ = some (.slice (some ⟨N3 + 3, 0, none⟩) 2 2) := L3'.cell (b := 14) (j := 2) rfl rfl
  have k33 : W.cell? ⟨N3 + 14, 3, none⟩ = some (.slice (some ⟨N3 + 13, 0, none⟩) 4 4) := L3'.cell (b := 14) (j := 3) rfl rfl
  have k40 : W.cell? ⟨N4 + 14, 0, none⟩ = some (.int .i64 8) := L4.cell (b := 14) (j := 0) rfl rfl
  have k41 : W.cell? ⟨N4 + 14, 1, none⟩ = some (.int .i64 2) := L4.cell (b := 14) (j := 1) rfl rfl
  have k42 : W.cell? ⟨N4 + 14, 2, none⟩ = some (.slice (some ⟨N4 + 3, 0, none⟩) 2 2) := L4.cell (b := 14) (j := 2) rfl rfl
  have k43 : W.cell? ⟨N4 + 14, 3, none⟩ = some (.slice (some ⟨N4 + 13, 0, none⟩) 4 4) := L4.cell (b := 14) (j := 3) rfl rfl
  clear L1' L2 L3' L4
  go_region_held3 (fun wx => Ext W wx ∧ wx.cell? ⟨N1 + 14, 0, none⟩ = some (.int .i64 8) ∧ wx.cell? ⟨N1 + 14, 1, none⟩ = some (.int .i64 2) ∧ wx.cell? ⟨N1 + 14, 2, none⟩ = some (.slice (some ⟨N1 + 3, 0, none⟩) 2 2) ∧ wx.cell? ⟨N1 + 14, 3, none⟩ = some (.slice (some ⟨N1 + 13, 0, none⟩) 4 4) ∧ wx.cell? ⟨N2 + 14, 0, none⟩ = some (.int .i64 8) ∧ wx.cell? ⟨N2 + 14, 1, none⟩ = some (.int .i64 2) ∧ wx.cell? ⟨N2 + 14, 2, none⟩ = some (.slice (some ⟨N2 + 3, 0, none⟩) 2 2) ∧ wx.cell? ⟨N2 + 14, 3, none⟩ = some (.slice (some ⟨N2 + 13, 0, none⟩) 4 4) ∧ wx.cell? ⟨N3 + 14, 0, none⟩ = some (.int .i64 8) ∧ wx.cell? ⟨N3 + 14, 1, none⟩ = some (.int .i64 2) ∧ wx.cell? ⟨N3 + 14, 2, none⟩ = some (.slice (some ⟨N3 + 3, 0, none⟩) 2 2) ∧ wx.cell? ⟨N3 + 14, 3, none⟩ = some (.slice (some ⟨N3 + 13, 0, none⟩) 4 4) ∧ wx.cell? ⟨N4 + 14, 0, none⟩ = some (.int .i64 8) ∧ wx.cell? ⟨N4 + 14, 1, none⟩ = some (.int .i64 2) ∧ wx.cell? ⟨N4 + 14, 2, none⟩ = some (.slice (some ⟨N4 + 3, 0, none⟩) 2 2) ∧ wx.cell? ⟨N4 + 14, 3, none⟩ = some (.slice (some ⟨N4 + 13, 0, none⟩) 4 4))
    (first | (go_split_ands; with_reducible exact ⟨Ext.trans (by assumption) hq, Ext.cell hq (by assumption), Ext.cell hq (by assumption), Ext.cell hq (by assumption), Ext.cell hq (by assumption), Ext.cell hq (by assumption), Ext.cell hq (by assumption), Ext.cell hq (by assumption), Ext.cell hq (by assumption), Ext.cell hq (by assumption), Ext.cell hq (by assumption), Ext.cell hq (by assumption), Ext.cell hq (by assumption), Ext.cell hq (by assumption), Ext.cell hq (by assumption), Ext.cell hq (by assumption), Ext.cell hq (by assumption)⟩) | (go_split_ands; with_reducible exact ⟨Ext.alloc (by assumption) _, Ext.cell (Ext.alloc (Ext.refl _) _) (by assumption), Ext.cell (Ext.alloc (Ext.refl _) _) (by assumption), Ext.cell (Ext.alloc (Ext.refl _) _) (by assumption), Ext.cell (Ext.alloc (Ext.refl _) _) (by assumption), Ext.cell (Ext.alloc (Ext.refl _) _) (by assumption), Ext.cell (Ext.alloc (Ext.refl _) _) (by assumption), Ext.cell (Ext.alloc (Ext.refl _) _) (by assumption), Ext.cell (Ext.alloc (Ext.refl _) _) (by assumption), Ext.cell (Ext.alloc (Ext.refl _) _) (by assumption), Ext.cell (Ext.alloc (Ext.refl _) _) (by assumption), Ext.cell (Ext.alloc (Ext.refl _) _) (by assumption), Ext.cell (Ext.alloc (Ext.refl _) _) (by assumption), Ext.cell (Ext.alloc (Ext.refl _) _) (by assumption), Ext.cell (Ext.alloc (Ext.refl _) _) (by assumption), Ext.cell (Ext.alloc (Ext.refl _) _) (by assumption), Ext.cell (Ext.alloc (Ext.refl _) _) (by assumption)⟩) | exact ⟨Ext.drew (Ext.refl _), Ext.cell (Ext.drew (Ext.refl _)) k10, Ext.cell (Ext.drew (Ext.refl _)) k11, Ext.cell (Ext.drew (Ext.refl _)) k12, Ext.cell (Ext.drew (Ext.refl _)) k13, Ext.cell (Ext.drew (Ext.refl _)) k20, Ext.cell (Ext.drew (Ext.refl _)) k21, Ext.cell (Ext.drew (Ext.refl _)) k22, Ext.cell (Ext.drew (Ext.refl _)) k23, Ext.cell (Ext.drew (Ext.refl _)) k30, Ext.cell (Ext.drew (Ext.refl _)) k31, Ext.cell (Ext.drew (Ext.refl _)) k32, Ext.cell (Ext.drew (Ext.refl _)) k33, Ext.cell (Ext.drew (Ext.refl _)) k40, Ext.cell (Ext.drew (Ext.refl _)) k41, Ext.cell (Ext.drew (Ext.refl _)) k42, Ext.cell (Ext.drew (Ext.refl _)) k43⟩ | (go_split_ands; refine ⟨(by repeat (first | exact Ext.refl _ | assumption | refine Ext.more ?_ _ | refine Ext.drew ?_ | refine Ext.drewN ?_ _ | refine Ext.alloc ?_ _ | refine Ext.setCell ?_ (by simp; try omega) _ | refine Ext.trans ?_ (by assumption))), ?_, ?_, ?_, ?_, ?_, ?_, ?_, ?_, ?_, ?_, ?_, ?_, ?_, ?_, ?_, ?_⟩ <;> go_keep))
    (first
      | (go_at_call 10; (with_reducible refine (kIs_ok baseC_is (VC.out.ext (by go_split_ands; assumption))).mono ?_); rintro e w' ⟨rfl, hq⟩)
      | (go_at_call 10; (with_reducible refine (kIs_bad 17 dC_is (by decide) rfl (VD.out.ext (by go_split_ands; assumption))).mono ?_); rintro e w' ⟨rfl, hq⟩)
      | (go_at_call 10; (with_reducible refine (kIs_bad 18 eC_is (by decide) rfl (VE.out.ext (by go_split_ands; assumption))).mono ?_); rintro e w' ⟨rfl, hq⟩)
      | (go_at_call 10; (with_reducible refine (kIs_bad 19 fC_is (by decide) rfl (VF.out.ext (by go_split_ands; assumption))).mono ?_); rintro e w' ⟨rfl, hq⟩)
      | (go_at_call 10; (with_reducible refine (noIs _).mono ?_); rintro e w' ⟨rfl, hq⟩)
      | (go_at_call 11; refine (is_errno_to (r := true) rfl _).mono ?_; rintro e w' ⟨rfl, hq⟩)
      | (go_at_call 13; (with_reducible refine (kTicks (n := 16) (by decide) (VC.out.ext (by go_split_ands; assumption))).mono ?_); rintro e w' ⟨rfl, hq⟩)
      | (go_at_call 13; (with_reducible refine (kTicks (n := 0) (by decide) (VD.out.ext (by go_split_ands; assumption))).mono ?_); rintro e w' ⟨rfl, hq⟩)
      | (go_at_call 9; refine (base_to _).mono ?_; rintro e w' ⟨N5, rfl, n5, l5, hq, s5⟩)
      | (go_at_call 14; (with_reducible refine (kSame (r := false) (by decide) (VC.out.ext (by go_split_ands; assumption)) (VD.out.ext (by go_split_ands; assumption))).mono ?_); rintro e w' ⟨rfl, hq⟩)
      | (go_at_call 14; (with_reducible refine (kSame (r := true) (sameC_self _) (VC.out.ext (by go_split_ands; assumption)) (known_conf l5 baseC_of)).mono ?_); rintro e w' ⟨rfl, hq⟩))
  go_split_ands
  go_wp2
  go_returns
  exact ⟨rfl, Ext.trans X (by assumption)⟩
end Go.Proofs.Ytgcbkhbpbmmfhaa
