/- ConfFlows, a part: what both ways use. -/
import Derived.Test.YtgcbkhbpbmmfhaaCKnown
import Derived.Test.YtgcbkhbpbmmfhaaOwn2
import Derived.Deep.CutRange
import Derived.Deep.RegionHeld3
import Derived.ChangeMaps5
import Derived.ChangeSame
import Derived.ChangeVars
import Derived.JoinedOf
import Derived.RowKitTokens
namespace Go.Proofs.Ytgcbkhbpbmmfhaa
open Go.ChangeShapes Go.WideShapes Go.ChangeAt Go.RowKit Go.Joins Go.Deep

namespace confFlows
/-- The two domains' cells: the first one's routes, release, To. -/
def doms (a b c d : Int) (r e : RV) (t : Int) : RO := ([.i a, .u b, r, e, .i t, .i 1, .i 0, .i 1, .i 0, .i 1, .i c, .u d, .nil, .nil, .i (-1), .i 1, .i 0, .i 1, .i 0, .i 1], 38)
def o0 (a b c d : Int) : List RO := [([.i 1, .i 1], 3), ([.s 0 2], 33), doms a b c d .nil .nil (-1), ([.i 4, .i 1, .s 1 1, .s 2 2], 26)]
def o1 (a b c d : Int) : List RO := o0 a b c d ++ [([.i a, .u b], 36)] ++ [([.i c, .u d], 36)]
def oR (a b c d : Int) : List RO := setRO (o1 a b c d) 2 2 (.s 7 1) ++ [([.i 1], 3)] ++ [([.s 6 1], 33)]
def cR (a b c d : Int) : Cnf := ⟨4, 1, [[1, 1]], [⟨a, b, [[1]], [], -1, 1, 0, 1, 0, 1⟩, ⟨c, d, [], [], -1, 1, 0, 1, 0, 1⟩]⟩
theorem cR_of (a b c d : Int) : confOf (oR a b c d) 4 1 (.s 1 1) (.s 2 2) = some (cR a b c d) := by rfl
def oG (a b c d : Int) : List RO := setRO (setRO (o1 a b c d) 2 4 (.i 1)) 2 3 (.s 6 2) ++ [([.i 0, .i 4], 3)]
def oG' (a b c d : Int) : List RO := setRO (setRO (o1 a b c d) 2 3 (.s 6 2)) 2 4 (.i 1) ++ [([.i 0, .i 4], 3)]
def cG (a b c d : Int) : Cnf := ⟨4, 1, [[1, 1]], [⟨a, b, [], [0, 4], 1, 1, 0, 1, 0, 1⟩, ⟨c, d, [], [], -1, 1, 0, 1, 0, 1⟩]⟩
theorem cG_of (a b c d : Int) : confOf (oG a b c d) 4 1 (.s 1 1) (.s 2 2) = some (cG a b c d) := by rfl
theorem cG_of' (a b c d : Int) : confOf (oG' a b c d) 4 1 (.s 1 1) (.s 2 2) = some (cG a b c d) := by rfl
theorem form (a c : Int) (ha : isB a = true) (hc : isB c = true) (x : Cnf) (h1 : x.frame = 4) (h2 : x.epoch = 1) (d1 d2 : Dom) (h3 : x.doms = [d1, d2]) (h4 : d1.level = a) (h5 : d2.level = c) : formB x = true := by
  simp [formB, h1, h2, h3, h4, h5, ha, hc, withB]
theorem is_of {x : Cnf} (h1 : formB x = true) (h2 : sharesB x = true) (h3 : x.doms.all quotaB = true) : isConf x = if domsB x 0 x.doms = false then 17 else 0 := by
  simp [isConf, h1, h2, h3]
theorem cR_is (a b c d : Int) (ha : isB a = true) (hc : isB c = true) : isConf (cR a b c d) = if risesB a b c d = false then 17 else 0 := by
  rw [is_of (form a c ha hc _ rfl rfl _ _ rfl rfl rfl) rfl rfl]
  have : domsB (cR a b c d) 0 (cR a b c d).doms = risesB a b c d := by
    cases h : risesB a b c d <;> simp [domsB, domB, giveB, cR, routeB, withB, labAt, Dom.lab, chainB, h]
  rw [this]
theorem eqB_comm (a b c d : Int) : eqB a b c d = eqB c d a b := by
  rw [Bool.eq_iff_iff, eqB_iff, eqB_iff]; omega
theorem cG_is (a b c d : Int) (ha : isB a = true) (hc : isB c = true) : isConf (cG a b c d) = if risesB c d a b = false then 17 else 0 := by
  rw [is_of (form a c ha hc _ rfl rfl _ _ rfl rfl rfl) rfl rfl]
  have : domsB (cG a b c d) 0 (cG a b c d).doms = risesB c d a b := by
    unfold risesB
    cases h : leqB c d a b <;> cases h' : eqB c d a b <;> simp [domsB, domB, giveB, cG, withB, labAt, Dom.lab, h, h']
  rw [this]
theorem o0_wf (a b c d : Int) (ha : 0 ≤ a) (ha' : a ≤ 255) (hb : 0 ≤ b) (hb' : b < 18446744073709551616) (hc : 0 ≤ c) (hc' : c ≤ 255) (hd : 0 ≤ d) (hd' : d < 18446744073709551616) : ∀ o ∈ o0 a b c d, ∀ v ∈ o.1, v.wf := by
  refine wf_all ?_
  simp [o0, doms, RV.wfB]
  omega
theorem lab_wf (a b : Int) (ha : 0 ≤ a) (ha' : a ≤ 255) (hb : 0 ≤ b) (hb' : b < 18446744073709551616) : ∀ v ∈ [RV.i a, RV.u b], v.wf := fun v hv => RV.wf_of (by
  simp only [List.mem_cons, List.not_mem_nil, or_false] at hv
  rcases hv with rfl | rfl
  · simp only [RV.wfB, Bool.and_eq_true, decide_eq_true_eq]; omega
  · simp only [RV.wfB, Bool.and_eq_true, decide_eq_true_eq]; omega)
theorem open_label' {H : Type} {enc : TypeId × Value → H} {W : World} {base b0 : Nat} {spare : Nat → Bool} {held : Bool} {r : Reach} {v : Value} {d : DataW H} {p : List MemPlace}
    (hv : Value.okWide Try.prog W r b0 36 v) (h : DataW.Trod enc Try.prog W base spare held 36 v d p) : ∃ a b : Int, v = .agg #[.int .i64 a, .int .u64 b] ∧ U64 b := by
  obtain ⟨c0, c1, y0, y1, m, rfl, rfl, rfl, hy0, hy1⟩ := open_agg2 Try.underlying36 (by kernel_rfl) Own.cellsLabel hv h
  obtain ⟨a, e0, rfl, wa⟩ := DataW.trod_int Try.underlying3 hy0
  obtain ⟨b, e1, rfl, wb⟩ := DataW.trod_int Try.underlying34 hy1
  simp at e0 e1
  subst e0 e1
  refine ⟨a, b, rfl, ?_⟩
  have := bounds_u64 wb
  exact ⟨by omega, by omega⟩
set_option maxHeartbeats 400000 in
theorem rleq_exact (a b c d : Int) (w : World) {r : Bool} (hr : leqB a b c d = r) : Calls Try.prog 12 #[.agg #[.int .i64 a, .int .u64 b], .agg #[.int .i64 c, .int .u64 d]] w fun e w' => e = .returned (.bool r) ∧ w' = (w.alloc (.cells #[.int .i64 a, .int .u64 b] 36 (0, 0))).alloc (.cells #[.int .i64 c, .int .u64 d] 36 (0, 0)) := by
  subst hr
  by_cases h : a ≤ c <;>
  · go_enter Try.func12, Try.ntmps12
    go_wp2
    go_ret
    exact ⟨by simp [leqB]; try omega, rfl⟩

/-- What the law's configuration comes to. -/
structure KF (N : Nat) (c : Cnf) (w : World) : Prop where
  v : ConfV w c (.slice (some ⟨N + 1, 0, none⟩) 1 1) (.slice (some ⟨N + 2, 0, none⟩) 2 2)
  f : c.frame = 4
  e : c.epoch = 1
/-- The law's variable. -/
def VarC (N : Nat) (u : World) : Prop := u.cell? ⟨N + 3, 0, none⟩ = some (.int .i64 4) ∧ u.cell? ⟨N + 3, 1, none⟩ = some (.int .i64 1) ∧ u.cell? ⟨N + 3, 2, none⟩ = some (.slice (some ⟨N + 1, 0, none⟩) 1 1) ∧ u.cell? ⟨N + 3, 3, none⟩ = some (.slice (some ⟨N + 2, 0, none⟩) 2 2)
theorem varC {N : Nat} {os : List RO} {w : World} (l : Lies N os w) (h0 : cellOf os 3 0 = some (.i 4)) (h1 : cellOf os 3 1 = some (.i 1)) (h2 : cellOf os 3 2 = some (.s 1 1)) (h3 : cellOf os 3 3 = some (.s 2 2)) : VarC N w := ⟨l.at h0, l.at h1, l.at h2, l.at h3⟩
theorem KF.ext {N : Nat} {c : Cnf} {w w' : World} (h : Ext w w') (k : KF N c w) : KF N c w' := ⟨k.v.ext h, k.f, k.e⟩
theorem KF.val {N : Nat} {c : Cnf} {w : World} (k : KF N c w) : confV c (.slice (some ⟨N + 1, 0, none⟩) 1 1) (.slice (some ⟨N + 2, 0, none⟩) 2 2) = .agg #[.int .i64 4, .int .i64 1, .slice (some ⟨N + 1, 0, none⟩) 1 1, .slice (some ⟨N + 2, 0, none⟩) 2 2] := by
  unfold confV
  rw [k.f, k.e]
theorem kf_conf {N : Nat} {os : List RO} {w : World} (l : Lies N os w) {c : Cnf} (h : confOf os 4 1 (.s 1 1) (.s 2 2) = some c) : KF N c w :=
  have := conf_lies l (RV.wf_of rfl) (RV.wf_of rfl) h
  ⟨this.2.2, this.1, this.2.1⟩
theorem fIs_ok {N : Nat} {c : Cnf} (e : isConf c = 0) {w : World} (k : KF N c w) : Calls Try.prog 10 #[.agg #[.int .i64 4, .int .i64 1, .slice (some ⟨N + 1, 0, none⟩) 1 1, .slice (some ⟨N + 2, 0, none⟩) 2 2]] w (Yields w .nilIface) := k.val ▸ confIs_ok e w _ _ k.v
theorem fIs_bad {N : Nat} {c : Cnf} (e : isConf c = 17) {w : World} (k : KF N c w) : Calls Try.prog 10 #[.agg #[.int .i64 4, .int .i64 1, .slice (some ⟨N + 1, 0, none⟩) 1 1, .slice (some ⟨N + 2, 0, none⟩) 2 2]] w (Yields w (.iface 31 (.int .i64 17))) := k.val ▸ confIs_bad 17 e (by decide) rfl w _ _ k.v

end confFlows
end Go.Proofs.Ytgcbkhbpbmmfhaa
