/- ConfPlaces: of every number of a case and every place: the law answers true. -/
import Derived.Test.YtgcbkhbpbmmfhaaCKnown
import Derived.Test.YtgcbkhbpbmmfhaaOwn2
import Derived.ChangeMaps5
import Derived.ChangeSame
import Derived.ChangeVars
import Derived.JoinedOf
import Derived.RowKitTokens
namespace Go.Proofs.Ytgcbkhbpbmmfhaa
open Go.ChangeShapes Go.WideShapes Go.ChangeAt Go.RowKit Go.Joins Go.Deep

namespace confPlaces
abbrev b0 : List RO := baseRO ++ [varRO]
def o0 (n : Int) : List RO := setRO (baseRO) 13 2 (.s 16 1) ++ [varRO] ++ [([.i n], 3)] ++ [([.s 15 1], 33)]
def c0 (n : Int) : Cnf := ⟨8, 2, [[2, 2, 2, 2], [5, 1, 1, 1]], [⟨0, 0, [[n]], [], -1, 4, 2, 4, 3, 2⟩, ⟨1, 1, [[3]], [0, 1], 0, 4, 2, 4, 3, 2⟩, ⟨1, 2, [[3]], [], -1, 4, 2, 4, 3, 2⟩, ⟨2, 3, [], [0, 1, 2], 1, 4, 2, 4, 3, 2⟩]⟩
theorem c0_of (n : Int) : confOf (o0 n) 8 2 (.s 3 2) (.s 13 4) = some (c0 n) := by rfl
def o1 : List RO := setRO (baseRO) 13 2 (.s 16 1) ++ [varRO] ++ [([], 3)] ++ [([.s 15 0], 33)]
def c1 : Cnf := ⟨8, 2, [[2, 2, 2, 2], [5, 1, 1, 1]], [⟨0, 0, [[]], [], -1, 4, 2, 4, 3, 2⟩, ⟨1, 1, [[3]], [0, 1], 0, 4, 2, 4, 3, 2⟩, ⟨1, 2, [[3]], [], -1, 4, 2, 4, 3, 2⟩, ⟨2, 3, [], [0, 1, 2], 1, 4, 2, 4, 3, 2⟩]⟩
theorem c1_of : confOf (o1) 8 2 (.s 3 2) (.s 13 4) = some (c1) := by rfl
theorem c1_is : isConf c1 = 17 := by decide
def o2 : List RO := setRO (baseRO) 13 2 (.s 19 4) ++ [varRO] ++ [([.i 1], 3)] ++ [([.i 1], 3)] ++ [([.i 1], 3)] ++ [([.i 1], 3)] ++ [([.s 15 1, .s 16 1, .s 17 1, .s 18 1], 33)]
def c2 : Cnf := ⟨8, 2, [[2, 2, 2, 2], [5, 1, 1, 1]], [⟨0, 0, [[1], [1], [1], [1]], [], -1, 4, 2, 4, 3, 2⟩, ⟨1, 1, [[3]], [0, 1], 0, 4, 2, 4, 3, 2⟩, ⟨1, 2, [[3]], [], -1, 4, 2, 4, 3, 2⟩, ⟨2, 3, [], [0, 1, 2], 1, 4, 2, 4, 3, 2⟩]⟩
theorem c2_of : confOf (o2) 8 2 (.s 3 2) (.s 13 4) = some (c2) := by rfl
theorem c2_is : isConf c2 = 17 := by decide
def o3 (n : Int) : List RO := setRO (baseRO) 13 34 (.i n) ++ [varRO]
def c3 (n : Int) : Cnf := ⟨8, 2, [[2, 2, 2, 2], [5, 1, 1, 1]], [⟨0, 0, [[1, 3], [2, 3]], [], -1, 4, 2, 4, 3, 2⟩, ⟨1, 1, [[3]], [0, 1], 0, 4, 2, 4, 3, 2⟩, ⟨1, 2, [[3]], [], -1, 4, 2, 4, 3, 2⟩, ⟨2, 3, [], [0, 1, 2], n, 4, 2, 4, 3, 2⟩]⟩
theorem c3_of (n : Int) : confOf (o3 n) 8 2 (.s 3 2) (.s 13 4) = some (c3 n) := by rfl
def o4 : List RO := setRO (baseRO) 13 34 (.i (-1)) ++ [varRO]
def c4 : Cnf := ⟨8, 2, [[2, 2, 2, 2], [5, 1, 1, 1]], [⟨0, 0, [[1, 3], [2, 3]], [], -1, 4, 2, 4, 3, 2⟩, ⟨1, 1, [[3]], [0, 1], 0, 4, 2, 4, 3, 2⟩, ⟨1, 2, [[3]], [], -1, 4, 2, 4, 3, 2⟩, ⟨2, 3, [], [0, 1, 2], -1, 4, 2, 4, 3, 2⟩]⟩
theorem c4_of : confOf (o4) 8 2 (.s 3 2) (.s 13 4) = some (c4) := by rfl
theorem c4_is : isConf c4 = 17 := by decide
def o5 : List RO := setRO (baseRO) 13 33 (.nil) ++ [varRO]
def c5 : Cnf := ⟨8, 2, [[2, 2, 2, 2], [5, 1, 1, 1]], [⟨0, 0, [[1, 3], [2, 3]], [], -1, 4, 2, 4, 3, 2⟩, ⟨1, 1, [[3]], [0, 1], 0, 4, 2, 4, 3, 2⟩, ⟨1, 2, [[3]], [], -1, 4, 2, 4, 3, 2⟩, ⟨2, 3, [], [], 1, 4, 2, 4, 3, 2⟩]⟩
theorem c5_of : confOf (o5) 8 2 (.s 3 2) (.s 13 4) = some (c5) := by rfl
theorem c5_is : isConf c5 = 17 := by decide
theorem route_bad {c : Cnf} (h1 : formB c = true) (h2 : sharesB c = true) (h3 : c.doms.all quotaB = true) {k : Nat} (hk : k < c.doms.length) (hb : domB c k c.doms[k] = false) : isConf c = 17 := by
  have := domsB_bad' c c.doms 0 rfl k hk (Nat.zero_le _) hb
  simp [isConf, h1, h2, h3, this]
theorem c0_is (n : Int) (h : n < 0 ∨ 4 ≤ n) : isConf (c0 n) = 17 := by
  refine route_bad (k := 0) rfl rfl rfl (by simp [c0]) ?_
  have hw : withB n 0 3 = false := by
    rw [Bool.eq_false_iff]; intro hh; have := withB_iff.1 hh; omega
  have : routeB (c0 n).doms (Dom.lab ((c0 n).doms[0]'(by simp [c0]))) [n] = false := by simp [routeB, c0, hw]
  show (decide _ && [[n]].all (routeB (c0 n).doms (Dom.lab ((c0 n).doms[0]'(by simp [c0])))) && _) = false
  simp [this]
theorem c3_is (n : Int) (h : n < -1 ∨ 4 ≤ n) : isConf (c3 n) = 17 := by
  refine route_bad (k := 3) rfl rfl rfl (by simp [c3]) ?_
  have hw : withB n 0 3 = false := by
    rw [Bool.eq_false_iff]; intro hh; have := withB_iff.1 hh; omega
  have hn : ¬ n = -1 := by omega
  simp [domB, giveB, c3, hn, hw]

set_option maxRecDepth 100000 in
set_option maxHeartbeats 8000000 in
theorem walk (which n : Int) (hw0 : 0 ≤ which) (hw1 : which ≤ 255) (hn : (Lit.int .i64 n).wf = true) (w : World) :
    Calls Try.prog 5 #[.int .u8 which, .int .i64 n] w (Yields w (.bool true)) := by
  have HWF := hid hn
  clear hn
  go_enter Try.func5, Try.ntmps5
  go_wp2_with (go_at_call 8; refine (known_any _).yields ?_; intro p0)
  refine (base_to _).mono ?_
  rintro e w1 ⟨N, rfl, n1, l1, x1, s1⟩
  have X1 : Ext w w1 := Ext.trans (ext_more _ _) x1
  have HN : Hid (w.heap.size ≤ N) := by have := n1.out; have := (ext_more w p0).size; unfold Hid; omega
  clear x1 n1
  have k2 := l1.at (b := 13) (j := 2) (v := .s 6 2) rfl
  have f2 := l1.free (b := 13) (j := 2) (v := .s 6 2) rfl
  have k34 := l1.at (b := 13) (j := 34) (v := .i 1) rfl
  have f34 := l1.free (b := 13) (j := 34) (v := .i 1) rfl
  have k33 := l1.at (b := 13) (j := 33) (v := .s 12 3) rfl
  have f33 := l1.free (b := 13) (j := 33) (v := .s 12 3) rfl
  simp only [RV.val] at k2 k34 k33
  have hr : which % 6 = 0 ∨ which % 6 = 1 ∨ which % 6 = 2 ∨ which % 6 = 3 ∨ which % 6 = 4 ∨ which % 6 = 5 := by omega
  rcases hr with hr | hr | hr | hr | hr | hr
  · by_cases hin : 0 ≤ n ∧ n < 4
    · obtain ⟨i1, i2⟩ := hin
      have d1 : decide (0 ≤ n) = true := by simpa using i1
      go_wp2_with fail
      go_returns
      exact ⟨rfl, X1.alloc _⟩
    have hout := hid (show n < 0 ∨ 4 ≤ n by omega)
    rcases (show n < 0 ∨ 4 ≤ n from hout.out) with ho | ho
    all_goals
      have d1 : True := trivial
      go_wp2_with fail
      refine calls_forget (fun v => Lies N (o0 n) v ∧ Ext w v) ⟨((((l1.put (b := 13) (j := 2) (v := .s 6 2) rfl (.s 16 1) (RV.wf_of rfl)).one (by simp [s1, setRO, baseRO]) varRO rfl).one' (by simp [s1, setRO, baseRO]) ([.i n], 3) (fun v hv => by obtain rfl := List.mem_singleton.1 hv; exact HWF.out)).one (by simp [s1, setRO, baseRO]) ([.s 15 1], 33) rfl), ((((Ext.setCell X1 (by have := HN.out; simp; omega) _).alloc _).alloc _).alloc _)⟩ ?_
      rintro v ⟨L, X⟩
      have K := hid (known_conf L (c0_of n))
      clear L
      refine (kIs_bad 17 (c0_is n hout.out) (by decide) rfl K.out).yields ?_
      intro p1
      go_wp2_with (go_at_call 11; (with_reducible refine (is_errno_to (r := true) rfl _).yields ?_); intro p2)
      go_returns
      exact ⟨rfl, (by repeat (first | exact Ext.refl _ | assumption | refine Ext.more ?_ _ | refine Ext.drew ?_ | refine Ext.drewN ?_ _ | refine Ext.alloc ?_ _ | refine Ext.setCell ?_ (by simp; try omega) _ | refine Ext.trans ?_ (by assumption)))⟩
  · go_wp2_with fail
    refine calls_forget (fun v => Lies N (o1) v ∧ Ext w v) ⟨((((l1.put (b := 13) (j := 2) (v := .s 6 2) rfl (.s 16 1) (RV.wf_of rfl)).one (by simp [s1, setRO, baseRO]) varRO rfl).one (by simp [s1, setRO, baseRO]) ([], 3) rfl).one (by simp [s1, setRO, baseRO]) ([.s 15 0], 33) rfl), ((((Ext.setCell X1 (by have := HN.out; simp; omega) _).alloc _).alloc _).alloc _)⟩ ?_
    rintro v ⟨L, X⟩
    have K := hid (known_conf L (c1_of))
    clear L
    refine (kIs_bad 17 (c1_is) (by decide) rfl K.out).yields ?_
    intro p1
    go_wp2_with (go_at_call 11; (with_reducible refine (is_errno_to (r := true) rfl _).yields ?_); intro p2)
    go_returns
    exact ⟨rfl, (by repeat (first | exact Ext.refl _ | assumption | refine Ext.more ?_ _ | refine Ext.drew ?_ | refine Ext.drewN ?_ _ | refine Ext.alloc ?_ _ | refine Ext.setCell ?_ (by simp; try omega) _ | refine Ext.trans ?_ (by assumption)))⟩
  · go_wp2_with fail
    refine calls_forget (fun v => Lies N (o2) v ∧ Ext w v) ⟨(((((((l1.put (b := 13) (j := 2) (v := .s 6 2) rfl (.s 19 4) (RV.wf_of rfl)).one (by simp [s1, setRO, baseRO]) varRO rfl).one (by simp [s1, setRO, baseRO]) ([.i 1], 3) rfl).one (by simp [s1, setRO, baseRO]) ([.i 1], 3) rfl).one (by simp [s1, setRO, baseRO]) ([.i 1], 3) rfl).one (by simp [s1, setRO, baseRO]) ([.i 1], 3) rfl).one (by simp [s1, setRO, baseRO]) ([.s 15 1, .s 16 1, .s 17 1, .s 18 1], 33) rfl), (((((((Ext.setCell X1 (by have := HN.out; simp; omega) _).alloc _).alloc _).alloc _).alloc _).alloc _).alloc _)⟩ ?_
    rintro v ⟨L, X⟩
    have K := hid (known_conf L (c2_of))
    clear L
    refine (kIs_bad 17 (c2_is) (by decide) rfl K.out).yields ?_
    intro p1
    go_wp2_with (go_at_call 11; (with_reducible refine (is_errno_to (r := true) rfl _).yields ?_); intro p2)
    go_returns
    exact ⟨rfl, (by repeat (first | exact Ext.refl _ | assumption | refine Ext.more ?_ _ | refine Ext.drew ?_ | refine Ext.drewN ?_ _ | refine Ext.alloc ?_ _ | refine Ext.setCell ?_ (by simp; try omega) _ | refine Ext.trans ?_ (by assumption)))⟩
  · by_cases hin : -1 ≤ n ∧ n < 4
    · obtain ⟨i1, i2⟩ := hin
      have d1 : decide (-1 ≤ n) = true := by simpa using i1
      go_wp2_with fail
      go_returns
      exact ⟨rfl, X1.alloc _⟩
    have hout := hid (show n < -1 ∨ 4 ≤ n by omega)
    rcases (show n < -1 ∨ 4 ≤ n from hout.out) with ho | ho
    all_goals
      have d1 : True := trivial
      go_wp2_with fail
      refine calls_forget (fun v => Lies N (o3 n) v ∧ Ext w v) ⟨((l1.put (b := 13) (j := 34) (v := .i 1) rfl (.i n) HWF.out).one (by simp [s1, setRO, baseRO]) varRO rfl), ((Ext.setCell X1 (by have := HN.out; simp; omega) _).alloc _)⟩ ?_
      rintro v ⟨L, X⟩
      have K := hid (known_conf L (c3_of n))
      clear L
      refine (kIs_bad 17 (c3_is n hout.out) (by decide) rfl K.out).yields ?_
      intro p1
      go_wp2_with (go_at_call 11; (with_reducible refine (is_errno_to (r := true) rfl _).yields ?_); intro p2)
      go_returns
      exact ⟨rfl, (by repeat (first | exact Ext.refl _ | assumption | refine Ext.more ?_ _ | refine Ext.drew ?_ | refine Ext.drewN ?_ _ | refine Ext.alloc ?_ _ | refine Ext.setCell ?_ (by simp; try omega) _ | refine Ext.trans ?_ (by assumption)))⟩
  · go_wp2_with fail
    refine calls_forget (fun v => Lies N (o4) v ∧ Ext w v) ⟨((l1.put (b := 13) (j := 34) (v := .i 1) rfl (.i (-1)) (RV.wf_of rfl)).one (by simp [s1, setRO, baseRO]) varRO rfl), ((Ext.setCell X1 (by have := HN.out; simp; omega) _).alloc _)⟩ ?_
    rintro v ⟨L, X⟩
    have K := hid (known_conf L (c4_of))
    clear L
    refine (kIs_bad 17 (c4_is) (by decide) rfl K.out).yields ?_
    intro p1
    go_wp2_with (go_at_call 11; (with_reducible refine (is_errno_to (r := true) rfl _).yields ?_); intro p2)
    go_returns
    exact ⟨rfl, (by repeat (first | exact Ext.refl _ | assumption | refine Ext.more ?_ _ | refine Ext.drew ?_ | refine Ext.drewN ?_ _ | refine Ext.alloc ?_ _ | refine Ext.setCell ?_ (by simp; try omega) _ | refine Ext.trans ?_ (by assumption)))⟩
  · go_wp2_with fail
    refine calls_forget (fun v => Lies N (o5) v ∧ Ext w v) ⟨((l1.put (b := 13) (j := 33) (v := .s 12 3) rfl (.nil) (RV.wf_of rfl)).one (by simp [s1, setRO, baseRO]) varRO rfl), ((Ext.setCell X1 (by have := HN.out; simp; omega) _).alloc _)⟩ ?_
    rintro v ⟨L, X⟩
    have K := hid (known_conf L (c5_of))
    clear L
    refine (kIs_bad 17 (c5_is) (by decide) rfl K.out).yields ?_
    intro p1
    go_wp2_with (go_at_call 11; (with_reducible refine (is_errno_to (r := true) rfl _).yields ?_); intro p2)
    go_returns
    exact ⟨rfl, (by repeat (first | exact Ext.refl _ | assumption | refine Ext.more ?_ _ | refine Ext.drew ?_ | refine Ext.drewN ?_ _ | refine Ext.alloc ?_ _ | refine Ext.setCell ?_ (by simp; try omega) _ | refine Ext.trans ?_ (by assumption)))⟩

set_option linter.unusedVariables false in
set_option maxRecDepth 100000 in
theorem lifted (os : Os) (started : os.Started) (H : Type) (enc : TypeId × Value → H) :
    ReturnsInHanded {} Try.checked os 5 .any (Rows.confPlacesSpec.pre6 enc Try.prog Try.f5 Rows.confPlacesRow.domain false) (Rows.confPlacesSpec.post enc Try.prog Try.f5 false true false false) := by
  refine returnsInHanded_of_change (C := Try.checked) Own.own started (by kernel_rfl) Try.func5
    (ChangeSpec.witness6 (enc := enc) (C := Try.checked) false ⟨#[], #[.int .u8 0, .int .i64 0], []⟩ 8 (by kernel_rfl) (by kernel_rfl) (by kernel_rfl) (by kernel_rfl)) ?_
  intro W base args ds gs before hval0 hW hcnd _
  have hval : ∀ (j : Nat) t v, Try.f5.params[j]? = some t → args[j]? = some v → Value.okWide Try.prog W .any base t v := hval0
  have hW' := hW
  obtain ⟨p, q, hA0, hV, rfl, hfz, hnd⟩ := hW
  have hA : DataW.TrodAll enc Try.prog W 0 (fun _ => true) true Try.f5.params.toList args.toList ds p := hA0
  rw [Try.params5] at hA hval
  obtain ⟨v0, vs0, d0, ds0, p0, q0, hargs, rfl, rfl, h0, r0⟩ := trodAll_cons hA
  obtain ⟨v1, vs1, d1, ds1, p1, q1, rfl, rfl, rfl, h1, r1⟩ := trodAll_cons r0
  obtain ⟨rfl, rfl, rfl⟩ := trodAll_nil r1
  obtain rfl : args = #[v0, v1] := by cases args; simp_all
  obtain ⟨rfl, rfl⟩ := trodVars_none hV
  have k0 := h0
  have lt0 : ∀ x ∈ p0, x.block < W.heap.size := by obtain ⟨m, hm⟩ := k0; exact DataW.trod_lt m _ _ _ hm
  have k1 := h1
  have lt1 : ∀ x ∈ p1, x.block < W.heap.size := by obtain ⟨m, hm⟩ := k1; exact DataW.trod_lt m _ _ _ hm
  obtain ⟨a, rfl, rfl, rfl, wa⟩ := open_int Try.underlying5 (hval 0 5 v0 rfl rfl) h0
  obtain ⟨n, rfl, rfl, rfl, wn⟩ := open_int Try.underlying3 (hval 1 3 v1 rfl rfl) h1
  have ba := bounds_u8 wa
  clear hA0 hval0
  refine (walk a n (by omega) (by omega) wn W).mono fun e W' ⟨he, hx⟩ => ?_
  subst he
  exact ⟨_, rfl, _, _, _, [], _, [], hW', trodAll_mk1 (shut_bool Try.underlying4 _), (trodAll_cons_mk (Below.trod Own.laidOut (by kernel_rfl) (of_decide_eq_true (by kernel_rfl)) k0 hx.below lt0) (trodAll_cons_mk (Below.trod Own.laidOut (by kernel_rfl) (of_decide_eq_true (by kernel_rfl)) k1 hx.below lt1) trodAll_mk0)), rfl, hx.below.frame _, fun h => by cases h⟩

theorem proved : Rows.ConfPlacesSaid :=
  OpenClaim.holds_of_wide 5 Try.f5 rfl rfl rfl rfl rfl rfl rfl ⟨rfl, rfl, rfl, rfl, rfl⟩ rfl rfl rfl rfl rfl (by kernel_rfl) Try.func5 (by kernel_rfl)
    (of_decide_eq_true (by kernel_rfl)) (by unfold Func.isWrapper; first | (rw [if_pos (by decide +kernel)]; kernel_rfl) | (rw [if_neg (by decide +kernel)]; exact ⟨rfl, rfl⟩))
    (fun os started H enc _ => lifted os started H enc)

end confPlaces
end Go.Proofs.Ytgcbkhbpbmmfhaa
