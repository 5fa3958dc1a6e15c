/- The statements' own check of package tree. -/
import Derived.Test.YtfccmdmfllicdaaDoorTs
import Derived.Test.YtfccmdmfllicdaaDoorErr
namespace Go.Proofs.YtfccmdmfllicdaaDoor
open Go.RowKit
set_option linter.unusedSimpArgs false

theorem is_errno_to {n m : Int} {r : Bool} (e : (n == m) = r) (w : World) : Calls Tryd.prog 24 #[.iface 52 (.int .i64 n), .iface 52 (.int .i64 m)] w (Yields w (.bool r)) := e ▸ Err.is_errno n m w
theorem nn_eq (a b : Nn) (w : World) : (binOp .eql 48 (nnV a) (nnV b)).run Tryd.prog w = .ok (.bool (decide (a = b))) w := by
  obtain ⟨a1, a2, a3, a4, a5, a6⟩ := a
  obtain ⟨b1, b2, b3, b4, b5, b6⟩ := b
  by_cases h1 : a1 = b1
  case neg => simp [h1, go_sem]
  subst h1
  by_cases h2 : a2 = b2
  case neg => simp [h2, go_sem]
  subst h2
  by_cases h3 : a3 = b3
  case neg => simp [h3, go_sem]
  subst h3
  by_cases h4 : a4 = b4
  case neg => simp [h4, go_sem]
  subst h4
  by_cases h5 : a5 = b5
  case neg => simp [h5, go_sem]
  subst h5
  by_cases h6 : a6 = b6
  case neg => simp [h6, go_sem]
  subst h6
  simp [go_sem]

def kr (r : Bool) (now : Int) : Nd := ⟨0, -1, 1, 0, false, r, now⟩
def k1 (r : Bool) (p : Int) : Nd := ⟨1, 0, 1, p, true, r, 0⟩
def k2 (r : Bool) (p : Int) : Nd := ⟨2, 0, 2, p, true, r, 0⟩
def k3 : Nd := ⟨3, 0, 1, 0, false, false, 0⟩
theorem up0 {l : List Nd} {r : Nd} (hr : r ∈ l) (h0 : r.id = 0) (hp : r.par = -1) (hn : getU l (-1) = none) : Up l 1 0 := ⟨r, hr, h0, by rw [hp]; exact hn⟩

set_option maxRecDepth 100000 in
set_option maxHeartbeats 8000000 in
theorem known_any (w : World) : Calls Tryd.prog 4 #[] w (Yields w (.bool true)) := by
  have w0 : Wf [kr false 0] := rootN_wf
  have u0 : Up [kr false 0] 1 0 := ⟨_, List.mem_cons_self, rfl, rfl⟩
  have a0 : addC [kr false 0] 1 0 1 1 true = 0 := by kernel_rfl
  have w1 := w0.add a0 u0
  have e1 : insT (newN [kr false 0] 0 1 1 true) [kr false 0] = [kr false 0, k1 false 0] := by kernel_rfl
  rw [e1] at w1
  have u1 : Up [kr false 0, k1 false 0] 1 0 := ⟨_, List.mem_cons_self, rfl, rfl⟩
  have a1 : addC [kr false 0, k1 false 0] 1 0 2 2 true = 0 := by kernel_rfl
  have w2 := w1.add a1 u1
  have e2 : insT (newN [kr false 0, k1 false 0] 0 2 2 true) [kr false 0, k1 false 0] = [kr false 0, k1 false 0, k2 false 0] := by kernel_rfl
  rw [e2] at w2
  have u2 : Up [kr false 0, k1 false 0, k2 false 0] 1 0 := ⟨_, List.mem_cons_self, rfl, rfl⟩
  have a2 : addC [kr false 0, k1 false 0, k2 false 0] 1 0 3 1 false = 0 := by kernel_rfl
  have w3 := w2.add a2 u2
  have e3 : insT (newN [kr false 0, k1 false 0, k2 false 0] 0 3 1 false) [kr false 0, k1 false 0, k2 false 0] = [kr false 0, k1 false 0, k2 false 0, k3] := by kernel_rfl
  rw [e3] at w3
  have u31 : Up [kr false 0, k1 false 0, k2 false 0, k3] 2 1 := ⟨k1 false 0, by simp, rfl, _, List.mem_cons_self, rfl, rfl⟩
  have u33 : Up [kr false 0, k1 false 0, k2 false 0, k3] 2 3 := ⟨k3, by simp, rfl, _, List.mem_cons_self, rfl, rfl⟩
  have a3 : addC [kr false 0, k1 false 0, k2 false 0, k3] 2 1 4 1 true = 13 := by kernel_rfl
  have a4 : addC [kr false 0, k1 false 0, k2 false 0, k3] 2 3 3 1 true = 20 := by kernel_rfl
  have w4 : Wf (rdyU true [kr false 0, k1 false 0, k2 false 0, k3] 1) := w3.rdyU (n := k1 false 0) (by simp) rfl true
  have e4 : rdyU true [kr false 0, k1 false 0, k2 false 0, k3] 1 = [kr true 0, k1 true 0, k2 false 0, k3] := by kernel_rfl
  rw [e4] at w4
  have w5 : Wf (rdyU true [kr true 0, k1 true 0, k2 false 0, k3] 2) := w4.rdyU (n := k2 false 0) (by simp) rfl true
  have e5 : rdyU true [kr true 0, k1 true 0, k2 false 0, k3] 2 = [kr true 0, k1 true 0, k2 true 0, k3] := by kernel_rfl
  rw [e5] at w5
  have r5 : runU 6 [kr true 0, k1 true 0, k2 true 0, k3] 0 = some (1, [kr true 0, k1 true 720720, k2 true 0, k3]) := by kernel_rfl
  have e6 : upR 6 [kr true 0, k1 true 720720, k2 true 0, k3] 1 = [kr true 0, k1 true 720720, k2 true 0, k3] := by kernel_rfl
  obtain ⟨R6, hR6, w6, -⟩ := w5.run (r := kr true 0) List.mem_cons_self rfl rfl
  obtain rfl := Option.some.inj (r5.symm.trans hR6)
  rw [e6] at w6
  have r6 : runU 6 [kr true 0, k1 true 720720, k2 true 0, k3] 0 = some (2, [kr true 0, k1 true 720720, k2 true 360360, k3]) := by kernel_rfl
  have e7 : upR 6 [kr true 0, k1 true 720720, k2 true 360360, k3] 2 = [kr true 0, k1 true 720720, k2 true 360360, k3] := by kernel_rfl
  obtain ⟨R7, hR7, w7, -⟩ := w6.run (r := kr true 0) List.mem_cons_self rfl rfl
  obtain rfl := Option.some.inj (r6.symm.trans hR7)
  rw [e7] at w7
  have r7 : runU 6 [kr true 0, k1 true 720720, k2 true 360360, k3] 0 = some (2, [kr true 360360, k1 true 720720, k2 true 720720, k3]) := by kernel_rfl
  have e8 : upR 6 [kr true 360360, k1 true 720720, k2 true 720720, k3] 2 = [kr true 360360, k1 true 720720, k2 true 720720, k3] := by kernel_rfl
  obtain ⟨R8, hR8, w8, -⟩ := w7.run (r := kr true 0) List.mem_cons_self rfl rfl
  obtain rfl := Option.some.inj (r7.symm.trans hR8)
  rw [e8] at w8
  have u83 : Up [kr true 360360, k1 true 720720, k2 true 720720, k3] 2 3 := ⟨k3, by simp, rfl, _, List.mem_cons_self, rfl, rfl⟩
  have u89 : Up [kr true 360360, k1 true 720720, k2 true 720720, k3] 0 9 := by show getU _ _ = none; rfl
  have hnn := fun w => run_neq_nil_nil' (P := Tryd.prog) w Tryd.underlying32
  have hen := fun w => run_eql_nil_nil' (P := Tryd.prog) w Tryd.underlying32
  have heq := nn_eq ⟨2, 0, 2, 720720, true, true⟩ ⟨2, 0, 2, 720720, true, true⟩
  have W0 := hid w0
  have W1 := hid w1
  have W2 := hid w2
  have W3 := hid w3
  have W4 := hid w4
  have W5 := hid w5
  have W6 := hid w6
  have W7 := hid w7
  have W8 := hid w8
  have U := hid (And.intro u0 (And.intro u1 (And.intro u2 (And.intro u31 (And.intro u33 (And.intro u83 u89))))))
  have A := hid (And.intro a0 (And.intro a1 (And.intro a2 (And.intro a3 a4))))
  have E := hid (And.intro e1 (And.intro e2 (And.intro e3 (And.intro e4 (And.intro e5 (And.intro e6 (And.intro e7 e8)))))))
  have RR := hid (And.intro r5 (And.intro r6 r7))
  clear w0 w1 w2 w3 w4 w5 w6 w7 w8 u0 u1 u2 u31 u33 u83 u89 a0 a1 a2 a3 a4 e1 e2 e3 e4 e5 e6 e7 e8 r5 r6 r7 hR6 hR7 hR8
  go_enter Tryd.func4, Tryd.ntmps4
  go_wp2_with fail
  (with_reducible refine (ts_new w).mono ?_)
  rintro e v1 ⟨x, rfl, s1⟩
  have s1 : TSt w x [kr false 0] [] v1 := s1
  go_wp2_with fail
  (with_reducible refine (ts_add s1 W0.out 1 0 1 1 true (by decide) U.out.1 A.out.1).mono ?_)
  rintro e v2 ⟨rfl, s2⟩
  rw [E.out.1] at s2
  clear s1
  go_wp2_with fail
  (with_reducible refine (ts_add s2 W1.out 1 0 2 2 true (by decide) U.out.2.1 A.out.2.1).mono ?_)
  rintro e v3 ⟨rfl, s3⟩
  rw [E.out.2.1] at s3
  clear s2
  go_wp2_with fail
  (with_reducible refine (ts_add s3 W2.out 1 0 3 1 false (by decide) U.out.2.2.1 A.out.2.2.1).mono ?_)
  rintro e v4 ⟨rfl, s4⟩
  rw [E.out.2.2.1] at s4
  clear s3
  go_wp2_with fail
  (with_reducible refine (ts_adde s4 W3.out 2 1 4 1 true (by decide) U.out.2.2.2.1 A.out.2.2.2.1 (by decide)).mono ?_)
  rintro e v5 ⟨rfl, s5⟩
  clear s4
  rw [errV_pos (by decide)]
  go_wp2_with fail
  (with_reducible refine (ts_adde s5 W3.out 2 3 3 1 true (by decide) U.out.2.2.2.2.1 A.out.2.2.2.2 (by decide)).mono ?_)
  rintro e v6 ⟨rfl, s6⟩
  clear s5
  rw [errV_pos (by decide)]
  go_wp2_with fail
  (with_reducible refine (ts_idle s6 W3.out (r := kr false 0) List.mem_cons_self rfl rfl).mono ?_)
  rintro e v7 ⟨rfl, s7⟩
  clear s6
  go_wp2_with fail
  (with_reducible refine (ts_readyI s7 W3.out (n := k1 false 0) (by simp) rfl true (id := 1) rfl).mono ?_)
  rintro e v8 ⟨rfl, s8⟩
  rw [E.out.2.2.2.1] at s8
  clear s7
  go_wp2_with fail
  (with_reducible refine (ts_readyI s8 W4.out (n := k2 false 0) (by simp) rfl true (id := 2) rfl).mono ?_)
  rintro e v9 ⟨rfl, s9⟩
  rw [E.out.2.2.2.2.1] at s9
  clear s8
  go_wp2_with fail
  (with_reducible refine (ts_run s9 W5.out (r := kr true 0) List.mem_cons_self rfl rfl RR.out.1).mono ?_)
  rintro e v10 ⟨rfl, s10⟩
  rw [E.out.2.2.2.2.2.1] at s10
  clear s9
  go_wp2_with fail
  (with_reducible refine (ts_run s10 W6.out (r := kr true 0) List.mem_cons_self rfl rfl RR.out.2.1).mono ?_)
  rintro e v11 ⟨rfl, s11⟩
  rw [E.out.2.2.2.2.2.2.1] at s11
  clear s10
  go_wp2_with fail
  (with_reducible refine (ts_run s11 W7.out (r := kr true 0) List.mem_cons_self rfl rfl RR.out.2.2).mono ?_)
  rintro e v12 ⟨rfl, s12⟩
  rw [E.out.2.2.2.2.2.2.2] at s12
  clear s11
  go_wp2_with fail
  (with_reducible refine (ts_nodeI s12 W8.out (n := k2 true 720720) (by simp) (id := 2) rfl).mono ?_)
  rintro e v13 ⟨rfl, s13⟩
  clear s12
  have hv : nnV (k2 true 720720).nn = .agg #[.int .i64 2, .int .i64 0, .int .i64 2, .int .i64 720720, .bool true, .bool true] := rfl
  rw [hv]
  clear hv
  go_wp2_with fail
  have s14 := s13.alloc (.cells #[.int .i64 2, .int .i64 0, .int .i64 2, .int .i64 720720, .bool true, .bool true] 48 (0, 0))
  clear s13
  have hrm : ∀ n, getU [kr true 360360, k1 true 720720, k2 true 720720, k3] 0 = some n → n.par < 0 := fun n hn => by
    have hg : getU [kr true 360360, k1 true 720720, k2 true 720720, k3] 0 = some (kr true 360360) := rfl
    rw [hg] at hn
    obtain rfl := Option.some.inj hn
    decide
  (with_reducible refine (ts_remove13 s14 W8.out 0 hrm).mono ?_)
  clear hrm
  rintro e v15 ⟨rfl, s15⟩
  clear s14
  rw [errV_pos (by decide)]
  have b1 := s15.blk List.mem_cons_self
  simp only at b1
  generalize v13.heap.size = B at *
  have hBl : B < v15.heap.size := lt_blk b1
  have m0 : v15.cell? ⟨B, 0, none⟩ = some (.int .i64 2) := by simp [World.cell?, b1]
  have m1 : v15.cell? ⟨B, 1, none⟩ = some (.int .i64 0) := by simp [World.cell?, b1]
  have m2 : v15.cell? ⟨B, 2, none⟩ = some (.int .i64 2) := by simp [World.cell?, b1]
  have m3 : v15.cell? ⟨B, 3, none⟩ = some (.int .i64 720720) := by simp [World.cell?, b1]
  have m4 : v15.cell? ⟨B, 4, none⟩ = some (.bool true) := by simp [World.cell?, b1]
  have m5 : v15.cell? ⟨B, 5, none⟩ = some (.bool true) := by simp [World.cell?, b1]
  have S15 := hid s15
  clear s15 b1
  simp only [nnV] at heq
  go_wp2_with (go_at_call 24; (with_reducible refine (is_errno_to (r := true) rfl _).yields ?_); intro p1)
  (with_reducible refine (ts_nodes (S15.out.ext (by repeat (first | exact Ext.refl _ | assumption | refine Ext.more ?_ _ | refine Ext.drew ?_ | refine Ext.drewN ?_ _ | refine Ext.alloc ?_ _ | refine Ext.setCell ?_ (by simp; try omega) _ | refine Ext.trans ?_ (by assumption)))) W8.out (by simp)).mono ?_)
  rintro e v16 ⟨g, c, cur, rfl, hc1, hc2, s16, -⟩
  have S16 := hid s16
  clear s16 m0 m1 m2 m3 m4 m5 hBl heq
  go_wp2_with fail
  (with_reducible refine (ts_deep S16.out W8.out 3 2 (by decide) U.out.2.2.2.2.2.1).mono ?_)
  rintro e v17 ⟨rfl, s17⟩
  have S17 := hid s17
  clear s17 S16
  go_wp2_with fail
  (with_reducible refine (ts_deep S17.out W8.out 9 0 (by decide) U.out.2.2.2.2.2.2).mono ?_)
  rintro e v18 ⟨rfl, s18⟩
  have hx := hid s18.xt
  clear s18 S17
  go_wp2
  go_returns
  exact ⟨by simp, hx.out⟩
end Go.Proofs.YtfccmdmfllicdaaDoor
