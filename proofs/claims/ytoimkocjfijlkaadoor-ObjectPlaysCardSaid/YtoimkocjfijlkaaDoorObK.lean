/- The statements' own check of package object. -/
import Derived.Test.YtoimkocjfijlkaaDoorObS
import Derived.Test.YtoimkocjfijlkaaDoorErr
import Derived.WalkKit
import Derived.WalkSpells
import Derived.WalkLawsBesides
import Derived.Handy
namespace Go.Proofs.YtoimkocjfijlkaaDoor
open Go.RowKit
set_option linter.unusedSimpArgs false
namespace Ob

section
variable {w0 w w' : World} {x : Nat} {c c' : Nat → Int} {W W' : Nat → List Int} {A B C : Nat → Prop}
theorem st_wait_to (h : St w0 x c W A w) (id o : Int) (hw : wf64 id) (hl : (flat W).length ≤ 1000000) {on : Bool} {err : Nat} (e : waitR id o c W = ⟨on, err, c', W'⟩) :
    Calls Tryd.prog 6 #[ptrV x, .int .i64 id, .int .i64 o] w fun v w' => v = .returned (.tuple #[.bool on, errV err]) ∧ ∃ B, St w0 x c' W' B w' ∧ Mvp A B w w' := by
  have := st_wait h id o hw hl
  rw [e] at this
  exact this
theorem st_signal_to (h : St w0 x c W A w) (o : Int) {id : Int} {met : Bool} {err : Nat} (e : sigR o c W = ⟨id, met, err, c', W'⟩) :
    Calls Tryd.prog 9 #[ptrV x, .int .i64 o] w fun v w' => v = .returned (.tuple #[.int .i64 id, .bool met, errV err]) ∧ ∃ B, St w0 x c' W' B w' ∧ Mvp A B w w' := by
  have := st_signal h o
  rw [e] at this
  exact this
theorem st_drop_to (h : St w0 x c W A w) (id : Int) (hw : wf64 id) {r : Bool} (e : waits id W = r) :
    Calls Tryd.prog 11 #[ptrV x, .int .i64 id] w fun v w' => v = .returned (.bool r) ∧ ∃ B, St w0 x c (others id W) B w' ∧ Mvp A B w w' := by
  have := st_drop h id hw
  rw [e] at this
  exact this
theorem st_row_to (h : St w0 x c W A w) {i : Nat} (hi : i < 4) {o : Int} (ho : (i : Int) = o) {l : List Int} (e : W i = l) (hl : l.length ≤ 1000000) :
    Calls Tryd.prog 14 #[ptrV x, .int .i64 o] w fun e w' => ∃ vd, e = .returned vd ∧ Ext w w' ∧ w'.ownsRow w.heap.size 3 1 vd l.length (l.map fun k => .int .i64 k) := by
  subst e ho
  exact st_row h hi hl
theorem st_count_to (h : St w0 x c W A w) {i : Nat} (hi : i < 4) {o : Int} (ho : (i : Int) = o) {k : Int} (e : c i = k) : Calls Tryd.prog 13 #[ptrV x, .int .i64 o] w fun e w' => e = .returned (.int .i64 k) ∧ w' = w := by
  subst e ho
  exact st_count h hi
end

def tab {α : Type} (a b c d : α) : Nat → α := fun i => match i with
  | 0 => a
  | 1 => b
  | 2 => c
  | _ => d
set_option maxRecDepth 100000 in
set_option maxHeartbeats 8000000 in
theorem known_any (w : World) : Calls Tryd.prog 4 #[] w (Yields w (.bool true)) := by
  have hnn := fun w => run_neq_nil_nil' (P := Tryd.prog) w Tryd.underlying35
  have hen := fun w => run_eql_nil_nil' (P := Tryd.prog) w Tryd.underlying35
  go_enter Tryd.func4, Tryd.ntmps4
  go_wp2_with fail
  (with_reducible refine (st_new (Ext.refl w)).mono ?_)
  rintro e w1 ⟨rfl, A1, s1, -, -⟩
  have s1 : St w w.heap.size (tab 0 0 0 0) (tab [] [] [] []) A1 w1 := (s1.told (V := tab [] [] [] []) (fun j hj => by rcases four hj with rfl | rfl | rfl | rfl <;> rfl)).counts (fun j hj => by rcases four hj with rfl | rfl | rfl | rfl <;> rfl)
  generalize w.heap.size = x at *
  go_wp2_with fail
  (with_reducible refine (st_wait_to s1 1 2 (by unfold wf64; omega) (by decide) (on := false) (err := 0) rfl).mono ?_)
  rintro e w2 ⟨rfl, A2, s2, -⟩
  have s2 : St w x (tab 0 0 0 0) (tab [] [] [1] []) A2 w2 := s2.told (fun j hj => by rcases four hj with rfl | rfl | rfl | rfl <;> rfl)
  clear s1
  rw [errV_0]
  go_wp2_with fail
  (with_reducible refine (st_wait_to s2 1 3 (by unfold wf64; omega) (by decide) (on := false) (err := 20) rfl).mono ?_)
  rintro e w3 ⟨rfl, A3, s3, -⟩
  have s3 : St w x (tab 0 0 0 0) (tab [] [] [1] []) A3 w3 := s3
  clear s2
  rw [errV_pos (by decide)]
  go_wp2_with fail
  (with_reducible refine (st_wait_to s3 2 9 (by unfold wf64; omega) (by decide) (on := false) (err := 10) rfl).mono ?_)
  rintro e w4 ⟨rfl, A4, s4, -⟩
  have s4 : St w x (tab 0 0 0 0) (tab [] [] [1] []) A4 w4 := s4
  clear s3
  rw [errV_pos (by decide)]
  go_wp2_with fail
  (with_reducible refine (st_wait_to s4 5 2 (by unfold wf64; omega) (by decide) (on := false) (err := 0) rfl).mono ?_)
  rintro e w5 ⟨rfl, A5, s5, -⟩
  have s5 : St w x (tab 0 0 0 0) (tab [] [] [1, 5] []) A5 w5 := s5.told (fun j hj => by rcases four hj with rfl | rfl | rfl | rfl <;> rfl)
  clear s4
  rw [errV_0]
  go_wp2_with fail
  (with_reducible refine (st_signal_to s5 2 (id := 1) (met := true) (err := 0) rfl).mono ?_)
  rintro e w6 ⟨rfl, A6, s6, -⟩
  have s6 : St w x (tab 0 0 0 0) (tab [] [] [5] []) A6 w6 := s6.told (fun j hj => by rcases four hj with rfl | rfl | rfl | rfl <;> rfl)
  clear s5
  rw [errV_0]
  go_wp2_with fail
  (with_reducible refine (st_signal_to s6 3 (id := 0) (met := false) (err := 0) rfl).mono ?_)
  rintro e w7 ⟨rfl, A7, s7, -⟩
  have s7 : St w x (tab 0 0 0 1) (tab [] [] [5] []) A7 w7 := s7.counts (fun j hj => by rcases four hj with rfl | rfl | rfl | rfl <;> rfl)
  clear s6
  rw [errV_0]
  go_wp2_with fail
  (with_reducible refine (st_wait_to s7 7 3 (by unfold wf64; omega) (by decide) (on := true) (err := 0) rfl).mono ?_)
  rintro e w8 ⟨rfl, A8, s8, -⟩
  have s8 : St w x (tab 0 0 0 0) (tab [] [] [5] []) A8 w8 := s8.counts (fun j hj => by rcases four hj with rfl | rfl | rfl | rfl <;> rfl)
  clear s7
  rw [errV_0]
  have S8 := hid s8
  clear s8
  go_wp2_with (go_at_call 16; (with_reducible refine (is_errno_to (r := true) rfl _).yields ?_); intro p1)
  (with_reducible refine (st_count_to (S8.out.ext (ext_more _ _)) (i := 3) (by decide) (o := 3) rfl (k := 0) rfl).mono ?_)
  rintro e w9 ⟨rfl, hw⟩
  rw [hw]
  clear hw
  clear w9
  go_wp2_with fail
  (with_reducible refine (st_row_to (S8.out.ext (ext_more _ _)) (i := 2) (by decide) (o := 2) rfl (l := [5]) rfl (by decide)).mono ?_)
  rintro e w10 ⟨v10, rfl, x10, o10⟩
  obtain ⟨q10, c10, rfl, -⟩ := (ints_of_owns o10).shape
  have S10 := hid ((S8.out.ext (ext_more _ _)).ext x10)
  clear S8 x10 o10
  go_wp2_with fail
  (with_reducible refine (st_row_to S10.out (i := 2) (by decide) (o := 2) rfl (l := [5]) rfl (by decide)).mono ?_)
  rintro e w11 ⟨v11, rfl, x11, o11⟩
  obtain ⟨q11, c11, rfl, -, -, hat⟩ := ints_of_owns o11
  obtain ⟨b, off, rfl, hc⟩ := hat (by decide)
  have k0 := hc 0 5 rfl
  simp only [Nat.zero_mul, Nat.add_zero] at k0
  have S11 := hid (S10.out.ext x11)
  clear S10 x11 o11 hc hat
  go_wp2_with fail
  (with_reducible refine (st_drop_to S11.out 5 (by unfold wf64; omega) (r := true) rfl).mono ?_)
  rintro e w12 ⟨rfl, A12, s12, -⟩
  have S12 := hid s12
  clear S11 s12 k0
  go_wp2_with fail
  (with_reducible refine (st_drop_to S12.out 5 (by unfold wf64; omega) (r := false) rfl).mono ?_)
  rintro e w13 ⟨rfl, A13, s13, -⟩
  have S13 := hid s13
  clear S12 s13
  go_wp2_with fail
  go_returns
  exact ⟨rfl, S13.out.xt⟩
end Ob
end Go.Proofs.YtoimkocjfijlkaaDoor
