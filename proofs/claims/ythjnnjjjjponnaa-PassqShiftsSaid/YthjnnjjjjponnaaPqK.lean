/- The statements' own check of package passq. -/
import Derived.Test.YthjnnjjjjponnaaPqS
import Derived.Test.YthjnnjjjjponnaaErr
import Derived.WalkKit
import Derived.WalkSpells
import Derived.WalkLawsBesides
import Derived.Handy
namespace Go.Proofs.Ythjnnjjjjponnaa
open Go.RowKit

theorem is_errno_to {n m : Int} {r : Bool} (e : (n == m) = r) (w : World) : Calls Try.prog 15 #[.iface 42 (.int .i64 n), .iface 42 (.int .i64 m)] w (Yields w (.bool r)) := e ▸ Err.is_errno n m w

set_option maxRecDepth 100000 in
set_option maxHeartbeats 8000000 in
theorem known_any (w : World) : Calls Try.prog 7 #[] w (Yields w (.bool true)) := by
  have hnn := fun w => run_neq_nil_nil' (P := Try.prog) w Try.underlying27
  have hen := fun w => run_eql_nil_nil' (P := Try.prog) w Try.underlying27
  have heq := entEq
  go_enter Try.func7, Try.ntmps7
  go_wp2_with fail
  (with_reducible refine (st_new 2 w).mono ?_)
  rintro e w1 ⟨rfl, s1⟩
  have s1 : St w w.heap.size 2 [] [] w1 := s1
  go_wp2_with fail
  (with_reducible refine (st_put s1 7 1 (by decide) (by decide) (by decide) (by decide)).mono ?_)
  rintro e w2 ⟨rfl, s2⟩
  have s2 : St w w.heap.size 2 [(7, 1)] [] w2 := s2
  go_wp2_with fail
  (with_reducible refine (st_put s2 3 2 (by decide) (by decide) (by decide) (by decide)).mono ?_)
  rintro e w3 ⟨rfl, s3⟩
  have s3 : St w w.heap.size 2 [(3, 2), (7, 1)] [] w3 := s3
  clear s1 s2
  go_wp2_with fail
  (with_reducible refine (st_full s3 1 3 (by decide) (by decide) (by decide) (by decide)).mono ?_)
  rintro e w4 ⟨rfl, s4⟩
  clear s3
  go_wp2_with fail
  (with_reducible refine (st_clash s4 1 2 (by decide) (by decide) (by decide)).mono ?_)
  rintro e w5 ⟨rfl, s5⟩
  clear s4
  go_wp2_with fail
  (with_reducible refine (st_min s5).mono ?_)
  rintro e w6 ⟨rfl, s6⟩
  clear s5
  simp only [minV]
  go_wp2_with fail
  have s7 := s6.alloc (.cells #[.int .i64 3, .int .i64 2] 31 (0, 0))
  clear s6
  (with_reducible refine (st_rekey s7 2 9 (by decide) (by decide) (by decide)).mono ?_)
  rintro e w8 ⟨rfl, s8⟩
  have s8 : St w w.heap.size 2 [(7, 1), (9, 2)] [(w6.heap.size, .cells #[.int .i64 3, .int .i64 2] 31 (0, 0))] w8 := s8
  clear s7
  go_wp2_with fail
  (with_reducible refine (st_min s8).mono ?_)
  rintro e w9 ⟨rfl, s9⟩
  clear s8
  simp only [minV]
  go_wp2_with fail
  have s10 := s9.alloc (.cells #[.int .i64 7, .int .i64 1] 31 (0, 0))
  clear s9
  (with_reducible refine (st_shift s10 8 (by decide) (by decide)).mono ?_)
  rintro e w11 ⟨rfl, s11⟩
  have s11 : St w w.heap.size 2 [(0, 1), (1, 2)] [(w9.heap.size, .cells #[.int .i64 7, .int .i64 1] 31 (0, 0)), (w6.heap.size, .cells #[.int .i64 3, .int .i64 2] 31 (0, 0))] w11 := s11
  clear s10
  go_wp2_with fail
  (with_reducible refine (st_pass s11 2 (by decide)).mono ?_)
  rintro e w12 ⟨rfl, s12⟩
  clear s11
  have hpv : passV [(0, 1), (1, 2)] 2 = .tuple #[.int .i64 1, .bool true] := rfl
  rw [hpv]
  clear hpv
  go_wp2_with fail
  (with_reducible refine (st_none s12 5 (by decide) (by decide)).mono ?_)
  rintro e w13 ⟨rfl, s13⟩
  clear s12
  have b1 := s13.blk (p := (w9.heap.size, .cells #[.int .i64 7, .int .i64 1] 31 (0, 0))) (by simp)
  have b2 := s13.blk (p := (w6.heap.size, .cells #[.int .i64 3, .int .i64 2] 31 (0, 0))) (by simp)
  have m0 : w13.cell? ⟨w6.heap.size, 0, none⟩ = some (.int .i64 3) := by simp [World.cell?, b2]
  have m1 : w13.cell? ⟨w6.heap.size, 1, none⟩ = some (.int .i64 2) := by simp [World.cell?, b2]
  have n1 : w13.cell? ⟨w9.heap.size, 1, none⟩ = some (.int .i64 1) := by simp [World.cell?, b1]
  have l1 := lt_blk b1
  have l2 := lt_blk b2
  simp only at l1 l2
  clear b1 b2
  have S13 := hid s13
  clear s13
  go_wp2_with (go_at_call 15; (with_reducible refine (is_errno_to (r := true) rfl _).yields ?_); intro p1)
  (with_reducible refine (st_len (S13.out.ext (ext_more _ _))).mono ?_)
  rintro e w14 ⟨rfl, s14⟩
  have s14 := hid s14
  clear m0 m1 n1 l1 l2
  go_wp2_with fail
  (with_reducible refine (st_all s14.out (by decide)).mono ?_)
  rintro e w15 ⟨p, c, rfl, s15, -⟩
  have s15 := hid s15
  clear s14 S13
  go_wp2_with fail
  (with_reducible refine (st_all s15.out (by decide)).mono ?_)
  rintro e w16 ⟨p', c', rfl, s16, r16⟩
  obtain ⟨g, c2, e, -, hg, -, -⟩ := r16.shape (by decide)
  injection e with e _ ec
  subst e ec
  obtain ⟨k0, k1, -, -⟩ := r16.cell (i := 0) (p := (0, 1)) rfl
  simp only [Nat.zero_mul, Nat.zero_add] at k0 k1
  have s16 := hid s16.xt
  clear r16 s15
  go_wp2
  go_returns
  exact ⟨rfl, s16.out⟩
end Go.Proofs.Ythjnnjjjjponnaa
