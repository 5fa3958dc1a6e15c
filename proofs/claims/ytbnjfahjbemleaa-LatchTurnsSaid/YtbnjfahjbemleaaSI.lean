/- Two rows of numbers: are they the same (tontineref1.SameInts). -/
import Derived.Test.YtbnjfahjbemleaaInts
import Derived.WalkKit
import Derived.WalkSpells
import Derived.WalkLawsBesides
import Derived.Deep.LoopGhost
import Derived.Handy
namespace Go.Proofs.Ytbnjfahjbemleaa
open Go.RowKit
set_option maxRecDepth 100000 in
set_option maxHeartbeats 1000000 in
theorem sameI_any (w : World) (va vb : Value) (la lb : List Int) (ha : Ints w va la) (hb : Ints w vb lb) :
    Calls Try.prog 12 #[va, vb] w (Yields w (.bool (decide (la = lb)))) := by
  obtain ⟨pa, ca, rfl, hca, hma⟩ := ha.shape
  obtain ⟨pb, cb, rfl, hcb, hmb⟩ := hb.shape
  unfold maxLen at hma hmb
  have HA := hid ha
  have HB := hid hb
  clear ha hb
  by_cases hl : la.length = lb.length
  · have l1 : (la.length : Int) ≤ lb.length := by omega
    have l2 : (lb.length : Int) ≤ la.length := by omega
    have l3 : ((la.length : Int) == (lb.length : Int)) = true := by simp; omega
    have HL := hid hl
    clear hl
    go_enter Try.func12, Try.ntmps12
    go_wp2
    go_loopw [5] (fun v5 wr => Ext w wr ∧ ∃ k : Nat, v5 = .int .i64 k ∧ k ≤ la.length ∧ Hid (la.take k = lb.take k)) (fun v5 _ => (la.length - intOf v5).toNat)
    case atStart => exact ⟨Ext.refl _, 0, rfl, by omega, rfl⟩
    case round =>
      obtain ⟨hx, k, rfl, hk, ht⟩ := hrel
      by_cases hlt : k < la.length
      · obtain ⟨ba, oa, rfl, a0⟩ := HA.out.at k hlt
        obtain ⟨bb, ob, rfl, b0⟩ := HB.out.at k (by have := HL.out; omega)
        have m0 := more_cell (hx.cell a0)
        have m1 := more_cell (hx.cell b0)
        simp only [Nat.mul_one] at m0 m1
        have hs : Hid (la[k] = lb[k]'(by have := HL.out; omega) → la.take (k + 1) = lb.take (k + 1)) := fun h => by
          rw [List.take_succ_eq_append_getElem hlt, List.take_succ_eq_append_getElem (by have := HL.out; omega), ht.out, h]
        have hn : Hid (la[k] ≠ lb[k]'(by have := HL.out; omega) → la ≠ lb) := fun h e => h (by subst e; rfl)
        clear a0 b0
        generalize la[k] = x at *
        generalize lb[k]'(by have := HL.out; omega) = y at *
        have i1 : (k : Int) < la.length := by omega
        have i2 : (k : Int) < lb.length := by omega
        rcases (show x = y ∨ x ≠ y from by omega) with he | he
        · subst he
          have hsx := hs.out rfl
          clear hs
          go_wp2
          ((first | refine wp_region_more (by kernel_rfl) (by kernel_rfl) ?_ | refine wp_region_ext (by kernel_rfl) (by kernel_rfl) ?_); (try dsimp only [append_cons', append_nil']); (repeat (go_big_quiet_step ((fail)))); refine wpQuiet_nil ?_; rintro _ ⟨pq, rfl⟩)
          go_wp2
          go_roundw
          case rel => exact ⟨hx.trans (ext_more _ _), k + 1, by go_num, by omega, hid hsx⟩
          case measure => simp [intOf]; omega
        · have hb : (x == y) = false := by simpa using he
          go_wp2
          ((first | refine wp_region_more (by kernel_rfl) (by kernel_rfl) ?_ | refine wp_region_ext (by kernel_rfl) (by kernel_rfl) ?_); (try dsimp only [append_cons', append_nil']); (repeat (go_big_quiet_step ((fail)))); refine wpQuiet_nil ?_; rintro _ ⟨pq, rfl⟩)
          go_wp2
          go_returns
          exact ⟨by simp [hn.out he], hx.trans (ext_more _ _)⟩
      · obtain rfl : k = la.length := by omega
        have he := ht.out
        rw [List.take_length, HL.out, List.take_length] at he
        have HE := hid he
        clear he
        go_wp2
        go_returns
        exact ⟨by simp [HE.out], hx⟩
  · have hne : la ≠ lb := fun h => hl (by rw [h])
    have hl' : ((la.length : Int) == (lb.length : Int)) = false := by simp; omega
    go_enter Try.func12, Try.ntmps12
    go_wp2
    go_returns
    exact ⟨by simp [hne], ext_by⟩
theorem sameI_to {w : World} {va vb : Value} {l : List Int} (ha : Ints w va l) (hb : Ints w vb l) : Calls Try.prog 12 #[va, vb] w (Yields w (.bool true)) := by
  have := sameI_any w va vb l l ha hb
  rwa [show decide (l = l) = true by simp] at this
end Go.Proofs.Ytbnjfahjbemleaa
