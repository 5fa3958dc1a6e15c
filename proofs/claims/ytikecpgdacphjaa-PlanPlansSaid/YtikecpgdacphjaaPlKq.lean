/- What every statement of stage 13 asks first: known; the statements' own configuration's slots. -/
import Derived.Test.YtikecpgdacphjaaPl1q
import Derived.Test.YtikecpgdacphjaaBase
import Derived.Test.YtikecpgdacphjaaSI
namespace Go.Proofs.Ytikecpgdacphjaa
open Go.RowKit

theorem kOwn {N : Nat} {w : World} (k : KV N baseC w) (i : Int) (l : List Int) (n : Nat) (hn : l.length = n) (e : ownersL baseC i = l) : Calls Try.prog 10 #[baseV N, .int .i64 i] w fun e w' => ∃ p q, e = .returned (.slice p n q) ∧ Ext w w' ∧ Ints w' (.slice p n q) l := by
  subst hn
  subst e
  refine (k.val ▸ owners_all k.v i).mono ?_
  rintro e w' ⟨u, rfl, hx, hI⟩
  obtain ⟨p, q, rfl, -, -⟩ := hI.shape
  exact ⟨p, q, rfl, hx, hI⟩
theorem kSlot {N : Nat} {w : World} (k : KV N baseC w) {t r : Int} (ht : wf64 t) (e : slotN baseC t = r) : Calls Try.prog 15 #[baseV N, .int .i64 t] w (Yields w (.int .i64 r)) := k.val ▸ slot_to k.v ht e
theorem kEpoch {N : Nat} {w : World} (k : KV N baseC w) {t r : Int} (ht : wf64 t) (e : epochN baseC t = r) : Calls Try.prog 16 #[baseV N, .int .i64 t] w (Yields w (.int .i64 r)) := k.val ▸ epoch_to k.v ht e
theorem kBegins {N : Nat} {w : World} (k : KV N baseC w) {t : Int} {r : Bool} (ht : wf64 t) (e : beginsN baseC t = r) : Calls Try.prog 17 #[baseV N, .int .i64 t] w (Yields w (.bool r)) := k.val ▸ begins_to k.v ht e
theorem pk1 : ownersL baseC 1 = [0, 0, 0, 1, 2, 3, 0, 0] := by decide +kernel
theorem pk2 : ownersL baseC 2 = [] := by decide +kernel
theorem pk3 : cntTo [0, 0, 0, 1, 2, 3, 0, 0] 0 ([0, 0, 0, 1, 2, 3, 0, 0] : List Int).length = 5 := by decide +kernel
theorem pk4 : cntTo [0, 0, 0, 1, 2, 3, 0, 0] 3 ([0, 0, 0, 1, 2, 3, 0, 0] : List Int).length = 1 := by decide +kernel
theorem pk5 : slotN baseC 19 = 3 := by decide +kernel
theorem pk6 : epochN baseC 19 = 1 := by decide +kernel
theorem pk7 : beginsN baseC 32 = true := by decide +kernel
theorem pk8 : beginsN baseC 33 = false := by decide +kernel
theorem pk9 : wf64 19 ∧ wf64 32 ∧ wf64 33 := by unfold wf64; decide

set_option maxRecDepth 100000 in
set_option maxHeartbeats 4000000 in
theorem known_any (w : World) : Calls Try.prog 7 #[] w (Yields w (.bool true)) := by
  go_enter Try.func7, Try.ntmps7
  go_wp2_with fail
  refine (base_to _).mono ?_
  rintro e w1 ⟨N, rfl, n1, l1, x1, s1⟩
  go_upto_region 2 with fail
  refine wp_forget (fun v => Lies N (baseRO ++ [varRO]) v ∧ Ext w v) ⟨l1.one s1 varRO rfl, x1.alloc _⟩ ?_
  rintro W ⟨L, X⟩
  have K := hid (known_conf L (c := baseC) (by rfl))
  have k0 : W.cell? ⟨N + 14, 0, none⟩ = some (.int .i64 8) := L.cell (b := 14) (j := 0) rfl rfl
  have k1 : W.cell? ⟨N + 14, 1, none⟩ = some (.int .i64 2) := L.cell (b := 14) (j := 1) rfl rfl
  have k2 : W.cell? ⟨N + 14, 2, none⟩ = some (.slice (some ⟨N + 3, 0, none⟩) 2 2) := L.cell (b := 14) (j := 2) rfl rfl
  have k3 : W.cell? ⟨N + 14, 3, none⟩ = some (.slice (some ⟨N + 13, 0, none⟩) 4 4) := L.cell (b := 14) (j := 3) rfl rfl
  clear L l1 x1 s1 n1
  go_upto_region 3 with (go_at_call 10; (refine (kOwn K.out 1 _ 8 rfl pk1).mono ?_); rintro e w2 ⟨p, q, rfl, hx2, hI2⟩)
  have X2 := X.trans hx2
  have HI := hid hI2
  have K2 := hid (K.out.ext hx2)
  have c0 := hx2.cell k0
  have c1 := hx2.cell k1
  have c2 := hx2.cell k2
  have c3 := hx2.cell k3
  have hN : N + 14 < w2.heap.size := World.block_lt_of_cell? _ _ c0
  clear hI2 hx2 X K k0 k1 k2 k3
  go_wp2_with (first
    | (go_at_call 12; (with_reducible refine (pcount_to HI.out pk3).yields ?_); intro p1)
    | (go_at_call 12; (with_reducible refine (pcount_to (HI.out.ext (ext_more _ _)) pk4).yields ?_); intro p2)
    | (go_at_call 10; (refine (kOwn (K2.out.ext ext_by) 2 _ 0 rfl pk2).mono ?_); rintro e w3 ⟨p3, q3, rfl, hx3, hI3⟩; clear hI3; have d0 := hx3.cell (more_cell c0 _); have d1 := hx3.cell (more_cell c1 _); have d2 := hx3.cell (more_cell c2 _); have d3 := hx3.cell (more_cell c3 _); have hx4 : Ext w2 w3 := Ext.trans ext_by hx3; have hN3 : N + 14 < w3.heap.size := World.block_lt_of_cell? _ _ d0)
    | (go_at_call 15; (with_reducible refine (kSlot (K2.out.ext ext_by) pk9.1 pk5).yields ?_); intro p5)
    | (go_at_call 16; (with_reducible refine (kEpoch (K2.out.ext ext_by) pk9.1 pk6).yields ?_); intro p6)
    | (go_at_call 17; (with_reducible refine (kBegins (K2.out.ext ext_by) pk9.2.1 pk7).yields ?_); intro p7)
    | (go_at_call 17; (with_reducible refine (kBegins (K2.out.ext ext_by) pk9.2.2 pk8).yields ?_); intro p8))
  go_returns
  exact ⟨by simp, X2.trans (hx4.trans ext_by)⟩
end Go.Proofs.Ytikecpgdacphjaa
