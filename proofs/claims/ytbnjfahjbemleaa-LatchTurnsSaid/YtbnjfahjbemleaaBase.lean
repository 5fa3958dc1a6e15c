/- The statements' own configuration, as it lies in memory. -/
import Derived.Test.YtbnjfahjbemleaaRows
import Derived.Test.YtbnjfahjbemleaaLays
import Derived.WalkKit
import Derived.WalkSpells
import Derived.WalkLawsBesides
import Derived.Handy
namespace Go.Proofs.Ytbnjfahjbemleaa
open Go.RowKit

def baseRO : List RO := [
  ([.i 8, .i 2, .s 3 2, .s 13 4], 29),
  ([.i 2, .i 2, .i 2, .i 2], 3),
  ([.i 5, .i 1, .i 1, .i 1], 3),
  ([.s 1 4, .s 2 4], 34),
  ([.i 1, .i 3], 3),
  ([.i 2, .i 3], 3),
  ([.s 4 2, .s 5 2], 34),
  ([.i 3], 3),
  ([.s 7 1], 34),
  ([.i 0, .i 1], 3),
  ([.i 3], 3),
  ([.s 10 1], 34),
  ([.i 0, .i 1, .i 2], 3),
  ([.i 0, .u 0, .s 6 2, .nil, .i (-1), .i 4, .i 2, .i 4, .i 3, .i 2,
    .i 1, .u 1, .s 8 1, .s 9 2, .i 0, .i 4, .i 2, .i 4, .i 3, .i 2,
    .i 1, .u 2, .s 11 1, .nil, .i (-1), .i 4, .i 2, .i 4, .i 3, .i 2,
    .i 2, .u 3, .nil, .s 12 3, .i 1, .i 4, .i 2, .i 4, .i 3, .i 2], 58)]

abbrev baseV (N : Nat) : Value := .agg #[.int .i64 8, .int .i64 2, .slice (some ⟨N + 3, 0, none⟩) 2 2, .slice (some ⟨N + 13, 0, none⟩) 4 4]

set_option maxRecDepth 100000 in
set_option maxHeartbeats 4000000 in
theorem base_any (w : World) : Calls Try.prog 7 #[] w fun e w' => e = .returned (baseV w.heap.size) ∧ w' = allocs w (baseRO.map (RO.obj w.heap.size)) := by
  go_enter Try.func7, Try.ntmps7
  go_wp2
  refine bodyPost_ret (v := baseV w.heap.size) ?_ rfl ⟨rfl, rfl⟩
  simp [results, Try.results7, go_sem]
theorem baseRO_wf : ∀ o ∈ baseRO, ∀ v ∈ o.1, v.wf := wf_all (by decide)
theorem base_lies (w : World) : Lies w.heap.size baseRO (allocs w (baseRO.map (RO.obj w.heap.size))) := ⟨allocs_lays _ _, baseRO_wf⟩
theorem base_to (w : World) : Calls Try.prog 7 #[] w fun e w' => ∃ N, e = .returned (baseV N) ∧ Hid (N = w.heap.size) ∧ Lies N baseRO w' ∧ Ext w w' ∧ w'.heap.size = N + 14 :=
  (base_any w).mono fun e w' ⟨he, hw⟩ => ⟨_, he, rfl, hw ▸ base_lies w, hw ▸ allocs_ext _ _, by rw [hw, allocs_size]; rfl⟩
def baseC : Cnf := ⟨8, 2, [[2, 2, 2, 2], [5, 1, 1, 1]], [⟨0, 0, [[1, 3], [2, 3]], [], -1, 4, 2, 4, 3, 2⟩, ⟨1, 1, [[3]], [0, 1], 0, 4, 2, 4, 3, 2⟩, ⟨1, 2, [[3]], [], -1, 4, 2, 4, 3, 2⟩, ⟨2, 3, [], [0, 1, 2], 1, 4, 2, 4, 3, 2⟩]⟩
theorem baseC_of : confOf baseRO 8 2 (.s 3 2) (.s 13 4) = some baseC := by rfl
theorem baseC_is : isConf baseC = 0 := by decide

abbrev varRO : RO := ([.i 8, .i 2, .s 3 2, .s 13 4], 29)
/-- A configuration that lies as Base's does. -/
structure KV (N : Nat) (c : Cnf) (w : World) : Prop where
  v : ConfV w c (.slice (some ⟨N + 3, 0, none⟩) 2 2) (.slice (some ⟨N + 13, 0, none⟩) 4 4)
  f : c.frame = 8
  e : c.epoch = 2
theorem KV.ext {N : Nat} {c : Cnf} {w w' : World} (h : Ext w w') (k : KV N c w) : KV N c w' := ⟨k.v.ext h, k.f, k.e⟩
theorem KV.val {N : Nat} {c : Cnf} {w : World} (k : KV N c w) : confV c (.slice (some ⟨N + 3, 0, none⟩) 2 2) (.slice (some ⟨N + 13, 0, none⟩) 4 4) = baseV N := by
  unfold confV baseV
  rw [k.f, k.e]
theorem known_conf {N : Nat} {os : List RO} {w : World} (l : Lies N os w) {c : Cnf} (h : confOf os 8 2 (.s 3 2) (.s 13 4) = some c) : KV N c w :=
  have := conf_lies l (RV.wf_of rfl) (RV.wf_of rfl) h
  ⟨this.2.2, this.1, this.2.1⟩
end Go.Proofs.Ytbnjfahjbemleaa
