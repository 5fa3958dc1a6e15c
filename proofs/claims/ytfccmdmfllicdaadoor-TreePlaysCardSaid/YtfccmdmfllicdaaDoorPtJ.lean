/- The program's own tree: a node let go: slices.Delete of one pointer, and what is left. -/
import Derived.Test.YtfccmdmfllicdaaDoorPtI
import Derived.Deep.RegionLaw
namespace Go.Proofs.YtfccmdmfllicdaaDoor
open Go.RowKit
set_option linter.unusedSimpArgs false

theorem clear_oneP (w : World) (ty : TypeId) (g o c : Nat) (hc : (w.cell? ⟨g, o, none⟩).isSome = true) (hf : w.frozen? ⟨g, o, none⟩ = false) :
    (Builtin.clear_ #[59] ty #[.slice (some ⟨g, o, none⟩) 1 c]).run Tryd.prog w = .ok (.tuple #[]) (w.setCells g o [.pointer none]) := by
  have hzv : ∀ w, (zeroValue 53).run Tryd.prog w = .ok (.pointer none) w := Tryd.zeroValue53
  have hst := run_storeCells_cells (P := Tryd.prog) g o [.pointer none] 0 w (by simpa using hc) (by simpa using hf) (by simp; rfl)
  simp only [Nat.add_zero] at hst
  have hzc : (Builtin.zeroCells (Value.pointer none).cells 1).toList = [.pointer none] := by
    have hc : (Value.pointer none).cells = #[.pointer none] := by simp [Value.cells]
    rw [hc]
    simp [Builtin.zeroCells]
  simp [Builtin.clear_, run_underlying Tryd.underlying59, hzv, hzc, hst]

set_option maxRecDepth 100000 in
set_option maxHeartbeats 4000000 in
theorem deleteP_any (base g cap i k : Nat) (xs : List Value) (hlen : xs.length = i + k + 1) (hl : xs.length ≤ 1000) (hone : ∀ u ∈ xs, u.oneCell' = true) (w : World) (h : w.ownsRow base 53 1 (.slice (some ⟨g, 0, none⟩) (i + k + 1) cap) (i + k + 1) xs) :
    Calls Tryd.prog 35 #[.slice (some ⟨g, 0, none⟩) (i + k + 1) cap, .int .i64 i, .int .i64 ((i : Int) + 1)] w fun e w' => e = .returned (.slice (some ⟨g, 0, none⟩) (i + k) cap) ∧
      w'.ownsRow base 53 1 (.slice (some ⟨g, 0, none⟩) (i + k) cap) (i + k) (xs.eraseIdx i) ∧ w.grownBy w' (some g) := by
  obtain ⟨hgb, -, hc1, hc2, cur, e3, e6, hcur⟩ := own_block h
  have hgl := lt_blk e3
  have hc2' := hc2
  unfold maxLen at hc2
  have HONE := hid hone
  have HL := hid hlen
  have hik : i + k + 1 ≤ cap := by omega
  have hik2 : i + k + 1 ≤ 1000 := by omega
  have i1 : (i : Int) ≤ (i : Int) + 1 := by omega
  have i2 : (i : Int) + 1 ≤ (i : Int) + k + 1 := by omega
  have i3 : (i : Int) + k + 1 ≤ (cap : Int) := by omega
  have i4 : ((i : Int) == (i : Int) + 1) = false := by rw [beq_eq_false_iff_ne]; omega
  have i5 : (0 : Int) ≤ (i : Int) + 1 := by omega
  have HC2 := hid hc2'
  clear h hlen hl hc1 hone hc2'
  go_enter Tryd.func35, Tryd.ntmps35
  go_wp2_with fail
  obtain ⟨i0, hi, hz0, hz1, hz2⟩ := info_parts infoPp
  have hin := hid (show Tryd.prog.info? 53 = some i0 from hi)
  have hin1 := hid (show i0.size = 1 from hz1)
  clear hi hz0 hz1 hz2
  have hic : i ≤ cap := by omega
  obtain ⟨news, hnews⟩ : ∃ news, news = xs.drop (i + 1) := ⟨_, rfl⟩
  have hnl : news.length = k := by rw [hnews, List.length_drop, HL.out]; omega
  have hget : ∀ j, j < k → news[j]? = xs[i + 1 + j]? := fun j hj => by rw [hnews, List.getElem?_drop]
  obtain ⟨A, hA, hsrc⟩ : ∃ A : Addr, (if cap = i + 1 then some (⟨g, 0, none⟩ : Addr) else some ⟨g, i + 1, none⟩) = some A ∧ Hid (∀ j u, news[j]? = some u → w.drew.cell? (A.add j) = some u) := by
    by_cases hce : cap = i + 1
    · refine ⟨⟨g, 0, none⟩, by simp [hce], fun j u hu => ?_⟩
      have := (List.getElem?_eq_some_iff.1 hu).1
      omega
    · refine ⟨⟨g, i + 1, none⟩, by simp [hce], fun j u hu => ?_⟩
      have hj := (List.getElem?_eq_some_iff.1 hu).1
      rw [add_add]
      show w.cell? _ = _
      rw [cell_of_row _ _ _ _ _ (0, 0) e3, hcur _ (by omega), ← hget j (by omega)]
      exact hu
  have s1 : Hid (news.length = k * 1) := by unfold Hid; omega
  have s2 : Hid (∀ u ∈ news, u.oneCell' = true) := fun u hu => HONE.out u (by rw [hnews] at hu; exact List.mem_of_mem_drop hu)
  have s3 : Hid (∀ j, j < news.length → (w.drew.cell? ⟨g, 0 + i * 1 + j, none⟩).isSome = true ∧ w.drew.frozen? ⟨g, 0 + i * 1 + j, none⟩ = false) := fun j hj => by
    refine ⟨?_, show w.frozen? _ = false by simp [World.frozen?, e3]⟩
    show (w.cell? _).isSome = true
    rw [cell_of_row _ _ _ _ _ (0, 0) e3, Array.getElem?_eq_getElem (by omega)]
    rfl
  obtain ⟨W1, hW1⟩ : ∃ W1, W1 = w.drew.setCells g (0 + i * 1) news := ⟨_, rfl⟩
  obtain ⟨hg1, cur1, b1, b2, b3⟩ := setCells_block g 53 news (0 + i * 1) w.drew cur e3
  rw [← hW1] at hg1 b1
  obtain ⟨hg2, cur2, d1, d2, d3⟩ := setCells_block g 53 [.pointer none] (i + k) W1 cur1 b1
  have hcl : ∀ ty, (Builtin.clear_ #[59] ty #[.slice (some ⟨g, i + k, none⟩) 1 (cap - (i + k))]).run Tryd.prog W1 = .ok (.tuple #[]) (W1.setCells g (i + k) [.pointer none]) := fun ty =>
    clear_oneP W1 ty g _ _ (by rw [cell_of_row _ _ _ _ _ (0, 0) b1, Array.getElem?_eq_getElem (by omega)]; rfl) (by simp [World.frozen?, b1])
  obtain ⟨W2, hW2⟩ : ∃ W2, W2 = W1.setCells g (i + k) [.pointer none] := ⟨_, rfl⟩
  rw [← hW2] at hg2 d1
  simp only [← hW2] at hcl
  have HF : Hid (W2.ownsRow base 53 1 (.slice (some ⟨g, 0, none⟩) (i + k) cap) (i + k) (xs.eraseIdx i) ∧ w.grownBy W2 (some g)) := by
    have hel : (xs.eraseIdx i).length = i + k := by rw [List.length_eraseIdx, HL.out, if_pos (by omega)]; omega
    refine ⟨own_of hgb d1 (by omega) HC2.out (by omega) hel ?_, ⟨hg2.os.trans hg1.os, hg2.tape.trans hg1.tape, hg2.output.trans hg1.output, Nat.le_trans hg1.size hg2.size, fun j hj hne => (hg2.block j (Nat.lt_of_lt_of_le hj hg1.size) hne).trans (hg1.block j hj hne)⟩⟩
    apply List.ext_getElem?
    intro j
    rw [List.getElem?_take]
    by_cases hj : j < (i + k) * 1
    · rw [if_pos hj, Array.getElem?_toList, d3 j (by omega), if_neg (by simp; omega), b3 j (by omega), List.getElem?_eraseIdx]
      by_cases h1 : j < i
      · rw [if_neg (by omega), if_pos h1, hcur j (by omega)]
      · rw [if_pos (by omega), if_neg h1, hget _ (by omega)]
        congr 1; omega
    · rw [if_neg hj, List.getElem?_eq_none (by omega)]
  have hW := hid hW1
  clear hW1 hW2 hg1 hg2 b1 b2 b3 d1 d2 d3 hget hcur hnews hnl e3 e6
  have hck : cap ≠ i + k := by omega
  have hik4 : i + k ≤ cap := by omega
  go_region_law (refine step_append_room rfl (.tmp 22) (.tmp 25) 59 rfl 53 i0 1 Tryd.underlying59 hin.out hin1.out g 0 i cap (by simp [Act.eval, Act.put]) A k (cap - (i + 1)) news (by simp [Act.eval, Act.put]) s1.out hsrc.out s2.out hik4 s3.out ?_; rw [← hW.out])
  go_wp2
  go_returns
  exact ⟨rfl, HF.out⟩
end Go.Proofs.YtfccmdmfllicdaaDoor
