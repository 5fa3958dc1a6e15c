/- What the functions of package share come to, further: whether shares may be, the parts at the start, the sign taken out. -/
import Derived.Test.YtpickmmegaeklaaSh0
import Derived.Laws.MakeOwn
import Derived.Deep.CutRange
import Derived.Deep.CutBlock
namespace Go.Proofs.Ytpickmmegaeklaa
open Go.RowKit

set_option maxRecDepth 100000 in
set_option maxHeartbeats 1000000 in
theorem may_any {f : Int} {l : List Int} {v : Value} {w : World} (h : Ints w v l) : Calls Try.prog 14 #[.int .i64 f, v] w (Yields w (.bool (mayS f l))) := by
  obtain ⟨pa, ca, rfl, hca, hma⟩ := h.shape
  unfold maxLen at hma
  have HA := hid h
  clear h
  by_cases hf1 : f < 1
  · have hr : Hid (mayS f l = false) := hid (by simp [mayS]; intros; omega)
    go_enter Try.func14, Try.ntmps14
    go_wp2
    go_returns
    exact ⟨by simp [hr.out], ext_by⟩
  by_cases hf2 : 64 < f
  · have hr : Hid (mayS f l = false) := hid (by simp [mayS]; intros; omega)
    go_enter Try.func14, Try.ntmps14
    go_wp2
    go_returns
    exact ⟨by simp [hr.out], ext_by⟩
  by_cases hl : (6 : Int) < l.length
  · have hr : Hid (mayS f l = false) := hid (by simp [mayS]; intros; omega)
    go_enter Try.func14, Try.ntmps14
    go_wp2
    go_returns
    exact ⟨by simp [hr.out], ext_by⟩
  have hr : Hid (mayS f l = (l.all (fun x => decide (0 ≤ x) && decide (x ≤ 1000)) && l.any fun x => decide (0 < x))) := hid (by
    unfold mayS
    rw [decide_eq_true (by omega), decide_eq_true (by omega), decide_eq_true (by omega)]; simp)
  go_enter Try.func14, Try.ntmps14
  go_wp2
  go_loopw [5, 21] (fun v5 v21 wr => Ext w wr ∧ ∃ (k : Nat) (b : Bool), v21 = .int .i64 k ∧ v5 = .bool b ∧ k ≤ l.length ∧ Hid (b = (l.take k).any fun x => decide (0 < x)) ∧ Hid ((l.take k).all (fun x => decide (0 ≤ x) && decide (x ≤ 1000)) = true)) (fun _ v21 _ => (l.length - intOf v21).toNat)
  case atStart => exact ⟨Ext.refl _, 0, false, rfl, rfl, by omega, hid (by simp), hid (by simp)⟩
  case round =>
    obtain ⟨hx, k, b, rfl, rfl, hk, ha, hb⟩ := hrel
    by_cases hlt : k < l.length
    · obtain ⟨ba, oa, rfl, a0⟩ := HA.out.at k hlt
      have m0 := hx.cell a0
      simp only [Nat.mul_one] at m0
      have e1 : Hid ((l.take (k + 1)).any (fun x => decide (0 < x)) = (b || decide (0 < l[k]))) := hid (by
        rw [List.take_succ_eq_append_getElem hlt, List.any_append, ← ha.out]; simp)
      have e2 : Hid ((l.take (k + 1)).all (fun x => decide (0 ≤ x) && decide (x ≤ 1000)) = (decide (0 ≤ l[k]) && decide (l[k] ≤ 1000))) := hid (by
        rw [List.take_succ_eq_append_getElem hlt, List.all_append, hb.out]; simp)
      have e3 : Hid ((decide (0 ≤ l[k]) && decide (l[k] ≤ 1000)) = false → l.all (fun x => decide (0 ≤ x) && decide (x ≤ 1000)) = false) := hid (fun h => by
        rw [← Bool.not_eq_true, List.all_eq_true]
        intro hh
        have := hh _ (List.getElem_mem hlt)
        rw [this] at h; cases h)
      clear a0 ha hb
      generalize l[k] = x at *
      have i1 : (k : Int) < l.length := by omega
      by_cases h1 : x < 0
      · have hn := e3.out (by simp; omega)
        have HN : Hid (mayS f l = false) := hid (by rw [hr.out, hn]; rfl)
        clear hn
        go_wp2
        go_returns
        exact ⟨by simp [HN.out], hx⟩
      by_cases h2 : 1000 < x
      · have hn := e3.out (by simp; omega)
        have HN : Hid (mayS f l = false) := hid (by rw [hr.out, hn]; rfl)
        clear hn
        go_wp2
        go_returns
        exact ⟨by simp [HN.out], hx⟩
      have E2 : Hid ((l.take (k + 1)).all (fun x => decide (0 ≤ x) && decide (x ≤ 1000)) = true) := hid (by rw [e2.out]; simp; omega)
      clear e2 e3
      cases b
      · by_cases h3 : 0 < x
        · have E1 : Hid (true = (l.take (k + 1)).any (fun x => decide (0 < x))) := hid (by rw [e1.out]; simp [h3])
          clear e1
          go_wp2
          all_goals
            go_roundw
            case rel => exact ⟨hx, k + 1, true, by go_num, rfl, by omega, E1, E2⟩
            case measure => simp [intOf]; omega
        · have E1 : Hid (false = (l.take (k + 1)).any (fun x => decide (0 < x))) := hid (by rw [e1.out]; simp [h3])
          clear e1
          go_wp2
          all_goals
            go_roundw
            case rel => exact ⟨hx, k + 1, false, by go_num, rfl, by omega, E1, E2⟩
            case measure => simp [intOf]; omega
      · have E1 : Hid (true = (l.take (k + 1)).any (fun x => decide (0 < x))) := hid (by rw [e1.out]; simp)
        clear e1
        go_wp2
        all_goals
          go_roundw
          case rel => exact ⟨hx, k + 1, true, by go_num, rfl, by omega, E1, E2⟩
          case measure => simp [intOf]; omega
    · obtain rfl : k = l.length := by omega
      have h1 := ha.out
      have h2 := hb.out
      rw [List.take_length] at h1 h2
      have HE : Hid (mayS f l = b) := hid (by rw [hr.out, h2, ← h1]; rfl)
      clear h1 h2 ha hb
      go_wp2
      go_returns
      exact ⟨by simp [HE.out], hx⟩
theorem may_to {f : Int} {l : List Int} {v : Value} {w : World} {r : Bool} (h : Ints w v l) (e : mayS f l = r) : Calls Try.prog 14 #[.int .i64 f, v] w (Yields w (.bool r)) := e ▸ may_any h

/-- The parts while nobody has a quantum. -/
def ini (f : Int) (l : List Int) : List Pr := l.map fun x => (0, f * x)
theorem infoC : (Try.prog.info? 36).map (fun i => (i.zero, i.size, i.bytes)) = some (some (.complex .f64 0 0), 1, 16) := by kernel_rfl
theorem made_rep (v : Value) (hv : v.cells = #[v]) (n : Nat) : madeCells v.cells (n * 1) = (List.replicate n v).toArray := by
  apply Array.ext
  · simp [madeCells]
  · intro i h1 h2
    have e : i % 1 = 0 := Nat.mod_one i
    simp [madeCells, hv, e]
/-- make of a row of parts. -/
theorem run_makeC (n : Nat) (hn : n ≤ 6) (w : World) : (Instr.makeSlice 35 (.int .i64 n) (.int .i64 n)).run Try.prog w = .ok (.slice (some ⟨w.heap.size, 0, none⟩) n n) (w.alloc (.cells (List.replicate n (Value.complex .f64 0 0)).toArray 36)) := by
  obtain ⟨i0, hi, hz0, hz1, hz2⟩ := info_parts infoC
  have := run_make (P := Try.prog) w 35 36 i0 (.complex .f64 0 0) (by kernel_rfl) hi hz0 .i64 .i64 n n (by omega) (by omega) (by rw [hz2]; omega) (by omega)
  rw [this, Int.toNat_natCast, hz1, made_rep _ rfl]
theorem run_makeI (n : Nat) (hn : n ≤ 6) (w : World) : (Instr.makeSlice 22 (.int .i64 n) (.int .i64 n)).run Try.prog w = .ok (.slice (some ⟨w.heap.size, 0, none⟩) n n) (w.alloc (.cells (List.replicate n (Value.int .i64 0)).toArray 3)) := by
  obtain ⟨i0, hi, hz0, hz1, hz2⟩ := info_parts infoI
  have := run_make (P := Try.prog) w 22 3 i0 (.int .i64 0) (by kernel_rfl) hi hz0 .i64 .i64 n n (by omega) (by omega) (by rw [hz2]; omega) (by omega)
  rw [this, Int.toNat_natCast, hz1, made_rep _ rfl]
theorem Blk.new (w : World) (T : Nat) (L : List Value) : Blk (w.alloc (.cells L.toArray T (0, 0))) w.heap.size T L := heap_alloc_new w _

theorem prod_bounds {f x : Int} (h1 : 1 ≤ f) (h2 : f ≤ 64) (h3 : 0 ≤ x) (h4 : x ≤ 1000) : 0 ≤ f * x ∧ f * x ≤ 64000 := by
  refine ⟨Int.mul_nonneg (by omega) h3, ?_⟩
  calc f * x ≤ 64 * x := Int.mul_le_mul_of_nonneg_right h2 h3
    _ ≤ 64000 := by omega

set_option maxRecDepth 100000 in
set_option maxHeartbeats 2000000 in
theorem due_any {f : Int} {l : List Int} {v : Value} {w : World} (hM : May f l) (h : Ints w v l) : Calls Try.prog 15 #[.int .i64 f, v] w fun e w' => e = .returned (.tuple #[.slice (some ⟨w.heap.size, 0, none⟩) l.length l.length, .complex .f64 4607182418800017408 (Fz (-tot l))]) ∧ Ext w w' ∧ Cx w' w.heap.size (ini f l) := by
  obtain ⟨pa, ca, rfl, hca, hma⟩ := h.shape
  unfold maxLen at hma
  have HA := hid h
  have HM := hid hM
  have hf1 := hM.f1
  have hf2 := hM.f64
  have hn := hM.len
  have hmk := run_makeC l.length hn
  clear h hM
  obtain ⟨g, hg⟩ : ∃ g, g = w.heap.size := ⟨_, rfl⟩
  go_enter Try.func15, Try.ntmps15
  go_upto_region 2 with (fail)
  refine wp_forget (fun u => Ext w u ∧ Hid (Blk u g 36 (List.replicate l.length (Value.complex .f64 0 0)))) ⟨ext_by, hid (by have := Blk.new w 36 (List.replicate l.length (Value.complex .f64 0 0)); rw [hg]; simpa using this)⟩ ?_
  rintro w1 ⟨hx1, hb1⟩
  rw [← hg]
  have hgw : w.heap.size ≤ g := by omega
  have HG := hid hg
  clear hg
  go_wp2
  go_loopw [6, 14] (fun v6 v14 wr => Ext w wr ∧ ∃ (k : Nat) (s : Int) (L : List Value), v14 = .int .i64 k ∧ v6 = .int .i64 s ∧ k ≤ l.length ∧ Hid (s = tot (l.take k)) ∧ Hid (Blk wr g 36 L) ∧ Hid (L.length = l.length) ∧ Hid (L.take k = (ini f (l.take k)).map cV)) (fun _ v14 _ => (l.length - intOf v14).toNat)
  case atStart => exact ⟨hx1, 0, 0, _, rfl, rfl, by omega, hid (by simp [tot]), hb1, hid (by simp), hid (by simp [ini])⟩
  case round =>
    obtain ⟨hx, k, s, L, rfl, rfl, hk, hs, hB, hL, hT⟩ := hrel
    by_cases hlt : k < l.length
    · obtain ⟨ba, oa, rfl, a0⟩ := HA.out.at k hlt
      have m0 := hx.cell a0
      simp only [Nat.mul_one] at m0
      have hkL : k < L.length := by have := hL.out; omega
      have c0 := hB.out.cell hkL
      have c1 := hB.out.frozen k
      have c2 := hB.out.lt
      have x1 := HM.out.lo _ (List.getElem_mem hlt)
      have x2 := HM.out.hi _ (List.getElem_mem hlt)
      have b1 := prod_bounds hf1 hf2 x1 x2
      have hsb : Hid (tot (l.take (k + 1)) = s + l[k]) := hid (by rw [tot_take l k hlt, ← hs.out])
      have s1 : 0 ≤ s := by rw [hs.out]; exact tot_nonneg _ fun x hx => HM.out.lo x (List.mem_of_mem_take hx)
      have s2 : s ≤ 1000 * k := by
        rw [hs.out]
        have := tot_bound 1000 (l.take k) fun x hx => HM.out.hi x (List.mem_of_mem_take hx)
        rw [List.length_take, Nat.min_eq_left hk] at this; exact this
      have hT2 : Hid ((L.set k (cV (0, f * l[k]))).take (k + 1) = (ini f (l.take (k + 1))).map cV) := hid (by
        rw [take_set_succ hkL, hT.out, List.take_succ_eq_append_getElem hlt, ini, ini, List.map_append, List.map_append]; rfl)
      have hB2 : Hid (Blk (wr.setCell ⟨g, k, none⟩ (cV (0, f * l[k]))) g 36 (L.set k (cV (0, f * l[k])))) := hid (hB.out.set k _)
      clear a0 hT hB
      generalize l[k] = x at *
      have e1 := floatOfInt_eq (z := f * x) (by omega)
      have ez : cV (0, f * x) = .complex .f64 0 (Fz (f * x)) := by unfold cV; rw [zero_Fz]
      rw [ez] at hB2 hT2
      clear ez
      have i1 : (k : Int) < l.length := by omega
      generalize L[k] = old at *
      have i3 : s + x ≤ 9223372036854775807 := by omega
      have i4 : -9223372036854775808 ≤ s + x := by omega
      go_wp2
      all_goals
        go_roundw
        case rel => exact ⟨ext_by, k + 1, s + x, _, by go_num, rfl, by omega, hid hsb.out.symm, hB2, hid (by rw [List.length_set]; exact hL.out), hT2⟩
        case measure => simp [intOf]; omega
    · obtain rfl : k = l.length := by omega
      have h1 := hs.out
      have h2 := hT.out
      rw [List.take_length] at h1 h2
      rw [← hL.out, List.take_length] at h2
      have hC : Hid (Cx wr g (ini f l)) := hid (by have := hB.out; rw [h2] at this; exact this)
      have hS1 := HM.out.S1
      have hS6 := HM.out.S6
      rw [← h1] at hS1 hS6
      have HS : Hid (s = tot l) := hid h1
      have e1 := floatOfInt_eq (z := s) (by omega)
      have e2 := neg_Fz (z := s) (by omega) (by omega)
      clear h1 h2 hs hT hL
      go_wp2
      all_goals
        refine bodyPost_ret (v := .tuple #[.slice (some ⟨g, 0, none⟩) l.length l.length, .complex .f64 4607182418800017408 (Fz (-s))]) (by simp [results, Try.results15, go_sem]) rfl ⟨by rw [HS.out, HG.out], hx, by rw [← HG.out]; exact hC.out⟩

/-! The sign taken out. -/
theorem andNot_sign (n : Nat) (h : n < 2 ^ 64) : bits BinOp.andNot IntKind.u64 (n : Int) 9223372036854775808 = ((n % 2 ^ 63 : Nat) : Int) := by
  rw [u64_andNot (n : Int) 9223372036854775808 (by omega) (by omega) (by omega) (by omega)]
  have := Nat.and_two_pow_sub_one_eq_mod n 63
  rw [← this]
  rfl
theorem run_f64bits (b : Nat) (w : World) : (callFunc 25 #[.float .f64 b]).run Try.prog w = .ok (.value (.int .u64 (b : Int))) w := by
  rw [@run_callFunc_extern Try.prog 25 _ Extern.MathFloatBits.float64bits Try.func25 (by kernel_rfl) (by kernel_rfl) (by kernel_rfl) (by kernel_rfl)]; rfl
theorem run_f64frombits (b : Int) (w : World) : (callFunc 24 #[.int .u64 b]).run Try.prog w = .ok (.value (.float .f64 b.toNat)) w := by
  rw [@run_callFunc_extern Try.prog 24 _ Extern.MathFloatBits.float64frombits Try.func24 (by kernel_rfl) (by kernel_rfl) (by kernel_rfl) (by kernel_rfl)]; rfl
set_option maxHeartbeats 400000 in
theorem abs_any (x : Nat) (hx : x < 2 ^ 64) (w : World) : Calls Try.prog 21 #[.float .f64 x] w (Yields w (.float .f64 (x % 2 ^ 63))) := by
  have e1 := andNot_sign x hx
  have e2 : x % 2 ^ 63 < 2 ^ 64 := by omega
  have r1 := run_f64bits
  have r2 := run_f64frombits
  clear hx
  generalize x % 2 ^ 63 = G at *
  go_enter Try.func21, Try.ntmps21
  go_wp2_with (simp only [r1, r2])
  all_goals
    go_returns
    exact ⟨by simp, ext_by⟩
end Go.Proofs.Ytpickmmegaeklaa
