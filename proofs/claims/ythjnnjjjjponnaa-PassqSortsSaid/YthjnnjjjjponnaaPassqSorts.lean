/- PassqSorts: of every row of passes, put in from whatever place on, taken out by the least one by one: they come sorted: the law answers true. No conditions. -/
import Derived.Test.YthjnnjjjjponnaaPqK
import Derived.Test.YthjnnjjjjponnaaPqH
import Derived.Test.YthjnnjjjjponnaaOwn2
import Derived.Test.YthjnnjjjjponnaaTail
import Derived.IntWalk
namespace Go.Proofs.Ythjnnjjjjponnaa
set_option linter.unusedSimpArgs false
open Go.ChangeShapes Go.WideShapes Go.ChangeAt Go.RowKit Go.Joins Go.Deep

namespace passqSorts
theorem u16_bounds {n : Int} (h : (Lit.int .u16 n).wf = true) : 0 ≤ n ∧ n ≤ 65535 := by
  have e1 : IntKind.u16.min = 0 := by decide
  have e2 : IntKind.u16.max = 65535 := by decide
  simpa [Lit.wf, e1, e2] using h

set_option maxRecDepth 100000 in
set_option maxHeartbeats 8000000 in
theorem walk (v : Value) (L : List Int) (b : Int) (hb0 : 0 ≤ b) (hb1 : b ≤ 255) (w : World) (hL : Nums .u16 w v L) :
    Calls Try.prog 3 #[v, .int .u8 b] w (Yields w (.bool true)) := by
  obtain ⟨p, cap, rfl, hcap, hmax⟩ := hL.shape
  unfold maxLen at hmax
  have HL := hid hL
  clear hL
  have hnn := fun w => run_neq_nil_nil' (P := Try.prog) w Try.underlying27
  have hen := fun w => run_eql_nil_nil' (P := Try.prog) w Try.underlying27
  go_enter Try.func3, Try.ntmps3
  go_wp2_with fail
  refine (known_any _).yields ?_
  intro p0
  have hE0 := hid (ext_more w p0)
  generalize more w p0 = w0 at *
  by_cases hlen : 60 < L.length
  · have i1 : (60 : Int) < (L.length : Int) := by omega
    go_wp2
    go_returns
    exact ⟨rfl, hE0.out⟩
  have i1 : (L.length : Int) ≤ 60 := by omega
  have HL60 := hid i1
  go_wp2_with fail
  (with_reducible refine (st_new 64 w0).mono ?_)
  rintro e w1 ⟨rfl, s1⟩
  have S1 : Hid (∃ rows, St w0 w0.heap.size 64 rows [] w1 ∧ Put1 L b 0 rows) := ⟨[], s1, Put1.nil L b⟩
  clear s1
  go_wp2_with fail
  go_loopw [7] (fun s wr => ∃ i : Nat, s = .int .i64 i ∧ i ≤ L.length ∧ Hid (∃ rows, St w0 w0.heap.size 64 rows [] wr ∧ Put1 L b i rows)) (fun s _ => (L.length - intOf s).toNat)
  case atStart => exact ⟨0, rfl, by omega, S1⟩
  case round =>
    obtain ⟨i, rfl, hi, hinv⟩ := hrel
    by_cases hlt : i < L.length
    · have j1 : (i : Int) < (L.length : Int) := by omega
      obtain ⟨k, hk⟩ : ∃ k : Nat, ((i : Int) + b) % L.length = k := ⟨(((i : Int) + b) % L.length).toNat, by rw [Int.toNat_of_nonneg (Int.emod_nonneg _ (by omega))]⟩
      have hkl : k < L.length := by have := Int.emod_lt_of_pos ((i : Int) + b) (show (0 : Int) < L.length by omega); omega
      have j2 : (k : Int) < (L.length : Int) := by omega
      have j3 : ((L.length : Int) == 0) = false := by rw [beq_eq_false_iff_ne]; omega
      obtain ⟨g, off, rfl, c0, cw⟩ := HL.out.at k hkl
      simp only [Nat.mul_one] at c0
      have HP : Hid (entL L k = (L[k], (k : Int))) := by rw [Hid, entL, List.getD_eq_getElem?_getD, List.getElem?_eq_getElem hkl]; rfl
      have hu := u16_bounds cw
      generalize L[k] = P at *
      obtain ⟨rows, s, hP⟩ := hinv.out
      have c1 := hE0.out.cell c0
      have c2 := s.xt.cell c1
      have hnot := hid (hk ▸ hP.not_has hlt)
      have hput := hid (hP.put hlt hk hkl)
      have HS := hid s
      have HLEN := hid hP.len
      clear c0 c1 cw hinv s hP
      go_wp2_with fail
      (with_reducible refine (st_put HS.out P (k : Int) (by have := HLEN.out; have := HL60.out; omega) (formedB_iff.2 ⟨by omega, by omega, by omega⟩) (has_not.2 hnot.out) (by have := HLEN.out; have := HL60.out; omega)).mono ?_)
      rintro e w2 ⟨rfl, s2⟩
      have HN : Hid (∃ rows, St w0 w0.heap.size 64 rows [] w2 ∧ Put1 L b (i + 1) rows) := ⟨_, s2, by rw [← HP.out]; exact hput.out⟩
      clear s2 c2
      go_wp2
      go_roundw
      case rel => exact ⟨i + 1, by go_num, by omega, HN⟩
      case measure => simp [intOf]; omega
    · obtain rfl : i = L.length := by omega
      obtain ⟨rows, s, hP⟩ := hinv.out
      have HLF : Hid (Left L L.length (-1, 0) rows) := ⟨hP.len, hP.sorted, hP.ents, fun e he => by
        obtain ⟨k, hk, rfl⟩ := hP.ents e he
        obtain ⟨_, _, _, _, cw⟩ := HL.out.at k hk
        have := u16_bounds cw
        rw [lessB_iff]
        refine .inl ?_
        show (-1 : Int) < L.getD k 0
        rw [List.getD_eq_getElem?_getD, List.getElem?_eq_getElem hk]
        show (-1 : Int) < L[k]
        omega⟩
      have HS := hid s
      clear hinv s hP
      go_wp2_with fail
      have HS2 : Hid (∃ rows q, St w0 w0.heap.size 64 rows [(wr.heap.size, .cells #[.int .i64 q.1, .int .i64 q.2] 31 (0, 0))] (wr.alloc (.cells #[.int .i64 (-1), .int .i64 0] 31 (0, 0))) ∧ Left L (L.length - 0) q rows) := ⟨rows, (-1, 0), HS.out.alloc _, HLF.out⟩
      generalize wr.heap.size = B9 at HS2 ⊢
      go_loopw [10] (fun s wz => ∃ i : Nat, s = .int .i64 i ∧ i ≤ L.length ∧ Hid (∃ rows q, St w0 w0.heap.size 64 rows [(B9, .cells #[.int .i64 q.1, .int .i64 q.2] 31 (0, 0))] wz ∧ Left L (L.length - i) q rows)) (fun s _ => (L.length - intOf s).toNat)
      case atStart => exact ⟨0, rfl, by omega, HS2⟩
      case round =>
        clear HS2 HS HLF hi
        obtain ⟨i, rfl, hi, hinv⟩ := hrel
        by_cases hlt2 : i < L.length
        · have j1 : (i : Int) < (L.length : Int) := by omega
          obtain ⟨rows2, q, s, hleft⟩ := hinv.out
          obtain ⟨m, hm⟩ : ∃ m, L.length - i = m + 1 := ⟨L.length - i - 1, by omega⟩
          rw [hm] at hleft
          obtain ⟨k, rest, rfl, hkl, hless, hrest, hat⟩ := hleft.head
          obtain ⟨g, off, rfl, c0, cw⟩ := HL.out.at k hkl
          simp only [Nat.mul_one] at c0
          have HP : Hid (entL L k = (L[k], (k : Int))) := by rw [Hid, entL, List.getD_eq_getElem?_getD, List.getElem?_eq_getElem hkl]; rfl
          have hu := u16_bounds cw
          generalize L[k] = P at *
          obtain ⟨q1, q2⟩ := q
          rw [HP.out] at hless hrest s
          rw [lessB_iff] at hless
          simp only at hless
          have HREST : Hid (Left L (L.length - (i + 1)) (P, (k : Int)) rest) := by rw [Hid, show L.length - (i + 1) = m by omega]; exact hrest
          have j2 : (k : Int) < (L.length : Int) := by omega
          have HAT : Hid (idAt ((P, (k : Int)) :: rest) k = 0) := by rw [← HP.out]; exact hat
          have HLR : Hid (rest.length = m) := hrest.len
          have HS := hid s
          have HM := hid hm
          have c1 := hid (hE0.out.cell c0)
          clear c0 cw hinv s hleft hrest hat hm
          go_wp2_with fail
          (with_reducible refine (st_min HS.out).mono ?_)
          rintro e w2 ⟨rfl, s2⟩
          simp only [minV]
          have s3 := s2.alloc (.cells #[.int .i64 P, .int .i64 k] 31 (0, 0))
          have b1 := s3.blk (p := (w2.heap.size, .cells #[.int .i64 P, .int .i64 k] 31 (0, 0))) (by simp)
          have b2 := s3.blk (p := (B9, .cells #[.int .i64 q1, .int .i64 q2] 31 (0, 0))) (by simp)
          have c2 := s3.xt.cell c1.out
          have S3 := hid s3
          clear s2 s3
          go_wp2_with fail
          generalize w2.alloc (.cells #[.int .i64 P, .int .i64 k] 31 (0, 0)) = w3 at *
          have m0 : w3.cell? ⟨w2.heap.size, 0, none⟩ = some (.int .i64 P) := by simp [World.cell?, b1]
          have m1 : w3.cell? ⟨w2.heap.size, 1, none⟩ = some (.int .i64 k) := by simp [World.cell?, b1]
          have l0 : w3.cell? ⟨B9, 0, none⟩ = some (.int .i64 q1) := by simp [World.cell?, b2]
          have l1 : w3.cell? ⟨B9, 1, none⟩ = some (.int .i64 q2) := by simp [World.cell?, b2]
          clear b1 b2
          have f1 : decide ((k : Int) < 0) = false := by simp
          have f2 : decide (L.length ≤ k) = false := by simpa using hkl
          have f3 : IntKind.i64.wrap P = P := IntWalk.i64_in _ (by omega)
          have f4 : decide (P < q1) = false := by simp; omega
          rcases hless with hless | ⟨hpq, hless⟩
          · have f5 : (P == q1) = false := by rw [beq_eq_false_iff_ne]; omega
            (try dsimp only [append_cons', append_nil'])
            refine wp_region_T 46 6 (fun u => u.cell? ⟨w2.heap.size, 0, none⟩ = some (.int .i64 P) ∧ u.cell? ⟨w2.heap.size, 1, none⟩ = some (.int .i64 k) ∧ u.cell? ⟨B9, 0, none⟩ = some (.int .i64 q1) ∧ u.cell? ⟨B9, 1, none⟩ = some (.int .i64 q2) ∧ u.cell? ⟨g, off + k, none⟩ = some (.int .u16 P)) (by kernel_rfl) (by kernel_rfl) ?_
            have HSS : w3.drew.cell? ⟨w2.heap.size, 0, none⟩ = some (.int .i64 P) ∧ w3.drew.cell? ⟨w2.heap.size, 1, none⟩ = some (.int .i64 k) ∧ w3.drew.cell? ⟨B9, 0, none⟩ = some (.int .i64 q1) ∧ w3.drew.cell? ⟨B9, 1, none⟩ = some (.int .i64 q2) ∧ w3.drew.cell? ⟨g, off + k, none⟩ = some (.int .u16 P) := ⟨m0, m1, l0, l1, c2⟩
            refine wpT_take 0 (v := ?v1) rfl (by kernel_rfl) (by kernel_rfl) (by kernel_rfl) (by kernel_rfl) (by intro _ _ _ h; first | exact h | (obtain ⟨h, _⟩ := h; cases h)) (by rfl) HSS ?hy1 ?_
            case hy1 => (intro u hu; obtain ⟨h1, h2, h3, h4, h5⟩ := hu; go_simp; first | done | (with_reducible rfl))
            (try simp only [Act.put, List.getElem_toArray, List.getElem_cons_zero, List.getElem_cons_succ, List.setIfInBounds_toArray, List.set_cons_zero, List.set_cons_succ])
            refine wpT_take 1 (v := ?v2) rfl (by kernel_rfl) (by kernel_rfl) (by kernel_rfl) (by kernel_rfl) (by intro _ _ _ h; first | exact h | (obtain ⟨h, _⟩ := h; cases h)) (by rfl) HSS ?hy2 ?_
            case hy2 => (intro u hu; obtain ⟨h1, h2, h3, h4, h5⟩ := hu; go_simp; first | done | (with_reducible rfl))
            (try simp only [Act.put, List.getElem_toArray, List.getElem_cons_zero, List.getElem_cons_succ, List.setIfInBounds_toArray, List.set_cons_zero, List.set_cons_succ])
            refine wpT_take 2 (v := ?v3) rfl (by kernel_rfl) (by kernel_rfl) (by kernel_rfl) (by kernel_rfl) (by intro _ _ _ h; first | exact h | (obtain ⟨h, _⟩ := h; cases h)) (by rfl) HSS ?hy3 ?_
            case hy3 => (intro u hu; obtain ⟨h1, h2, h3, h4, h5⟩ := hu; go_simp; first | done | (with_reducible rfl))
            (try simp only [Act.put, List.getElem_toArray, List.getElem_cons_zero, List.getElem_cons_succ, List.setIfInBounds_toArray, List.set_cons_zero, List.set_cons_succ])
            refine wpT_take 3 (v := ?v4) rfl (by kernel_rfl) (by kernel_rfl) (by kernel_rfl) (by kernel_rfl) (by intro _ _ _ h; first | exact h | (obtain ⟨h, _⟩ := h; cases h)) (by rfl) HSS ?hy4 ?_
            case hy4 => (intro u hu; obtain ⟨h1, h2, h3, h4, h5⟩ := hu; go_simp; first | done | (with_reducible rfl))
            (try simp only [Act.put, List.getElem_toArray, List.getElem_cons_zero, List.getElem_cons_succ, List.setIfInBounds_toArray, List.set_cons_zero, List.set_cons_succ])
            refine wpT_take 4 (v := ?v5) rfl (by kernel_rfl) (by kernel_rfl) (by kernel_rfl) (by kernel_rfl) (by intro _ _ _ h; first | exact h | (obtain ⟨h, _⟩ := h; cases h)) (by rfl) HSS ?hy5 ?_
            case hy5 => (intro u hu; obtain ⟨h1, h2, h3, h4, h5⟩ := hu; go_simp; first | done | (with_reducible rfl))
            (try simp only [Act.put, List.getElem_toArray, List.getElem_cons_zero, List.getElem_cons_succ, List.setIfInBounds_toArray, List.set_cons_zero, List.set_cons_succ])
            refine wpT_take 5 (v := ?v6) rfl (by kernel_rfl) (by kernel_rfl) (by kernel_rfl) (by kernel_rfl) (by intro _ _ _ h; first | exact h | (obtain ⟨h, _⟩ := h; cases h)) (by rfl) HSS ?hy6 ?_
            case hy6 => (intro u hu; obtain ⟨h1, h2, h3, h4, h5⟩ := hu; go_simp; first | done | (with_reducible rfl))
            (try simp only [Act.put, List.getElem_toArray, List.getElem_cons_zero, List.getElem_cons_succ, List.setIfInBounds_toArray, List.set_cons_zero, List.set_cons_succ])
            refine wpT_take 6 (v := ?v7) rfl (by kernel_rfl) (by kernel_rfl) (by kernel_rfl) (by kernel_rfl) (by intro _ _ _ h; first | exact h | (obtain ⟨h, _⟩ := h; cases h)) (by rfl) HSS ?hy7 ?_
            case hy7 => (intro u hu; obtain ⟨h1, h2, h3, h4, h5⟩ := hu; go_simp; first | done | (with_reducible rfl))
            (try simp only [Act.put, List.getElem_toArray, List.getElem_cons_zero, List.getElem_cons_succ, List.setIfInBounds_toArray, List.set_cons_zero, List.set_cons_succ])
            refine wpT_take 7 (v := ?v8) rfl (by kernel_rfl) (by kernel_rfl) (by kernel_rfl) (by kernel_rfl) (by intro _ _ _ h; first | exact h | (obtain ⟨h, _⟩ := h; cases h)) (by rfl) HSS ?hy8 ?_
            case hy8 => (intro u hu; obtain ⟨h1, h2, h3, h4, h5⟩ := hu; go_simp; first | done | (with_reducible rfl))
            (try simp only [Act.put, List.getElem_toArray, List.getElem_cons_zero, List.getElem_cons_succ, List.setIfInBounds_toArray, List.set_cons_zero, List.set_cons_succ])
            refine wpT_take 8 (v := ?v9) rfl (by kernel_rfl) (by kernel_rfl) (by kernel_rfl) (by kernel_rfl) (by intro _ _ _ h; first | exact h | (obtain ⟨h, _⟩ := h; cases h)) (by rfl) HSS ?hy9 ?_
            case hy9 => (intro u hu; obtain ⟨h1, h2, h3, h4, h5⟩ := hu; go_simp; first | done | (with_reducible rfl))
            (try simp only [Act.put, List.getElem_toArray, List.getElem_cons_zero, List.getElem_cons_succ, List.setIfInBounds_toArray, List.set_cons_zero, List.set_cons_succ])
            refine wpT_take 9 (v := ?v10) rfl (by kernel_rfl) (by kernel_rfl) (by kernel_rfl) (by kernel_rfl) (by intro _ _ _ h; first | exact h | (obtain ⟨h, _⟩ := h; cases h)) (by rfl) HSS ?hy10 ?_
            case hy10 => (intro u hu; obtain ⟨h1, h2, h3, h4, h5⟩ := hu; go_simp; first | done | (with_reducible rfl))
            (try simp only [Act.put, List.getElem_toArray, List.getElem_cons_zero, List.getElem_cons_succ, List.setIfInBounds_toArray, List.set_cons_zero, List.set_cons_succ])
            refine wpT_take 10 (v := ?v11) rfl (by kernel_rfl) (by kernel_rfl) (by kernel_rfl) (by kernel_rfl) (by intro _ _ _ h; first | exact h | (obtain ⟨h, _⟩ := h; cases h)) (by rfl) HSS ?hy11 ?_
            case hy11 => (intro u hu; obtain ⟨h1, h2, h3, h4, h5⟩ := hu; go_simp; first | done | (with_reducible rfl))
            (try simp only [Act.put, List.getElem_toArray, List.getElem_cons_zero, List.getElem_cons_succ, List.setIfInBounds_toArray, List.set_cons_zero, List.set_cons_succ])
            refine wpT_take 11 (v := ?v12) rfl (by kernel_rfl) (by kernel_rfl) (by kernel_rfl) (by kernel_rfl) (by intro _ _ _ h; first | exact h | (obtain ⟨h, _⟩ := h; cases h)) (by rfl) HSS ?hy12 ?_
            case hy12 => (intro u hu; obtain ⟨h1, h2, h3, h4, h5⟩ := hu; go_simp; first | done | (with_reducible rfl))
            (try simp only [Act.put, List.getElem_toArray, List.getElem_cons_zero, List.getElem_cons_succ, List.setIfInBounds_toArray, List.set_cons_zero, List.set_cons_succ])
            refine wpT_take 12 (v := ?v13) rfl (by kernel_rfl) (by kernel_rfl) (by kernel_rfl) (by kernel_rfl) (by intro _ _ _ h; first | exact h | (obtain ⟨h, _⟩ := h; cases h)) (by rfl) HSS ?hy13 ?_
            case hy13 => (intro u hu; obtain ⟨h1, h2, h3, h4, h5⟩ := hu; go_simp; first | done | (with_reducible rfl))
            (try simp only [Act.put, List.getElem_toArray, List.getElem_cons_zero, List.getElem_cons_succ, List.setIfInBounds_toArray, List.set_cons_zero, List.set_cons_succ])
            refine wpT_take 13 (v := ?v14) rfl (by kernel_rfl) (by kernel_rfl) (by kernel_rfl) (by kernel_rfl) (by intro _ _ _ h; first | exact h | (obtain ⟨h, _⟩ := h; cases h)) (by rfl) HSS ?hy14 ?_
            case hy14 => (intro u hu; obtain ⟨h1, h2, h3, h4, h5⟩ := hu; go_simp; first | done | (with_reducible rfl))
            (try simp only [Act.put, List.getElem_toArray, List.getElem_cons_zero, List.getElem_cons_succ, List.setIfInBounds_toArray, List.set_cons_zero, List.set_cons_succ])
            refine wpT_take 14 (v := ?v15) rfl (by kernel_rfl) (by kernel_rfl) (by kernel_rfl) (by kernel_rfl) (by intro _ _ _ h; first | exact h | (obtain ⟨h, _⟩ := h; cases h)) (by rfl) HSS ?hy15 ?_
            case hy15 => (intro u hu; obtain ⟨h1, h2, h3, h4, h5⟩ := hu; go_simp; first | done | (with_reducible rfl))
            (try simp only [Act.put, List.getElem_toArray, List.getElem_cons_zero, List.getElem_cons_succ, List.setIfInBounds_toArray, List.set_cons_zero, List.set_cons_succ])
            refine wpT_take 15 (v := ?v16) rfl (by kernel_rfl) (by kernel_rfl) (by kernel_rfl) (by kernel_rfl) (by intro _ _ _ h; first | exact h | (obtain ⟨h, _⟩ := h; cases h)) (by rfl) HSS ?hy16 ?_
            case hy16 => (intro u hu; obtain ⟨h1, h2, h3, h4, h5⟩ := hu; go_simp; first | done | (with_reducible rfl))
            (try simp only [Act.put, List.getElem_toArray, List.getElem_cons_zero, List.getElem_cons_succ, List.setIfInBounds_toArray, List.set_cons_zero, List.set_cons_succ])
            refine wpT_take 16 (v := ?v17) rfl (by kernel_rfl) (by kernel_rfl) (by kernel_rfl) (by kernel_rfl) (by intro _ _ _ h; first | exact h | (obtain ⟨h, _⟩ := h; cases h)) (by rfl) HSS ?hy17 ?_
            case hy17 => (intro u hu; obtain ⟨h1, h2, h3, h4, h5⟩ := hu; go_simp; first | done | (with_reducible rfl))
            (try simp only [Act.put, List.getElem_toArray, List.getElem_cons_zero, List.getElem_cons_succ, List.setIfInBounds_toArray, List.set_cons_zero, List.set_cons_succ])
            refine wpT_take 17 (v := ?v18) rfl (by kernel_rfl) (by kernel_rfl) (by kernel_rfl) (by kernel_rfl) (by intro _ _ _ h; first | exact h | (obtain ⟨h, _⟩ := h; cases h)) (by rfl) HSS ?hy18 ?_
            case hy18 => (intro u hu; obtain ⟨h1, h2, h3, h4, h5⟩ := hu; go_simp; first | done | (with_reducible rfl))
            (try simp only [Act.put, List.getElem_toArray, List.getElem_cons_zero, List.getElem_cons_succ, List.setIfInBounds_toArray, List.set_cons_zero, List.set_cons_succ])
            refine wpT_take 18 (v := ?v19) rfl (by kernel_rfl) (by kernel_rfl) (by kernel_rfl) (by kernel_rfl) (by intro _ _ _ h; first | exact h | (obtain ⟨h, _⟩ := h; cases h)) (by rfl) HSS ?hy19 ?_
            case hy19 => (intro u hu; obtain ⟨h1, h2, h3, h4, h5⟩ := hu; go_simp; first | done | (with_reducible rfl))
            (try simp only [Act.put, List.getElem_toArray, List.getElem_cons_zero, List.getElem_cons_succ, List.setIfInBounds_toArray, List.set_cons_zero, List.set_cons_succ])
            refine wpT_take 19 (v := ?v20) rfl (by kernel_rfl) (by kernel_rfl) (by kernel_rfl) (by kernel_rfl) (by intro _ _ _ h; first | exact h | (obtain ⟨h, _⟩ := h; cases h)) (by rfl) HSS ?hy20 ?_
            case hy20 => (intro u hu; obtain ⟨h1, h2, h3, h4, h5⟩ := hu; go_simp; first | done | (with_reducible rfl))
            (try simp only [Act.put, List.getElem_toArray, List.getElem_cons_zero, List.getElem_cons_succ, List.setIfInBounds_toArray, List.set_cons_zero, List.set_cons_succ])
            refine wpT_take 20 (v := ?v21) rfl (by kernel_rfl) (by kernel_rfl) (by kernel_rfl) (by kernel_rfl) (by intro _ _ _ h; first | exact h | (obtain ⟨h, _⟩ := h; cases h)) (by rfl) HSS ?hy21 ?_
            case hy21 => (intro u hu; obtain ⟨h1, h2, h3, h4, h5⟩ := hu; go_simp; first | done | (with_reducible rfl))
            (try simp only [Act.put, List.getElem_toArray, List.getElem_cons_zero, List.getElem_cons_succ, List.setIfInBounds_toArray, List.set_cons_zero, List.set_cons_succ])
            refine wpT_take 21 (v := ?v22) rfl (by kernel_rfl) (by kernel_rfl) (by kernel_rfl) (by kernel_rfl) (by intro _ _ _ h; first | exact h | (obtain ⟨h, _⟩ := h; cases h)) (by rfl) HSS ?hy22 ?_
            case hy22 => (intro u hu; obtain ⟨h1, h2, h3, h4, h5⟩ := hu; go_simp; first | done | (with_reducible rfl))
            (try simp only [Act.put, List.getElem_toArray, List.getElem_cons_zero, List.getElem_cons_succ, List.setIfInBounds_toArray, List.set_cons_zero, List.set_cons_succ])
            refine wpT_take 22 (v := ?v23) rfl (by kernel_rfl) (by kernel_rfl) (by kernel_rfl) (by kernel_rfl) (by intro _ _ _ h; first | exact h | (obtain ⟨h, _⟩ := h; cases h)) (by rfl) HSS ?hy23 ?_
            case hy23 => (intro u hu; obtain ⟨h1, h2, h3, h4, h5⟩ := hu; go_simp; first | done | (with_reducible rfl))
            (try simp only [Act.put, List.getElem_toArray, List.getElem_cons_zero, List.getElem_cons_succ, List.setIfInBounds_toArray, List.set_cons_zero, List.set_cons_succ])
            refine wpT_take 23 (v := ?v24) rfl (by kernel_rfl) (by kernel_rfl) (by kernel_rfl) (by kernel_rfl) (by intro _ _ _ h; first | exact h | (obtain ⟨h, _⟩ := h; cases h)) (by rfl) HSS ?hy24 ?_
            case hy24 => (intro u hu; obtain ⟨h1, h2, h3, h4, h5⟩ := hu; go_simp; first | done | (with_reducible rfl))
            (try simp only [Act.put, List.getElem_toArray, List.getElem_cons_zero, List.getElem_cons_succ, List.setIfInBounds_toArray, List.set_cons_zero, List.set_cons_succ])
            refine wpT_take 24 (v := ?v25) rfl (by kernel_rfl) (by kernel_rfl) (by kernel_rfl) (by kernel_rfl) (by intro _ _ _ h; first | exact h | (obtain ⟨h, _⟩ := h; cases h)) (by rfl) HSS ?hy25 ?_
            case hy25 => (intro u hu; obtain ⟨h1, h2, h3, h4, h5⟩ := hu; go_simp; first | done | (with_reducible rfl))
            (try simp only [Act.put, List.getElem_toArray, List.getElem_cons_zero, List.getElem_cons_succ, List.setIfInBounds_toArray, List.set_cons_zero, List.set_cons_succ])
            refine wpT_take 25 (v := ?v26) rfl (by kernel_rfl) (by kernel_rfl) (by kernel_rfl) (by kernel_rfl) (by intro _ _ _ h; first | exact h | (obtain ⟨h, _⟩ := h; cases h)) (by rfl) HSS ?hy26 ?_
            case hy26 => (intro u hu; obtain ⟨h1, h2, h3, h4, h5⟩ := hu; go_simp; first | done | (with_reducible rfl))
            (try simp only [Act.put, List.getElem_toArray, List.getElem_cons_zero, List.getElem_cons_succ, List.setIfInBounds_toArray, List.set_cons_zero, List.set_cons_succ])
            refine wpT_take 26 (v := ?v27) rfl (by kernel_rfl) (by kernel_rfl) (by kernel_rfl) (by kernel_rfl) (by intro _ _ _ h; first | exact h | (obtain ⟨h, _⟩ := h; cases h)) (by rfl) HSS ?hy27 ?_
            case hy27 => (intro u hu; obtain ⟨h1, h2, h3, h4, h5⟩ := hu; go_simp; first | done | (with_reducible rfl))
            (try simp only [Act.put, List.getElem_toArray, List.getElem_cons_zero, List.getElem_cons_succ, List.setIfInBounds_toArray, List.set_cons_zero, List.set_cons_succ])
            refine wpT_take 27 (v := ?v28) rfl (by kernel_rfl) (by kernel_rfl) (by kernel_rfl) (by kernel_rfl) (by intro _ _ _ h; first | exact h | (obtain ⟨h, _⟩ := h; cases h)) (by rfl) HSS ?hy28 ?_
            case hy28 => (intro u hu; obtain ⟨h1, h2, h3, h4, h5⟩ := hu; go_simp; first | done | (with_reducible rfl))
            (try simp only [Act.put, List.getElem_toArray, List.getElem_cons_zero, List.getElem_cons_succ, List.setIfInBounds_toArray, List.set_cons_zero, List.set_cons_succ])
            refine wpT_take 28 (v := ?v29) rfl (by kernel_rfl) (by kernel_rfl) (by kernel_rfl) (by kernel_rfl) (by intro _ _ _ h; first | exact h | (obtain ⟨h, _⟩ := h; cases h)) (by rfl) HSS ?hy29 ?_
            case hy29 => (intro u hu; obtain ⟨h1, h2, h3, h4, h5⟩ := hu; go_simp; first | done | (with_reducible rfl))
            (try simp only [Act.put, List.getElem_toArray, List.getElem_cons_zero, List.getElem_cons_succ, List.setIfInBounds_toArray, List.set_cons_zero, List.set_cons_succ])
            refine wpT_take 29 (v := ?v30) rfl (by kernel_rfl) (by kernel_rfl) (by kernel_rfl) (by kernel_rfl) (by intro _ _ _ h; first | exact h | (obtain ⟨h, _⟩ := h; cases h)) (by rfl) HSS ?hy30 ?_
            case hy30 => (intro u hu; obtain ⟨h1, h2, h3, h4, h5⟩ := hu; go_simp; first | done | (with_reducible rfl))
            (try simp only [Act.put, List.getElem_toArray, List.getElem_cons_zero, List.getElem_cons_succ, List.setIfInBounds_toArray, List.set_cons_zero, List.set_cons_succ])
            refine wpT_take 30 (v := ?v31) rfl (by kernel_rfl) (by kernel_rfl) (by kernel_rfl) (by kernel_rfl) (by intro _ _ _ h; first | exact h | (obtain ⟨h, _⟩ := h; cases h)) (by rfl) HSS ?hy31 ?_
            case hy31 => (intro u hu; obtain ⟨h1, h2, h3, h4, h5⟩ := hu; go_simp; first | done | (with_reducible rfl))
            (try simp only [Act.put, List.getElem_toArray, List.getElem_cons_zero, List.getElem_cons_succ, List.setIfInBounds_toArray, List.set_cons_zero, List.set_cons_succ])
            refine wpT_take 31 (v := ?v32) rfl (by kernel_rfl) (by kernel_rfl) (by kernel_rfl) (by kernel_rfl) (by intro _ _ _ h; first | exact h | (obtain ⟨h, _⟩ := h; cases h)) (by rfl) HSS ?hy32 ?_
            case hy32 => (intro u hu; obtain ⟨h1, h2, h3, h4, h5⟩ := hu; go_simp; first | done | (with_reducible rfl))
            (try simp only [Act.put, List.getElem_toArray, List.getElem_cons_zero, List.getElem_cons_succ, List.setIfInBounds_toArray, List.set_cons_zero, List.set_cons_succ])
            refine wpT_take 32 (v := ?v33) rfl (by kernel_rfl) (by kernel_rfl) (by kernel_rfl) (by kernel_rfl) (by intro _ _ _ h; first | exact h | (obtain ⟨h, _⟩ := h; cases h)) (by rfl) HSS ?hy33 ?_
            case hy33 => (intro u hu; obtain ⟨h1, h2, h3, h4, h5⟩ := hu; go_simp; first | done | (with_reducible rfl))
            (try simp only [Act.put, List.getElem_toArray, List.getElem_cons_zero, List.getElem_cons_succ, List.setIfInBounds_toArray, List.set_cons_zero, List.set_cons_succ])
            refine wpT_take 33 (v := ?v34) rfl (by kernel_rfl) (by kernel_rfl) (by kernel_rfl) (by kernel_rfl) (by intro _ _ _ h; first | exact h | (obtain ⟨h, _⟩ := h; cases h)) (by rfl) HSS ?hy34 ?_
            case hy34 => (intro u hu; obtain ⟨h1, h2, h3, h4, h5⟩ := hu; go_simp; first | done | (with_reducible rfl))
            (try simp only [Act.put, List.getElem_toArray, List.getElem_cons_zero, List.getElem_cons_succ, List.setIfInBounds_toArray, List.set_cons_zero, List.set_cons_succ])
            refine wpT_take 34 (v := ?v35) rfl (by kernel_rfl) (by kernel_rfl) (by kernel_rfl) (by kernel_rfl) (by intro _ _ _ h; first | exact h | (obtain ⟨h, _⟩ := h; cases h)) (by rfl) HSS ?hy35 ?_
            case hy35 => (intro u hu; obtain ⟨h1, h2, h3, h4, h5⟩ := hu; go_simp; first | done | (with_reducible rfl))
            (try simp only [Act.put, List.getElem_toArray, List.getElem_cons_zero, List.getElem_cons_succ, List.setIfInBounds_toArray, List.set_cons_zero, List.set_cons_succ])
            refine wpT_take 35 (v := ?v36) rfl (by kernel_rfl) (by kernel_rfl) (by kernel_rfl) (by kernel_rfl) (by intro _ _ _ h; first | exact h | (obtain ⟨h, _⟩ := h; cases h)) (by rfl) HSS ?hy36 ?_
            case hy36 => (intro u hu; obtain ⟨h1, h2, h3, h4, h5⟩ := hu; go_simp; first | done | (with_reducible rfl))
            (try simp only [Act.put, List.getElem_toArray, List.getElem_cons_zero, List.getElem_cons_succ, List.setIfInBounds_toArray, List.set_cons_zero, List.set_cons_succ])
            refine wpT_take 36 (v := ?v37) rfl (by kernel_rfl) (by kernel_rfl) (by kernel_rfl) (by kernel_rfl) (by intro _ _ _ h; first | exact h | (obtain ⟨h, _⟩ := h; cases h)) (by rfl) HSS ?hy37 ?_
            case hy37 => (intro u hu; obtain ⟨h1, h2, h3, h4, h5⟩ := hu; go_simp; first | done | (with_reducible rfl))
            (try simp only [Act.put, List.getElem_toArray, List.getElem_cons_zero, List.getElem_cons_succ, List.setIfInBounds_toArray, List.set_cons_zero, List.set_cons_succ])
            refine wpT_take 37 (v := ?v38) rfl (by kernel_rfl) (by kernel_rfl) (by kernel_rfl) (by kernel_rfl) (by intro _ _ _ h; first | exact h | (obtain ⟨h, _⟩ := h; cases h)) (by rfl) HSS ?hy38 ?_
            case hy38 => (intro u hu; obtain ⟨h1, h2, h3, h4, h5⟩ := hu; go_simp; first | done | (with_reducible rfl))
            (try simp only [Act.put, List.getElem_toArray, List.getElem_cons_zero, List.getElem_cons_succ, List.setIfInBounds_toArray, List.set_cons_zero, List.set_cons_succ])
            refine wpT_skip 38 rfl (by kernel_rfl) (by kernel_rfl) (by kernel_rfl) (by kernel_rfl) (by intro _ _ _ h; first | exact h | (obtain ⟨h, _⟩ := h; cases h)) (by rfl) HSS ?_
            (try simp only [Act.put, List.getElem_toArray, List.getElem_cons_zero, List.getElem_cons_succ, List.setIfInBounds_toArray, List.set_cons_zero, List.set_cons_succ])
            refine wpT_skip 39 rfl (by kernel_rfl) (by kernel_rfl) (by kernel_rfl) (by kernel_rfl) (by intro _ _ _ h; first | exact h | (obtain ⟨h, _⟩ := h; cases h)) (by rfl) HSS ?_
            (try simp only [Act.put, List.getElem_toArray, List.getElem_cons_zero, List.getElem_cons_succ, List.setIfInBounds_toArray, List.set_cons_zero, List.set_cons_succ])
            refine wpT_skip 40 rfl (by kernel_rfl) (by kernel_rfl) (by kernel_rfl) (by kernel_rfl) (by intro _ _ _ h; first | exact h | (obtain ⟨h, _⟩ := h; cases h)) (by rfl) HSS ?_
            (try simp only [Act.put, List.getElem_toArray, List.getElem_cons_zero, List.getElem_cons_succ, List.setIfInBounds_toArray, List.set_cons_zero, List.set_cons_succ])
            refine wpT_skip 41 rfl (by kernel_rfl) (by kernel_rfl) (by kernel_rfl) (by kernel_rfl) (by intro _ _ _ h; first | exact h | (obtain ⟨h, _⟩ := h; cases h)) (by rfl) HSS ?_
            (try simp only [Act.put, List.getElem_toArray, List.getElem_cons_zero, List.getElem_cons_succ, List.setIfInBounds_toArray, List.set_cons_zero, List.set_cons_succ])
            refine wpT_skip 42 rfl (by kernel_rfl) (by kernel_rfl) (by kernel_rfl) (by kernel_rfl) (by intro _ _ _ h; first | exact h | (obtain ⟨h, _⟩ := h; cases h)) (by rfl) HSS ?_
            (try simp only [Act.put, List.getElem_toArray, List.getElem_cons_zero, List.getElem_cons_succ, List.setIfInBounds_toArray, List.set_cons_zero, List.set_cons_succ])
            refine wpT_take 43 (v := ?v39) rfl (by kernel_rfl) (by kernel_rfl) (by kernel_rfl) (by kernel_rfl) (by intro _ _ _ h; first | exact h | (obtain ⟨h, _⟩ := h; cases h)) (by rfl) HSS ?hy39 ?_
            case hy39 => (intro u hu; obtain ⟨h1, h2, h3, h4, h5⟩ := hu; go_simp; first | done | (with_reducible rfl))
            (try simp only [Act.put, List.getElem_toArray, List.getElem_cons_zero, List.getElem_cons_succ, List.setIfInBounds_toArray, List.set_cons_zero, List.set_cons_succ])
            refine wpT_take 44 (v := ?v40) rfl (by kernel_rfl) (by kernel_rfl) (by kernel_rfl) (by kernel_rfl) (by intro _ _ _ h; first | exact h | (obtain ⟨h, _⟩ := h; cases h)) (by rfl) HSS ?hy40 ?_
            case hy40 => (intro u hu; obtain ⟨h1, h2, h3, h4, h5⟩ := hu; go_simp; first | done | (with_reducible rfl))
            (try simp only [Act.put, List.getElem_toArray, List.getElem_cons_zero, List.getElem_cons_succ, List.setIfInBounds_toArray, List.set_cons_zero, List.set_cons_succ])
            refine wpT_take 45 (v := ?v41) rfl (by kernel_rfl) (by kernel_rfl) (by kernel_rfl) (by kernel_rfl) (by intro _ _ _ h; first | exact h | (obtain ⟨h, _⟩ := h; cases h)) (by rfl) HSS ?hy41 ?_
            case hy41 => (intro u hu; obtain ⟨h1, h2, h3, h4, h5⟩ := hu; go_simp; first | done | (with_reducible rfl))
            (try simp only [Act.put, List.getElem_toArray, List.getElem_cons_zero, List.getElem_cons_succ, List.setIfInBounds_toArray, List.set_cons_zero, List.set_cons_succ])
            refine wpT_done (by kernel_rfl) ?_
            refine wpAny_take (i := 46) (v := ?va) rfl (by kernel_rfl) (by kernel_rfl) (by kernel_rfl) (by intro _ _ _ h; first | exact h | (obtain ⟨h, _⟩ := h; cases h)) (Or.inl ⟨by rfl, ?hya⟩) ?_
            case hya => (intro w; go_simp; first | done | (with_reducible rfl))
            (try simp only [Act.put, List.getElem_toArray, List.getElem_cons_zero, List.getElem_cons_succ, List.setIfInBounds_toArray, List.set_cons_zero, List.set_cons_succ])
            refine wpAny_take (i := 47) (v := ?vb) rfl (by kernel_rfl) (by kernel_rfl) (by kernel_rfl) (by intro _ _ _ h; first | exact h | (obtain ⟨h, _⟩ := h; cases h)) (Or.inl ⟨by rfl, ?hyb⟩) ?_
            case hyb => (intro w; go_simp; first | done | (with_reducible rfl))
            (try simp only [Act.put, List.getElem_toArray, List.getElem_cons_zero, List.getElem_cons_succ, List.setIfInBounds_toArray, List.set_cons_zero, List.set_cons_succ])
            refine wpAny_one 48 rfl (by kernel_rfl) (by rfl) (fun K' hK => ?_)
            go_simp
            refine hK.out _ _ ?_
            (try simp only [Act.put, List.getElem_toArray, List.getElem_cons_zero, List.getElem_cons_succ, List.setIfInBounds_toArray, List.set_cons_zero, List.set_cons_succ])
            refine wpAny_one 49 rfl (by kernel_rfl) (by rfl) (fun K' hK => ?_)
            go_simp
            (with_reducible refine (st_drop (S3.out.ext (Ext.drew (Ext.refl _))) (k : Int) (by simp only [List.length_cons, HLR.out]; have := HL60.out; have := HM.out; omega) (by rw [HAT.out]; simp)).mono ?_)
            rintro e w4 ⟨rfl, s4⟩
            rw [HAT.out] at s4
            have S4 : Hid (St w0 w0.heap.size 64 rest [(B9, .cells #[.int .i64 q1, .int .i64 q2] 31 (0, 0))] w4) := St.fewer s4 (by simp)
            have b3 := s4.blk (p := (w2.heap.size, .cells #[.int .i64 P, .int .i64 k] 31 (0, 0))) (by simp)
            have b4 := s4.blk (p := (B9, .cells #[.int .i64 q1, .int .i64 q2] 31 (0, 0))) (by simp)
            clear s4
            refine hK.out _ _ ?_
            (try simp only [Act.put, List.getElem_toArray, List.getElem_cons_zero, List.getElem_cons_succ, List.setIfInBounds_toArray, List.set_cons_zero, List.set_cons_succ])
            refine wpAny_one 50 rfl (by kernel_rfl) (by rfl) (fun K' hK => ?_)
            go_simp
            refine hK.out _ _ ?_
            (try simp only [Act.put, List.getElem_toArray, List.getElem_cons_zero, List.getElem_cons_succ, List.setIfInBounds_toArray, List.set_cons_zero, List.set_cons_succ])
            refine wpAny_one 51 rfl (by kernel_rfl) (by rfl) (fun K' hK => ?_)
            go_simp
            refine hK.out _ _ ?_
            (try simp only [Act.put, List.getElem_toArray, List.getElem_cons_zero, List.getElem_cons_succ, List.setIfInBounds_toArray, List.set_cons_zero, List.set_cons_succ])
            refine wpAny_done (by kernel_rfl) ?_ _
            clear m0 m1 l0 l1 HSS hK K'
            have m0 : w4.cell? ⟨w2.heap.size, 0, none⟩ = some (.int .i64 P) := by simp [World.cell?, b3]
            have m1 : w4.cell? ⟨w2.heap.size, 1, none⟩ = some (.int .i64 k) := by simp [World.cell?, b3]
            have l0 : w4.cell? ⟨B9, 0, none⟩ = some (.int .i64 q1) := by simp [World.cell?, b4]
            have l1 : w4.cell? ⟨B9, 1, none⟩ = some (.int .i64 q2) := by simp [World.cell?, b4]
            have g0 : w4.frozen? ⟨B9, 0, none⟩ = false := by simp [World.frozen?, b4]
            have g1 : w4.frozen? ⟨B9, 1, none⟩ = false := by simp [World.frozen?, b4]
            clear b3 b4 f1 f2 f3 f4 f5
            go_wp2
            go_roundw
            case rel => exact ⟨i + 1, by go_num, by omega, ⟨rest, (P, (k : Int)), (S4.out.poke (j := 0) (.int .i64 P)).poke (j := 1) (.int .i64 k), HREST.out⟩⟩
            case measure => simp [intOf]; omega
          · have f5 : (P == q1) = true := by rw [beq_iff_eq]; omega
            have f6 : decide ((k : Int) ≤ q2) = false := by simp; omega
            have f7 : decide (q2 < (k : Int)) = true := by simpa using hless
            clear hpq hless
            (try dsimp only [append_cons', append_nil'])
            refine wp_region_T 46 6 (fun u => u.cell? ⟨w2.heap.size, 0, none⟩ = some (.int .i64 P) ∧ u.cell? ⟨w2.heap.size, 1, none⟩ = some (.int .i64 k) ∧ u.cell? ⟨B9, 0, none⟩ = some (.int .i64 q1) ∧ u.cell? ⟨B9, 1, none⟩ = some (.int .i64 q2) ∧ u.cell? ⟨g, off + k, none⟩ = some (.int .u16 P)) (by kernel_rfl) (by kernel_rfl) ?_
            have HSS : w3.drew.cell? ⟨w2.heap.size, 0, none⟩ = some (.int .i64 P) ∧ w3.drew.cell? ⟨w2.heap.size, 1, none⟩ = some (.int .i64 k) ∧ w3.drew.cell? ⟨B9, 0, none⟩ = some (.int .i64 q1) ∧ w3.drew.cell? ⟨B9, 1, none⟩ = some (.int .i64 q2) ∧ w3.drew.cell? ⟨g, off + k, none⟩ = some (.int .u16 P) := ⟨m0, m1, l0, l1, c2⟩
            refine wpT_take 0 (v := ?v42) rfl (by kernel_rfl) (by kernel_rfl) (by kernel_rfl) (by kernel_rfl) (by intro _ _ _ h; first | exact h | (obtain ⟨h, _⟩ := h; cases h)) (by rfl) HSS ?hy42 ?_
            case hy42 => (intro u hu; obtain ⟨h1, h2, h3, h4, h5⟩ := hu; go_simp; first | done | (with_reducible rfl))
            (try simp only [Act.put, List.getElem_toArray, List.getElem_cons_zero, List.getElem_cons_succ, List.setIfInBounds_toArray, List.set_cons_zero, List.set_cons_succ])
            refine wpT_take 1 (v := ?v43) rfl (by kernel_rfl) (by kernel_rfl) (by kernel_rfl) (by kernel_rfl) (by intro _ _ _ h; first | exact h | (obtain ⟨h, _⟩ := h; cases h)) (by rfl) HSS ?hy43 ?_
            case hy43 => (intro u hu; obtain ⟨h1, h2, h3, h4, h5⟩ := hu; go_simp; first | done | (with_reducible rfl))
            (try simp only [Act.put, List.getElem_toArray, List.getElem_cons_zero, List.getElem_cons_succ, List.setIfInBounds_toArray, List.set_cons_zero, List.set_cons_succ])
            refine wpT_take 2 (v := ?v44) rfl (by kernel_rfl) (by kernel_rfl) (by kernel_rfl) (by kernel_rfl) (by intro _ _ _ h; first | exact h | (obtain ⟨h, _⟩ := h; cases h)) (by rfl) HSS ?hy44 ?_
            case hy44 => (intro u hu; obtain ⟨h1, h2, h3, h4, h5⟩ := hu; go_simp; first | done | (with_reducible rfl))
            (try simp only [Act.put, List.getElem_toArray, List.getElem_cons_zero, List.getElem_cons_succ, List.setIfInBounds_toArray, List.set_cons_zero, List.set_cons_succ])
            refine wpT_take 3 (v := ?v45) rfl (by kernel_rfl) (by kernel_rfl) (by kernel_rfl) (by kernel_rfl) (by intro _ _ _ h; first | exact h | (obtain ⟨h, _⟩ := h; cases h)) (by rfl) HSS ?hy45 ?_
            case hy45 => (intro u hu; obtain ⟨h1, h2, h3, h4, h5⟩ := hu; go_simp; first | done | (with_reducible rfl))
            (try simp only [Act.put, List.getElem_toArray, List.getElem_cons_zero, List.getElem_cons_succ, List.setIfInBounds_toArray, List.set_cons_zero, List.set_cons_succ])
            refine wpT_take 4 (v := ?v46) rfl (by kernel_rfl) (by kernel_rfl) (by kernel_rfl) (by kernel_rfl) (by intro _ _ _ h; first | exact h | (obtain ⟨h, _⟩ := h; cases h)) (by rfl) HSS ?hy46 ?_
            case hy46 => (intro u hu; obtain ⟨h1, h2, h3, h4, h5⟩ := hu; go_simp; first | done | (with_reducible rfl))
            (try simp only [Act.put, List.getElem_toArray, List.getElem_cons_zero, List.getElem_cons_succ, List.setIfInBounds_toArray, List.set_cons_zero, List.set_cons_succ])
            refine wpT_take 5 (v := ?v47) rfl (by kernel_rfl) (by kernel_rfl) (by kernel_rfl) (by kernel_rfl) (by intro _ _ _ h; first | exact h | (obtain ⟨h, _⟩ := h; cases h)) (by rfl) HSS ?hy47 ?_
            case hy47 => (intro u hu; obtain ⟨h1, h2, h3, h4, h5⟩ := hu; go_simp; first | done | (with_reducible rfl))
            (try simp only [Act.put, List.getElem_toArray, List.getElem_cons_zero, List.getElem_cons_succ, List.setIfInBounds_toArray, List.set_cons_zero, List.set_cons_succ])
            refine wpT_take 6 (v := ?v48) rfl (by kernel_rfl) (by kernel_rfl) (by kernel_rfl) (by kernel_rfl) (by intro _ _ _ h; first | exact h | (obtain ⟨h, _⟩ := h; cases h)) (by rfl) HSS ?hy48 ?_
            case hy48 => (intro u hu; obtain ⟨h1, h2, h3, h4, h5⟩ := hu; go_simp; first | done | (with_reducible rfl))
            (try simp only [Act.put, List.getElem_toArray, List.getElem_cons_zero, List.getElem_cons_succ, List.setIfInBounds_toArray, List.set_cons_zero, List.set_cons_succ])
            refine wpT_take 7 (v := ?v49) rfl (by kernel_rfl) (by kernel_rfl) (by kernel_rfl) (by kernel_rfl) (by intro _ _ _ h; first | exact h | (obtain ⟨h, _⟩ := h; cases h)) (by rfl) HSS ?hy49 ?_
            case hy49 => (intro u hu; obtain ⟨h1, h2, h3, h4, h5⟩ := hu; go_simp; first | done | (with_reducible rfl))
            (try simp only [Act.put, List.getElem_toArray, List.getElem_cons_zero, List.getElem_cons_succ, List.setIfInBounds_toArray, List.set_cons_zero, List.set_cons_succ])
            refine wpT_take 8 (v := ?v50) rfl (by kernel_rfl) (by kernel_rfl) (by kernel_rfl) (by kernel_rfl) (by intro _ _ _ h; first | exact h | (obtain ⟨h, _⟩ := h; cases h)) (by rfl) HSS ?hy50 ?_
            case hy50 => (intro u hu; obtain ⟨h1, h2, h3, h4, h5⟩ := hu; go_simp; first | done | (with_reducible rfl))
            (try simp only [Act.put, List.getElem_toArray, List.getElem_cons_zero, List.getElem_cons_succ, List.setIfInBounds_toArray, List.set_cons_zero, List.set_cons_succ])
            refine wpT_take 9 (v := ?v51) rfl (by kernel_rfl) (by kernel_rfl) (by kernel_rfl) (by kernel_rfl) (by intro _ _ _ h; first | exact h | (obtain ⟨h, _⟩ := h; cases h)) (by rfl) HSS ?hy51 ?_
            case hy51 => (intro u hu; obtain ⟨h1, h2, h3, h4, h5⟩ := hu; go_simp; first | done | (with_reducible rfl))
            (try simp only [Act.put, List.getElem_toArray, List.getElem_cons_zero, List.getElem_cons_succ, List.setIfInBounds_toArray, List.set_cons_zero, List.set_cons_succ])
            refine wpT_take 10 (v := ?v52) rfl (by kernel_rfl) (by kernel_rfl) (by kernel_rfl) (by kernel_rfl) (by intro _ _ _ h; first | exact h | (obtain ⟨h, _⟩ := h; cases h)) (by rfl) HSS ?hy52 ?_
            case hy52 => (intro u hu; obtain ⟨h1, h2, h3, h4, h5⟩ := hu; go_simp; first | done | (with_reducible rfl))
            (try simp only [Act.put, List.getElem_toArray, List.getElem_cons_zero, List.getElem_cons_succ, List.setIfInBounds_toArray, List.set_cons_zero, List.set_cons_succ])
            refine wpT_take 11 (v := ?v53) rfl (by kernel_rfl) (by kernel_rfl) (by kernel_rfl) (by kernel_rfl) (by intro _ _ _ h; first | exact h | (obtain ⟨h, _⟩ := h; cases h)) (by rfl) HSS ?hy53 ?_
            case hy53 => (intro u hu; obtain ⟨h1, h2, h3, h4, h5⟩ := hu; go_simp; first | done | (with_reducible rfl))
            (try simp only [Act.put, List.getElem_toArray, List.getElem_cons_zero, List.getElem_cons_succ, List.setIfInBounds_toArray, List.set_cons_zero, List.set_cons_succ])
            refine wpT_take 12 (v := ?v54) rfl (by kernel_rfl) (by kernel_rfl) (by kernel_rfl) (by kernel_rfl) (by intro _ _ _ h; first | exact h | (obtain ⟨h, _⟩ := h; cases h)) (by rfl) HSS ?hy54 ?_
            case hy54 => (intro u hu; obtain ⟨h1, h2, h3, h4, h5⟩ := hu; go_simp; first | done | (with_reducible rfl))
            (try simp only [Act.put, List.getElem_toArray, List.getElem_cons_zero, List.getElem_cons_succ, List.setIfInBounds_toArray, List.set_cons_zero, List.set_cons_succ])
            refine wpT_take 13 (v := ?v55) rfl (by kernel_rfl) (by kernel_rfl) (by kernel_rfl) (by kernel_rfl) (by intro _ _ _ h; first | exact h | (obtain ⟨h, _⟩ := h; cases h)) (by rfl) HSS ?hy55 ?_
            case hy55 => (intro u hu; obtain ⟨h1, h2, h3, h4, h5⟩ := hu; go_simp; first | done | (with_reducible rfl))
            (try simp only [Act.put, List.getElem_toArray, List.getElem_cons_zero, List.getElem_cons_succ, List.setIfInBounds_toArray, List.set_cons_zero, List.set_cons_succ])
            refine wpT_take 14 (v := ?v56) rfl (by kernel_rfl) (by kernel_rfl) (by kernel_rfl) (by kernel_rfl) (by intro _ _ _ h; first | exact h | (obtain ⟨h, _⟩ := h; cases h)) (by rfl) HSS ?hy56 ?_
            case hy56 => (intro u hu; obtain ⟨h1, h2, h3, h4, h5⟩ := hu; go_simp; first | done | (with_reducible rfl))
            (try simp only [Act.put, List.getElem_toArray, List.getElem_cons_zero, List.getElem_cons_succ, List.setIfInBounds_toArray, List.set_cons_zero, List.set_cons_succ])
            refine wpT_take 15 (v := ?v57) rfl (by kernel_rfl) (by kernel_rfl) (by kernel_rfl) (by kernel_rfl) (by intro _ _ _ h; first | exact h | (obtain ⟨h, _⟩ := h; cases h)) (by rfl) HSS ?hy57 ?_
            case hy57 => (intro u hu; obtain ⟨h1, h2, h3, h4, h5⟩ := hu; go_simp; first | done | (with_reducible rfl))
            (try simp only [Act.put, List.getElem_toArray, List.getElem_cons_zero, List.getElem_cons_succ, List.setIfInBounds_toArray, List.set_cons_zero, List.set_cons_succ])
            refine wpT_take 16 (v := ?v58) rfl (by kernel_rfl) (by kernel_rfl) (by kernel_rfl) (by kernel_rfl) (by intro _ _ _ h; first | exact h | (obtain ⟨h, _⟩ := h; cases h)) (by rfl) HSS ?hy58 ?_
            case hy58 => (intro u hu; obtain ⟨h1, h2, h3, h4, h5⟩ := hu; go_simp; first | done | (with_reducible rfl))
            (try simp only [Act.put, List.getElem_toArray, List.getElem_cons_zero, List.getElem_cons_succ, List.setIfInBounds_toArray, List.set_cons_zero, List.set_cons_succ])
            refine wpT_take 17 (v := ?v59) rfl (by kernel_rfl) (by kernel_rfl) (by kernel_rfl) (by kernel_rfl) (by intro _ _ _ h; first | exact h | (obtain ⟨h, _⟩ := h; cases h)) (by rfl) HSS ?hy59 ?_
            case hy59 => (intro u hu; obtain ⟨h1, h2, h3, h4, h5⟩ := hu; go_simp; first | done | (with_reducible rfl))
            (try simp only [Act.put, List.getElem_toArray, List.getElem_cons_zero, List.getElem_cons_succ, List.setIfInBounds_toArray, List.set_cons_zero, List.set_cons_succ])
            refine wpT_take 18 (v := ?v60) rfl (by kernel_rfl) (by kernel_rfl) (by kernel_rfl) (by kernel_rfl) (by intro _ _ _ h; first | exact h | (obtain ⟨h, _⟩ := h; cases h)) (by rfl) HSS ?hy60 ?_
            case hy60 => (intro u hu; obtain ⟨h1, h2, h3, h4, h5⟩ := hu; go_simp; first | done | (with_reducible rfl))
            (try simp only [Act.put, List.getElem_toArray, List.getElem_cons_zero, List.getElem_cons_succ, List.setIfInBounds_toArray, List.set_cons_zero, List.set_cons_succ])
            refine wpT_take 19 (v := ?v61) rfl (by kernel_rfl) (by kernel_rfl) (by kernel_rfl) (by kernel_rfl) (by intro _ _ _ h; first | exact h | (obtain ⟨h, _⟩ := h; cases h)) (by rfl) HSS ?hy61 ?_
            case hy61 => (intro u hu; obtain ⟨h1, h2, h3, h4, h5⟩ := hu; go_simp; first | done | (with_reducible rfl))
            (try simp only [Act.put, List.getElem_toArray, List.getElem_cons_zero, List.getElem_cons_succ, List.setIfInBounds_toArray, List.set_cons_zero, List.set_cons_succ])
            refine wpT_take 20 (v := ?v62) rfl (by kernel_rfl) (by kernel_rfl) (by kernel_rfl) (by kernel_rfl) (by intro _ _ _ h; first | exact h | (obtain ⟨h, _⟩ := h; cases h)) (by rfl) HSS ?hy62 ?_
            case hy62 => (intro u hu; obtain ⟨h1, h2, h3, h4, h5⟩ := hu; go_simp; first | done | (with_reducible rfl))
            (try simp only [Act.put, List.getElem_toArray, List.getElem_cons_zero, List.getElem_cons_succ, List.setIfInBounds_toArray, List.set_cons_zero, List.set_cons_succ])
            refine wpT_take 21 (v := ?v63) rfl (by kernel_rfl) (by kernel_rfl) (by kernel_rfl) (by kernel_rfl) (by intro _ _ _ h; first | exact h | (obtain ⟨h, _⟩ := h; cases h)) (by rfl) HSS ?hy63 ?_
            case hy63 => (intro u hu; obtain ⟨h1, h2, h3, h4, h5⟩ := hu; go_simp; first | done | (with_reducible rfl))
            (try simp only [Act.put, List.getElem_toArray, List.getElem_cons_zero, List.getElem_cons_succ, List.setIfInBounds_toArray, List.set_cons_zero, List.set_cons_succ])
            refine wpT_take 22 (v := ?v64) rfl (by kernel_rfl) (by kernel_rfl) (by kernel_rfl) (by kernel_rfl) (by intro _ _ _ h; first | exact h | (obtain ⟨h, _⟩ := h; cases h)) (by rfl) HSS ?hy64 ?_
            case hy64 => (intro u hu; obtain ⟨h1, h2, h3, h4, h5⟩ := hu; go_simp; first | done | (with_reducible rfl))
            (try simp only [Act.put, List.getElem_toArray, List.getElem_cons_zero, List.getElem_cons_succ, List.setIfInBounds_toArray, List.set_cons_zero, List.set_cons_succ])
            refine wpT_take 23 (v := ?v65) rfl (by kernel_rfl) (by kernel_rfl) (by kernel_rfl) (by kernel_rfl) (by intro _ _ _ h; first | exact h | (obtain ⟨h, _⟩ := h; cases h)) (by rfl) HSS ?hy65 ?_
            case hy65 => (intro u hu; obtain ⟨h1, h2, h3, h4, h5⟩ := hu; go_simp; first | done | (with_reducible rfl))
            (try simp only [Act.put, List.getElem_toArray, List.getElem_cons_zero, List.getElem_cons_succ, List.setIfInBounds_toArray, List.set_cons_zero, List.set_cons_succ])
            refine wpT_take 24 (v := ?v66) rfl (by kernel_rfl) (by kernel_rfl) (by kernel_rfl) (by kernel_rfl) (by intro _ _ _ h; first | exact h | (obtain ⟨h, _⟩ := h; cases h)) (by rfl) HSS ?hy66 ?_
            case hy66 => (intro u hu; obtain ⟨h1, h2, h3, h4, h5⟩ := hu; go_simp; first | done | (with_reducible rfl))
            (try simp only [Act.put, List.getElem_toArray, List.getElem_cons_zero, List.getElem_cons_succ, List.setIfInBounds_toArray, List.set_cons_zero, List.set_cons_succ])
            refine wpT_take 25 (v := ?v67) rfl (by kernel_rfl) (by kernel_rfl) (by kernel_rfl) (by kernel_rfl) (by intro _ _ _ h; first | exact h | (obtain ⟨h, _⟩ := h; cases h)) (by rfl) HSS ?hy67 ?_
            case hy67 => (intro u hu; obtain ⟨h1, h2, h3, h4, h5⟩ := hu; go_simp; first | done | (with_reducible rfl))
            (try simp only [Act.put, List.getElem_toArray, List.getElem_cons_zero, List.getElem_cons_succ, List.setIfInBounds_toArray, List.set_cons_zero, List.set_cons_succ])
            refine wpT_take 26 (v := ?v68) rfl (by kernel_rfl) (by kernel_rfl) (by kernel_rfl) (by kernel_rfl) (by intro _ _ _ h; first | exact h | (obtain ⟨h, _⟩ := h; cases h)) (by rfl) HSS ?hy68 ?_
            case hy68 => (intro u hu; obtain ⟨h1, h2, h3, h4, h5⟩ := hu; go_simp; first | done | (with_reducible rfl))
            (try simp only [Act.put, List.getElem_toArray, List.getElem_cons_zero, List.getElem_cons_succ, List.setIfInBounds_toArray, List.set_cons_zero, List.set_cons_succ])
            refine wpT_take 27 (v := ?v69) rfl (by kernel_rfl) (by kernel_rfl) (by kernel_rfl) (by kernel_rfl) (by intro _ _ _ h; first | exact h | (obtain ⟨h, _⟩ := h; cases h)) (by rfl) HSS ?hy69 ?_
            case hy69 => (intro u hu; obtain ⟨h1, h2, h3, h4, h5⟩ := hu; go_simp; first | done | (with_reducible rfl))
            (try simp only [Act.put, List.getElem_toArray, List.getElem_cons_zero, List.getElem_cons_succ, List.setIfInBounds_toArray, List.set_cons_zero, List.set_cons_succ])
            refine wpT_take 28 (v := ?v70) rfl (by kernel_rfl) (by kernel_rfl) (by kernel_rfl) (by kernel_rfl) (by intro _ _ _ h; first | exact h | (obtain ⟨h, _⟩ := h; cases h)) (by rfl) HSS ?hy70 ?_
            case hy70 => (intro u hu; obtain ⟨h1, h2, h3, h4, h5⟩ := hu; go_simp; first | done | (with_reducible rfl))
            (try simp only [Act.put, List.getElem_toArray, List.getElem_cons_zero, List.getElem_cons_succ, List.setIfInBounds_toArray, List.set_cons_zero, List.set_cons_succ])
            refine wpT_take 29 (v := ?v71) rfl (by kernel_rfl) (by kernel_rfl) (by kernel_rfl) (by kernel_rfl) (by intro _ _ _ h; first | exact h | (obtain ⟨h, _⟩ := h; cases h)) (by rfl) HSS ?hy71 ?_
            case hy71 => (intro u hu; obtain ⟨h1, h2, h3, h4, h5⟩ := hu; go_simp; first | done | (with_reducible rfl))
            (try simp only [Act.put, List.getElem_toArray, List.getElem_cons_zero, List.getElem_cons_succ, List.setIfInBounds_toArray, List.set_cons_zero, List.set_cons_succ])
            refine wpT_take 30 (v := ?v72) rfl (by kernel_rfl) (by kernel_rfl) (by kernel_rfl) (by kernel_rfl) (by intro _ _ _ h; first | exact h | (obtain ⟨h, _⟩ := h; cases h)) (by rfl) HSS ?hy72 ?_
            case hy72 => (intro u hu; obtain ⟨h1, h2, h3, h4, h5⟩ := hu; go_simp; first | done | (with_reducible rfl))
            (try simp only [Act.put, List.getElem_toArray, List.getElem_cons_zero, List.getElem_cons_succ, List.setIfInBounds_toArray, List.set_cons_zero, List.set_cons_succ])
            refine wpT_take 31 (v := ?v73) rfl (by kernel_rfl) (by kernel_rfl) (by kernel_rfl) (by kernel_rfl) (by intro _ _ _ h; first | exact h | (obtain ⟨h, _⟩ := h; cases h)) (by rfl) HSS ?hy73 ?_
            case hy73 => (intro u hu; obtain ⟨h1, h2, h3, h4, h5⟩ := hu; go_simp; first | done | (with_reducible rfl))
            (try simp only [Act.put, List.getElem_toArray, List.getElem_cons_zero, List.getElem_cons_succ, List.setIfInBounds_toArray, List.set_cons_zero, List.set_cons_succ])
            refine wpT_take 32 (v := ?v74) rfl (by kernel_rfl) (by kernel_rfl) (by kernel_rfl) (by kernel_rfl) (by intro _ _ _ h; first | exact h | (obtain ⟨h, _⟩ := h; cases h)) (by rfl) HSS ?hy74 ?_
            case hy74 => (intro u hu; obtain ⟨h1, h2, h3, h4, h5⟩ := hu; go_simp; first | done | (with_reducible rfl))
            (try simp only [Act.put, List.getElem_toArray, List.getElem_cons_zero, List.getElem_cons_succ, List.setIfInBounds_toArray, List.set_cons_zero, List.set_cons_succ])
            refine wpT_take 33 (v := ?v75) rfl (by kernel_rfl) (by kernel_rfl) (by kernel_rfl) (by kernel_rfl) (by intro _ _ _ h; first | exact h | (obtain ⟨h, _⟩ := h; cases h)) (by rfl) HSS ?hy75 ?_
            case hy75 => (intro u hu; obtain ⟨h1, h2, h3, h4, h5⟩ := hu; go_simp; first | done | (with_reducible rfl))
            (try simp only [Act.put, List.getElem_toArray, List.getElem_cons_zero, List.getElem_cons_succ, List.setIfInBounds_toArray, List.set_cons_zero, List.set_cons_succ])
            refine wpT_take 34 (v := ?v76) rfl (by kernel_rfl) (by kernel_rfl) (by kernel_rfl) (by kernel_rfl) (by intro _ _ _ h; first | exact h | (obtain ⟨h, _⟩ := h; cases h)) (by rfl) HSS ?hy76 ?_
            case hy76 => (intro u hu; obtain ⟨h1, h2, h3, h4, h5⟩ := hu; go_simp; first | done | (with_reducible rfl))
            (try simp only [Act.put, List.getElem_toArray, List.getElem_cons_zero, List.getElem_cons_succ, List.setIfInBounds_toArray, List.set_cons_zero, List.set_cons_succ])
            refine wpT_take 35 (v := ?v77) rfl (by kernel_rfl) (by kernel_rfl) (by kernel_rfl) (by kernel_rfl) (by intro _ _ _ h; first | exact h | (obtain ⟨h, _⟩ := h; cases h)) (by rfl) HSS ?hy77 ?_
            case hy77 => (intro u hu; obtain ⟨h1, h2, h3, h4, h5⟩ := hu; go_simp; first | done | (with_reducible rfl))
            (try simp only [Act.put, List.getElem_toArray, List.getElem_cons_zero, List.getElem_cons_succ, List.setIfInBounds_toArray, List.set_cons_zero, List.set_cons_succ])
            refine wpT_take 36 (v := ?v78) rfl (by kernel_rfl) (by kernel_rfl) (by kernel_rfl) (by kernel_rfl) (by intro _ _ _ h; first | exact h | (obtain ⟨h, _⟩ := h; cases h)) (by rfl) HSS ?hy78 ?_
            case hy78 => (intro u hu; obtain ⟨h1, h2, h3, h4, h5⟩ := hu; go_simp; first | done | (with_reducible rfl))
            (try simp only [Act.put, List.getElem_toArray, List.getElem_cons_zero, List.getElem_cons_succ, List.setIfInBounds_toArray, List.set_cons_zero, List.set_cons_succ])
            refine wpT_take 37 (v := ?v79) rfl (by kernel_rfl) (by kernel_rfl) (by kernel_rfl) (by kernel_rfl) (by intro _ _ _ h; first | exact h | (obtain ⟨h, _⟩ := h; cases h)) (by rfl) HSS ?hy79 ?_
            case hy79 => (intro u hu; obtain ⟨h1, h2, h3, h4, h5⟩ := hu; go_simp; first | done | (with_reducible rfl))
            (try simp only [Act.put, List.getElem_toArray, List.getElem_cons_zero, List.getElem_cons_succ, List.setIfInBounds_toArray, List.set_cons_zero, List.set_cons_succ])
            refine wpT_take 38 (v := ?v80) rfl (by kernel_rfl) (by kernel_rfl) (by kernel_rfl) (by kernel_rfl) (by intro _ _ _ h; first | exact h | (obtain ⟨h, _⟩ := h; cases h)) (by rfl) HSS ?hy80 ?_
            case hy80 => (intro u hu; obtain ⟨h1, h2, h3, h4, h5⟩ := hu; go_simp; first | done | (with_reducible rfl))
            (try simp only [Act.put, List.getElem_toArray, List.getElem_cons_zero, List.getElem_cons_succ, List.setIfInBounds_toArray, List.set_cons_zero, List.set_cons_succ])
            refine wpT_take 39 (v := ?v81) rfl (by kernel_rfl) (by kernel_rfl) (by kernel_rfl) (by kernel_rfl) (by intro _ _ _ h; first | exact h | (obtain ⟨h, _⟩ := h; cases h)) (by rfl) HSS ?hy81 ?_
            case hy81 => (intro u hu; obtain ⟨h1, h2, h3, h4, h5⟩ := hu; go_simp; first | done | (with_reducible rfl))
            (try simp only [Act.put, List.getElem_toArray, List.getElem_cons_zero, List.getElem_cons_succ, List.setIfInBounds_toArray, List.set_cons_zero, List.set_cons_succ])
            refine wpT_take 40 (v := ?v82) rfl (by kernel_rfl) (by kernel_rfl) (by kernel_rfl) (by kernel_rfl) (by intro _ _ _ h; first | exact h | (obtain ⟨h, _⟩ := h; cases h)) (by rfl) HSS ?hy82 ?_
            case hy82 => (intro u hu; obtain ⟨h1, h2, h3, h4, h5⟩ := hu; go_simp; first | done | (with_reducible rfl))
            (try simp only [Act.put, List.getElem_toArray, List.getElem_cons_zero, List.getElem_cons_succ, List.setIfInBounds_toArray, List.set_cons_zero, List.set_cons_succ])
            refine wpT_take 41 (v := ?v83) rfl (by kernel_rfl) (by kernel_rfl) (by kernel_rfl) (by kernel_rfl) (by intro _ _ _ h; first | exact h | (obtain ⟨h, _⟩ := h; cases h)) (by rfl) HSS ?hy83 ?_
            case hy83 => (intro u hu; obtain ⟨h1, h2, h3, h4, h5⟩ := hu; go_simp; first | done | (with_reducible rfl))
            (try simp only [Act.put, List.getElem_toArray, List.getElem_cons_zero, List.getElem_cons_succ, List.setIfInBounds_toArray, List.set_cons_zero, List.set_cons_succ])
            refine wpT_take 42 (v := ?v84) rfl (by kernel_rfl) (by kernel_rfl) (by kernel_rfl) (by kernel_rfl) (by intro _ _ _ h; first | exact h | (obtain ⟨h, _⟩ := h; cases h)) (by rfl) HSS ?hy84 ?_
            case hy84 => (intro u hu; obtain ⟨h1, h2, h3, h4, h5⟩ := hu; go_simp; first | done | (with_reducible rfl))
            (try simp only [Act.put, List.getElem_toArray, List.getElem_cons_zero, List.getElem_cons_succ, List.setIfInBounds_toArray, List.set_cons_zero, List.set_cons_succ])
            refine wpT_take 43 (v := ?v85) rfl (by kernel_rfl) (by kernel_rfl) (by kernel_rfl) (by kernel_rfl) (by intro _ _ _ h; first | exact h | (obtain ⟨h, _⟩ := h; cases h)) (by rfl) HSS ?hy85 ?_
            case hy85 => (intro u hu; obtain ⟨h1, h2, h3, h4, h5⟩ := hu; go_simp; first | done | (with_reducible rfl))
            (try simp only [Act.put, List.getElem_toArray, List.getElem_cons_zero, List.getElem_cons_succ, List.setIfInBounds_toArray, List.set_cons_zero, List.set_cons_succ])
            refine wpT_take 44 (v := ?v86) rfl (by kernel_rfl) (by kernel_rfl) (by kernel_rfl) (by kernel_rfl) (by intro _ _ _ h; first | exact h | (obtain ⟨h, _⟩ := h; cases h)) (by rfl) HSS ?hy86 ?_
            case hy86 => (intro u hu; obtain ⟨h1, h2, h3, h4, h5⟩ := hu; go_simp; first | done | (with_reducible rfl))
            (try simp only [Act.put, List.getElem_toArray, List.getElem_cons_zero, List.getElem_cons_succ, List.setIfInBounds_toArray, List.set_cons_zero, List.set_cons_succ])
            refine wpT_take 45 (v := ?v87) rfl (by kernel_rfl) (by kernel_rfl) (by kernel_rfl) (by kernel_rfl) (by intro _ _ _ h; first | exact h | (obtain ⟨h, _⟩ := h; cases h)) (by rfl) HSS ?hy87 ?_
            case hy87 => (intro u hu; obtain ⟨h1, h2, h3, h4, h5⟩ := hu; go_simp; first | done | (with_reducible rfl))
            (try simp only [Act.put, List.getElem_toArray, List.getElem_cons_zero, List.getElem_cons_succ, List.setIfInBounds_toArray, List.set_cons_zero, List.set_cons_succ])
            refine wpT_done (by kernel_rfl) ?_
            refine wpAny_take (i := 46) (v := ?vc) rfl (by kernel_rfl) (by kernel_rfl) (by kernel_rfl) (by intro _ _ _ h; first | exact h | (obtain ⟨h, _⟩ := h; cases h)) (Or.inl ⟨by rfl, ?hyc⟩) ?_
            case hyc => (intro w; go_simp; first | done | (with_reducible rfl))
            (try simp only [Act.put, List.getElem_toArray, List.getElem_cons_zero, List.getElem_cons_succ, List.setIfInBounds_toArray, List.set_cons_zero, List.set_cons_succ])
            refine wpAny_take (i := 47) (v := ?vd) rfl (by kernel_rfl) (by kernel_rfl) (by kernel_rfl) (by intro _ _ _ h; first | exact h | (obtain ⟨h, _⟩ := h; cases h)) (Or.inl ⟨by rfl, ?hyd⟩) ?_
            case hyd => (intro w; go_simp; first | done | (with_reducible rfl))
            (try simp only [Act.put, List.getElem_toArray, List.getElem_cons_zero, List.getElem_cons_succ, List.setIfInBounds_toArray, List.set_cons_zero, List.set_cons_succ])
            refine wpAny_one 48 rfl (by kernel_rfl) (by rfl) (fun K' hK => ?_)
            go_simp
            refine hK.out _ _ ?_
            (try simp only [Act.put, List.getElem_toArray, List.getElem_cons_zero, List.getElem_cons_succ, List.setIfInBounds_toArray, List.set_cons_zero, List.set_cons_succ])
            refine wpAny_one 49 rfl (by kernel_rfl) (by rfl) (fun K' hK => ?_)
            go_simp
            (with_reducible refine (st_drop (S3.out.ext (Ext.drew (Ext.refl _))) (k : Int) (by simp only [List.length_cons, HLR.out]; have := HL60.out; have := HM.out; omega) (by rw [HAT.out]; simp)).mono ?_)
            rintro e w4 ⟨rfl, s4⟩
            rw [HAT.out] at s4
            have S4 : Hid (St w0 w0.heap.size 64 rest [(B9, .cells #[.int .i64 q1, .int .i64 q2] 31 (0, 0))] w4) := St.fewer s4 (by simp)
            have b3 := s4.blk (p := (w2.heap.size, .cells #[.int .i64 P, .int .i64 k] 31 (0, 0))) (by simp)
            have b4 := s4.blk (p := (B9, .cells #[.int .i64 q1, .int .i64 q2] 31 (0, 0))) (by simp)
            clear s4
            refine hK.out _ _ ?_
            (try simp only [Act.put, List.getElem_toArray, List.getElem_cons_zero, List.getElem_cons_succ, List.setIfInBounds_toArray, List.set_cons_zero, List.set_cons_succ])
            refine wpAny_one 50 rfl (by kernel_rfl) (by rfl) (fun K' hK => ?_)
            go_simp
            refine hK.out _ _ ?_
            (try simp only [Act.put, List.getElem_toArray, List.getElem_cons_zero, List.getElem_cons_succ, List.setIfInBounds_toArray, List.set_cons_zero, List.set_cons_succ])
            refine wpAny_one 51 rfl (by kernel_rfl) (by rfl) (fun K' hK => ?_)
            go_simp
            refine hK.out _ _ ?_
            (try simp only [Act.put, List.getElem_toArray, List.getElem_cons_zero, List.getElem_cons_succ, List.setIfInBounds_toArray, List.set_cons_zero, List.set_cons_succ])
            refine wpAny_done (by kernel_rfl) ?_ _
            clear m0 m1 l0 l1 HSS hK K'
            have m0 : w4.cell? ⟨w2.heap.size, 0, none⟩ = some (.int .i64 P) := by simp [World.cell?, b3]
            have m1 : w4.cell? ⟨w2.heap.size, 1, none⟩ = some (.int .i64 k) := by simp [World.cell?, b3]
            have l0 : w4.cell? ⟨B9, 0, none⟩ = some (.int .i64 q1) := by simp [World.cell?, b4]
            have l1 : w4.cell? ⟨B9, 1, none⟩ = some (.int .i64 q2) := by simp [World.cell?, b4]
            have g0 : w4.frozen? ⟨B9, 0, none⟩ = false := by simp [World.frozen?, b4]
            have g1 : w4.frozen? ⟨B9, 1, none⟩ = false := by simp [World.frozen?, b4]
            clear b3 b4 f1 f2 f3 f4 f5 f6 f7
            go_wp2
            go_roundw
            case rel => exact ⟨i + 1, by go_num, by omega, ⟨rest, (P, (k : Int)), (S4.out.poke (j := 0) (.int .i64 P)).poke (j := 1) (.int .i64 k), HREST.out⟩⟩
            case measure => simp [intOf]; omega
        · obtain rfl : i = L.length := by omega
          obtain ⟨rows2, q, s, hleft⟩ := hinv.out
          have hnil : rows2 = [] := List.eq_nil_of_length_eq_zero (by rw [hleft.len]; omega)
          subst hnil
          have HS := hid s
          clear hinv s hleft
          go_wp2_with fail
          (with_reducible refine (st_min HS.out).mono ?_)
          rintro e w2 ⟨rfl, s2⟩
          simp only [minV]
          have s3 := hid (s2.alloc (.cells #[.int .i64 0, .int .i64 0] 31 (0, 0)))
          clear s2
          go_wp2_with fail
          (with_reducible refine (st_len s3.out).mono ?_)
          rintro e w4 ⟨rfl, s4⟩
          have HX := hid s4.xt
          clear s4
          go_wp2
          go_returns
          exact ⟨rfl, hE0.out.trans HX.out⟩

set_option linter.unusedVariables false in
set_option maxRecDepth 100000 in
theorem lifted (os : Os) (started : os.Started) (H : Type) (enc : TypeId × Value → H) :
    ReturnsInHanded {} Try.checked os 3 .any (Rows.passqSortsSpec.pre6 enc Try.prog Try.f3 Rows.passqSortsRow.domain false) (Rows.passqSortsSpec.post enc Try.prog Try.f3 false true false false) := by
  refine returnsInHanded_of_change (C := Try.checked) Own.own started (by kernel_rfl) Try.func3
    (ChangeSpec.witness6 (enc := enc) (C := Try.checked) false ⟨#[], #[.slice none 0 0, .int .u8 0], []⟩ 8 (by kernel_rfl) (by kernel_rfl) (by kernel_rfl) (by kernel_rfl)) ?_
  intro W base args ds gs before hval0 hW hcnd _
  have hval : ∀ (j : Nat) t v, Try.f3.params[j]? = some t → args[j]? = some v → Value.okWide Try.prog W .any base t v := hval0
  have hW' := hW
  obtain ⟨p, q, hA0, hV, rfl, hfz, hnd⟩ := hW
  have hA : DataW.TrodAll enc Try.prog W 0 (fun _ => true) true Try.f3.params.toList args.toList ds p := hA0
  rw [Try.params3] at hA hval
  obtain ⟨v0, vs0, d0, ds0, p0, q0, hargs, rfl, rfl, h0, r0⟩ := trodAll_cons hA
  obtain ⟨v1, vs1, d1, ds1, p1, q1, rfl, rfl, rfl, h1, r1⟩ := trodAll_cons r0
  obtain ⟨rfl, rfl, rfl⟩ := trodAll_nil r1
  obtain rfl : args = #[v0, v1] := by cases args; simp_all
  obtain ⟨rfl, rfl⟩ := trodVars_none hV
  have k0 := h0
  have lt0 : ∀ x ∈ p0, x.block < W.heap.size := by obtain ⟨m, hm⟩ := k0; exact DataW.trod_lt m _ _ _ hm
  have k1 := h1
  have lt1 : ∀ x ∈ p1, x.block < W.heap.size := by obtain ⟨m, hm⟩ := k1; exact DataW.trod_lt m _ _ _ hm
  obtain ⟨a0, len0, cap0, rfl⟩ := okWide_slice Try.underlying22 (hval 0 22 v0 rfl rfl)
  obtain ⟨l, hl⟩ := Own.open_nums Try.underlying22 Try.underlying29 (by kernel_rfl) h0
  obtain ⟨n, rfl, rfl, rfl, wn⟩ := open_int Try.underlying5 (hval 1 5 v1 rfl rfl) h1
  have bn := bounds_u8 wn
  clear hA0 hval0
  refine (walk _ l n (by omega) (by omega) W hl).mono fun e W' ⟨he, hx⟩ => ?_
  subst he
  exact ⟨_, rfl, _, _, _, [], _, [], hW', trodAll_mk1 (shut_bool Try.underlying4 _), (trodAll_cons_mk (Below.trod Own.laidOut (by kernel_rfl) (of_decide_eq_true (by kernel_rfl)) k0 hx.below lt0) (trodAll_cons_mk (Below.trod Own.laidOut (by kernel_rfl) (of_decide_eq_true (by kernel_rfl)) k1 hx.below lt1) trodAll_mk0)), rfl, hx.below.frame _, fun h => by cases h⟩

theorem proved : Rows.PassqSortsSaid :=
  OpenClaim.holds_of_wide 3 Try.f3 rfl rfl rfl rfl rfl rfl rfl ⟨rfl, rfl, rfl, rfl, rfl⟩ rfl rfl rfl rfl rfl (by kernel_rfl) Try.func3 (by kernel_rfl)
    (of_decide_eq_true (by kernel_rfl)) (by unfold Func.isWrapper; first | (rw [if_pos (by decide +kernel)]; kernel_rfl) | (rw [if_neg (by decide +kernel)]; exact ⟨rfl, rfl⟩))
    (fun os started H enc _ => lifted os started H enc)

end passqSorts
end Go.Proofs.Ythjnnjjjjponnaa
