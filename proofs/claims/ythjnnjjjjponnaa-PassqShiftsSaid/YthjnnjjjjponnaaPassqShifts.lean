/- PassqShifts: of every row of passes, every shift by no more than the least: each pass is so much less, the order stays: the law answers true. No conditions. -/
import Derived.Test.YthjnnjjjjponnaaPqK
import Derived.Test.YthjnnjjjjponnaaPqH
import Derived.Test.YthjnnjjjjponnaaOwn2
import Derived.Deep.QuietTactic
import Derived.BigQuiet
import Derived.IntWalk
namespace Go.Proofs.Ythjnnjjjjponnaa
open Go.ChangeShapes Go.WideShapes Go.ChangeAt Go.RowKit Go.Joins Go.Deep

namespace passqShifts
theorem u16_bounds {n : Int} (h : (Lit.int .u16 n).wf = true) : 0 ≤ n ∧ n ≤ 65535 := by
  have e1 : IntKind.u16.min = 0 := by decide
  have e2 : IntKind.u16.max = 65535 := by decide
  simpa [Lit.wf, e1, e2] using h

/-- i passes were put in, the least is m. -/
def Inv (w0 : World) (L : List Int) (i : Nat) (m : Int) (wr : World) : Prop := 0 ≤ m ∧ m ≤ 1048576 ∧ ∃ rows, St w0 w0.heap.size 64 rows [] wr ∧ Put1 L 0 i rows ∧ ∀ e ∈ rows, m ≤ e.1

set_option maxRecDepth 100000 in
set_option maxHeartbeats 8000000 in
theorem walk (v : Value) (L : List Int) (n : Int) (hn0 : 0 ≤ n) (hn1 : n ≤ 65535) (w : World) (hL : Nums .u16 w v L) :
    Calls Try.prog 4 #[v, .int .u16 n] w (Yields w (.bool true)) := by
  obtain ⟨p, cap, rfl, hcap, hmax⟩ := hL.shape
  unfold maxLen at hmax
  have HL := hid hL
  clear hL
  have hnn := fun w => run_neq_nil_nil' (P := Try.prog) w Try.underlying27
  have hen := fun w => run_eql_nil_nil' (P := Try.prog) w Try.underlying27
  go_enter Try.func4, Try.ntmps4
  go_wp2_with fail
  refine (known_any _).yields ?_
  intro p0
  have hE0 := hid (ext_more w p0)
  generalize more w p0 = w0 at *
  by_cases hlen : 60 < L.length
  · have i1 : (60 : Int) < (L.length : Int) := by omega
    go_wp2
    go_returns
    exact ⟨rfl, hE0.out⟩
  by_cases hlen0 : L.length = 0
  · have i1 : ((L.length : Int) == 0) = true := by rw [hlen0]; rfl
    have i2 : ¬ (60 : Int) < (L.length : Int) := by omega
    clear hlen0
    go_wp2
    go_returns
    exact ⟨rfl, hE0.out⟩
  have i1 : (L.length : Int) ≤ 60 := by omega
  have i2 : ((L.length : Int) == 0) = false := by rw [beq_eq_false_iff_ne]; omega
  have hpos : 0 < L.length := by omega
  have HL60 := hid i1
  clear hlen hlen0
  go_wp2_with fail
  (with_reducible refine (st_new 64 w0).mono ?_)
  rintro e w1 ⟨rfl, s1⟩
  have S1 : Hid (Inv w0 L 0 1048576 w1) := ⟨by decide, by decide, [], s1, Put1.nil L 0, fun e he => by cases he⟩
  clear s1
  go_wp2_with fail
  go_loopw [6, 7] (fun s6 s wr => ∃ (i : Nat) (m : Int), s = .int .i64 i ∧ s6 = .int .i64 m ∧ i ≤ L.length ∧ Hid (Inv w0 L i m wr)) (fun _ s _ => (L.length - intOf s).toNat)
  case atStart => exact ⟨0, _, rfl, rfl, by omega, S1⟩
  case round =>
    clear S1
    obtain ⟨i, m, rfl, rfl, hi, hinv⟩ := hrel
    obtain ⟨hm0, hm1, hrest⟩ := hinv.out
    by_cases hlt : i < L.length
    · have j1 : (i : Int) < (L.length : Int) := by omega
      have hk : Hid (((i : Int) + 0) % L.length = i) := by rw [Hid, Int.add_zero]; exact Int.emod_eq_of_lt (by omega) (by omega)
      obtain ⟨g, off, rfl, c0, cw⟩ := HL.out.at i hlt
      simp only [Nat.mul_one] at c0
      have HP : Hid (entL L i = (L[i], (i : Int))) := by rw [Hid, entL, List.getD_eq_getElem?_getD, List.getElem?_eq_getElem hlt]; rfl
      have hu := u16_bounds cw
      generalize L[i] = P at *
      obtain ⟨rows, s, hP, hge⟩ := hrest
      have c1 := hE0.out.cell c0
      have c2 := s.xt.cell c1
      have hnot := hid (hk.out ▸ hP.not_has hlt)
      have hput := hid (hP.put hlt hk.out hlt)
      have HS := hid s
      have HLEN := hid hP.len
      have HGE := hid hge
      clear c0 cw hinv s hP hge
      go_wp2_with fail
      (with_reducible refine (st_put HS.out P (i : Int) (by have := HLEN.out; have := HL60.out; omega) (formedB_iff.2 ⟨by omega, by omega, by omega⟩) (has_not.2 hnot.out) (by have := HLEN.out; have := HL60.out; omega)).mono ?_)
      rintro e w2 ⟨rfl, s2⟩
      have c3 := s2.xt.cell c1
      have HN : ∀ m', 0 ≤ m' → m' ≤ 1048576 → m' ≤ m → m' ≤ P → Inv w0 L (i + 1) m' w2 := fun m' h0 h1 h2 h3 => ⟨h0, h1, _, s2, by rw [← HP.out]; exact hput.out, fun e he => by
        rcases mem_ins.1 he with rfl | he
        · exact h3
        · exact Int.le_trans h2 (HGE.out e he)⟩
      have HN := hid HN
      clear s2 c2 c1
      by_cases hmp : m ≤ P
      · go_wp2
        go_roundw
        case rel => exact ⟨i + 1, m, by go_num, rfl, by omega, HN.out m hm0 hm1 (by omega) hmp⟩
        case measure => simp [intOf]; omega
      · go_wp2
        go_roundw
        case rel => exact ⟨i + 1, P, by go_num, rfl, by omega, HN.out P (by omega) (by omega) (by omega) (by omega)⟩
        case measure => simp [intOf]; omega
    · obtain rfl : i = L.length := by omega
      obtain ⟨rows, s, hP, hge⟩ := hrest
      have HLEN : Hid (rows.length = L.length) := hP.len
      have HB : Hid (∀ e ∈ rows, 0 ≤ e.1 ∧ e.1 ≤ 65535) := fun e he => by
        obtain ⟨k, hk, rfl⟩ := hP.ents e he
        obtain ⟨_, _, _, _, cw⟩ := HL.out.at k hk
        have := u16_bounds cw
        show 0 ≤ L.getD k 0 ∧ L.getD k 0 ≤ 65535
        rw [List.getD_eq_getElem?_getD, List.getElem?_eq_getElem hk]
        exact this
      have HS := hid s
      have hsz : Hid (w0.heap.size ≤ wr.heap.size) := s.xt.size
      have HGE := hid hge
      have HSO := hid hP.sorted
      obtain ⟨q, hq⟩ : ∃ q, n % (m + 1) = q := ⟨_, rfl⟩
      have hq0 : 0 ≤ q := hq ▸ Int.emod_nonneg _ (by omega)
      have hq1 : q ≤ m := by have := Int.emod_lt_of_pos n (show 0 < m + 1 by omega); omega
      have hz : ((m + 1) == 0) = false := by rw [beq_eq_false_iff_ne]; omega
      have HROWS : Hid (shiftL (max 0 (min q 1099511627776)) rows [] = rows.map fun e => (e.1 - q, e.2)) := by
        rw [Hid, show max 0 (min q 1099511627776) = q by omega]
        have := shiftL_map rows [] (k := q) (by simpa using hP.sorted) fun e he => Int.le_trans hq1 (hge e he)
        simpa using this
      clear hinv s hP hge
      go_wp2_with fail
      (with_reducible refine (st_all' HS.out (by have := HLEN.out; have := HL60.out; omega) (by have := HLEN.out; omega)).mono ?_)
      rintro e w2 ⟨g, c, cur, rfl, hc1, hc2, s2, r2⟩
      rw [HLEN.out] at hc1 r2 ⊢
      unfold maxLen at hc2
      have S2 := hid s2
      have R2 := hid r2
      clear s2 r2 HS
      go_wp2_with fail
      (with_reducible refine (st_shift S2.out q (by have := HLEN.out; have := HL60.out; omega) (fun e he => ⟨(HB.out e he).1, Int.le_trans (HB.out e he).2 (by decide)⟩)).mono ?_)
      rintro e w3 ⟨rfl, s3⟩
      rw [HROWS.out] at s3
      have S3 := hid s3
      clear s3
      have R3 : Hid (Row w3 w0.heap.size (.slice (some ⟨g, 0, none⟩) L.length c) L.length rows) := (R2.out.keep fun g' hg' => by
        obtain rfl : g = g' := Option.some.inj hg'
        rw [S3.out.blk (p := (g, .cells cur 31 (0, 0))) (by simp), S2.out.blk (p := (g, .cells cur 31 (0, 0))) (by simp)]).base hsz.out
      go_wp2_with fail
      (with_reducible refine (st_all' S3.out (by rw [List.length_map]; have := HLEN.out; have := HL60.out; omega) (by rw [List.length_map]; have := HLEN.out; omega)).mono ?_)
      rintro e w4 ⟨g', c', cur', rfl, hd1, hd2, s4, r4⟩
      rw [List.length_map, HLEN.out] at hd1 r4 ⊢
      unfold maxLen at hd2
      have S4 := hid s4
      have R4 := hid r4
      have X4 : Hid (Row w4 w0.heap.size (.slice (some ⟨g, 0, none⟩) L.length c) L.length rows) := R3.out.keep fun g2 hg2 => by
        obtain rfl : g = g2 := Option.some.inj hg2
        rw [S4.out.blk (p := (g, .cells cur 31 (0, 0))) (by simp), S3.out.blk (p := (g, .cells cur 31 (0, 0))) (by simp)]
      clear s4 r4
      go_wp2_with fail
      go_loopw [11] (fun s wr => ∃ j : Nat, s = .int .i64 j ∧ j ≤ L.length ∧ Hid (Ext w4 wr)) (fun s _ => (L.length - intOf s).toNat)
      case atStart => exact ⟨0, rfl, by omega, Ext.refl _⟩
      case round =>
        obtain ⟨j, rfl, hj, hx⟩ := hrel
        by_cases hlt2 : j < L.length
        · have j1 : (j : Int) < (L.length : Int) := by omega
          obtain ⟨a, ha⟩ : ∃ a, rows[j]? = some a := ⟨_, List.getElem?_eq_getElem (by have := HLEN.out; omega)⟩
          have HA := HB.out a (List.mem_of_getElem? ha)
          have HA2 := HGE.out a (List.mem_of_getElem? ha)
          obtain ⟨a0, a1, -, -⟩ := (X4.out.ext hx.out).cell ha
          obtain ⟨b0, b1, -, -⟩ := (R4.out.ext hx.out).cell (i := j) (p := (a.1 - q, a.2)) (by rw [List.getElem?_map, ha]; rfl)
          have hg1 := World.block_lt_of_cell? _ _ a0
          have hg2 := World.block_lt_of_cell? _ _ b0
          simp only at hg1 hg2
          clear ha
          obtain ⟨x1, x2⟩ := a
          simp only at a0 a1 b0 b1 HA HA2
          have e1 : IntKind.i64.wrap (x1 - q) = x1 - q := IntWalk.i64_in _ (by omega)
          go_wp2
          ((first | refine wp_region_more (by kernel_rfl) (by kernel_rfl) ?_ | refine wp_region_ext (by kernel_rfl) (by kernel_rfl) ?_); (try dsimp only [append_cons', append_nil']); (repeat (go_big_quiet_step ((fail)))); refine wpQuiet_nil ?_; rintro _ ⟨pq, rfl⟩)
          have hy := hid (hx.out.trans (ext_more wr pq))
          clear e1
          go_wp2
          go_roundw
          case rel => exact ⟨j + 1, by go_num, by omega, hy⟩
          case measure => simp [intOf]; omega
        · have hxe := hid (hE0.out.trans (S4.out.xt.trans hx.out))
          go_wp2
          go_returns
          exact ⟨rfl, hxe.out⟩

set_option linter.unusedVariables false in
set_option maxRecDepth 100000 in
theorem lifted (os : Os) (started : os.Started) (H : Type) (enc : TypeId × Value → H) :
    ReturnsInHanded {} Try.checked os 4 .any (Rows.passqShiftsSpec.pre6 enc Try.prog Try.f4 Rows.passqShiftsRow.domain false) (Rows.passqShiftsSpec.post enc Try.prog Try.f4 false true false false) := by
  refine returnsInHanded_of_change (C := Try.checked) Own.own started (by kernel_rfl) Try.func4
    (ChangeSpec.witness6 (enc := enc) (C := Try.checked) false ⟨#[], #[.slice none 0 0, .int .u16 0], []⟩ 8 (by kernel_rfl) (by kernel_rfl) (by kernel_rfl) (by kernel_rfl)) ?_
  intro W base args ds gs before hval0 hW hcnd _
  have hval : ∀ (j : Nat) t v, Try.f4.params[j]? = some t → args[j]? = some v → Value.okWide Try.prog W .any base t v := hval0
  have hW' := hW
  obtain ⟨p, q, hA0, hV, rfl, hfz, hnd⟩ := hW
  have hA : DataW.TrodAll enc Try.prog W 0 (fun _ => true) true Try.f4.params.toList args.toList ds p := hA0
  rw [Try.params4] at hA hval
  obtain ⟨v0, vs0, d0, ds0, p0, q0, hargs, rfl, rfl, h0, r0⟩ := trodAll_cons hA
  obtain ⟨v1, vs1, d1, ds1, p1, q1, rfl, rfl, rfl, h1, r1⟩ := trodAll_cons r0
  obtain ⟨rfl, rfl, rfl⟩ := trodAll_nil r1
  obtain rfl : args = #[v0, v1] := by cases args; simp_all
  obtain ⟨rfl, rfl⟩ := trodVars_none hV
  have k0 := h0
  have lt0 : ∀ x ∈ p0, x.block < W.heap.size := by obtain ⟨m, hm⟩ := k0; exact DataW.trod_lt m _ _ _ hm
  have k1 := h1
  have lt1 : ∀ x ∈ p1, x.block < W.heap.size := by obtain ⟨m, hm⟩ := k1; exact DataW.trod_lt m _ _ _ hm
  obtain ⟨a0, len0, cap0, rfl⟩ := okWide_slice Try.underlying22 (hval 0 22 v0 rfl rfl)
  obtain ⟨l, hl⟩ := Own.open_nums Try.underlying22 Try.underlying29 (by kernel_rfl) h0
  obtain ⟨n, rfl, rfl, rfl, wn⟩ := open_int Try.underlying29 (hval 1 29 v1 rfl rfl) h1
  have bn := u16_bounds wn
  clear hA0 hval0
  refine (walk _ l n (by omega) (by omega) W hl).mono fun e W' ⟨he, hx⟩ => ?_
  subst he
  exact ⟨_, rfl, _, _, _, [], _, [], hW', trodAll_mk1 (shut_bool Try.underlying4 _), (trodAll_cons_mk (Below.trod Own.laidOut (by kernel_rfl) (of_decide_eq_true (by kernel_rfl)) k0 hx.below lt0) (trodAll_cons_mk (Below.trod Own.laidOut (by kernel_rfl) (of_decide_eq_true (by kernel_rfl)) k1 hx.below lt1) trodAll_mk0)), rfl, hx.below.frame _, fun h => by cases h⟩

theorem proved : Rows.PassqShiftsSaid :=
  OpenClaim.holds_of_wide 4 Try.f4 rfl rfl rfl rfl rfl rfl rfl ⟨rfl, rfl, rfl, rfl, rfl⟩ rfl rfl rfl rfl rfl (by kernel_rfl) Try.func4 (by kernel_rfl)
    (of_decide_eq_true (by kernel_rfl)) (by unfold Func.isWrapper; first | (rw [if_pos (by decide +kernel)]; kernel_rfl) | (rw [if_neg (by decide +kernel)]; exact ⟨rfl, rfl⟩))
    (fun os started H enc _ => lifted os started H enc)

end passqShifts
end Go.Proofs.Ythjnnjjjjponnaa
