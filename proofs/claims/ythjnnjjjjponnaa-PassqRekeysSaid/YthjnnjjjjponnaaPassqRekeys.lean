/- PassqRekeys: of every row of passes, whichever id: the pass changed again and again is the last one, the order goes by it: the law answers true. No conditions. -/
import Derived.Test.YthjnnjjjjponnaaPqK
import Derived.Test.YthjnnjjjjponnaaPqR
import Derived.Test.YthjnnjjjjponnaaOwn2
import Derived.IntWalk
namespace Go.Proofs.Ythjnnjjjjponnaa
open Go.ChangeShapes Go.WideShapes Go.ChangeAt Go.RowKit Go.Joins Go.Deep

namespace passqRekeys
theorem u16_bounds {n : Int} (h : (Lit.int .u16 n).wf = true) : 0 ≤ n ∧ n ≤ 65535 := by
  have e1 : IntKind.u16.min = 0 := by decide
  have e2 : IntKind.u16.max = 65535 := by decide
  simpa [Lit.wf, e1, e2] using h
theorem own8_passV {P K : Int} {rows : List (Int × Int)} (o : Own8 P K rows) : passV rows K = .tuple #[.int .i64 P, .bool true] := by
  unfold passV; rw [o.at]
def lstO (l : Int × Int) : Obj := .cells #[.int .i64 l.1, .int .i64 l.2] 31 (0, 0)
/-- The least of those from behind j on lies in block B + 1. -/
def Inv2 (w0 : World) (h : Int × Int) (rest : List (Int × Int)) (P K : Int) (B : Nat) (j : Int) (l : Int × Int) (wr : World) : Prop :=
  St w0 w0.heap.size 9 (h :: rest) [(B + 1, lstO l), (B, lstO h)] wr ∧ Lst P K j l ∧ l.1 ≤ 65535 ∧ 0 ≤ l.1

set_option maxRecDepth 100000 in
set_option maxHeartbeats 8000000 in
theorem walk (v : Value) (L : List Int) (id : Int) (hi0 : 0 ≤ id) (hi1 : id ≤ 255) (w : World) (hL : Nums .u16 w v L) :
    Calls Try.prog 6 #[v, .int .u8 id] w (Yields w (.bool true)) := by
  obtain ⟨p, cap, rfl, hcap, hmax⟩ := hL.shape
  unfold maxLen at hmax
  have HL := hid hL
  clear hL
  obtain ⟨K, hK⟩ : ∃ K, id % 8 = K := ⟨_, rfl⟩
  have hK0 : 0 ≤ K := by omega
  have hK1 : K < 8 := by omega
  have hnn := fun w => run_neq_nil_nil' (P := Try.prog) w Try.underlying27
  have hen := fun w => run_eql_nil_nil' (P := Try.prog) w Try.underlying27
  have hne := entNe
  go_enter Try.func6, Try.ntmps6
  go_wp2_with fail
  refine (known_any _).yields ?_
  intro p0
  have hE0 := hid (ext_more w p0)
  generalize more w p0 = w0 at *
  by_cases hlen : 40 < L.length
  · have i1 : (40 : Int) < (L.length : Int) := by omega
    go_wp2
    go_returns
    exact ⟨rfl, hE0.out⟩
  have i1 : (L.length : Int) ≤ 40 := by omega
  clear hlen
  go_wp2_with fail
  (with_reducible refine (st_new 9 w0).mono ?_)
  rintro e w1 ⟨rfl, s1⟩
  have S1 : Hid (St w0 w0.heap.size 9 (base8 0) [] w1) := s1
  clear s1
  go_wp2_with fail
  go_loopw [6] (fun s wr => ∃ i : Nat, s = .int .i64 i ∧ i ≤ 8 ∧ Hid (St w0 w0.heap.size 9 (base8 i) [] wr)) (fun s _ => (8 - intOf s).toNat)
  case atStart => exact ⟨0, rfl, by omega, S1⟩
  case round =>
    clear S1
    obtain ⟨i, rfl, hi, hs⟩ := hrel
    by_cases hlt : i < 8
    · have j1 : (i : Int) < 8 := by omega
      have e1 : IntKind.i64.wrap (1000 * (i : Int)) = 1000 * (i : Int) := IntWalk.i64_in _ (by omega)
      obtain ⟨b1, b2, b3⟩ := base8_put i hlt
      have B1 := hid b1
      have B2 := hid b2
      have B3 := hid b3
      clear b1 b2 b3
      go_wp2_with fail
      (with_reducible refine (st_put hs.out (1000 * (i : Int)) (i : Int) (by rw [B3.out]; omega) (formedB_iff.2 ⟨by omega, by omega, by omega⟩) (by rw [B2.out]; exact Nat.lt_irrefl _) (by rw [B3.out]; omega)).mono ?_)
      rintro e w2 ⟨rfl, s2⟩
      rw [B1.out] at s2
      have S2 := hid s2
      clear s2 e1
      go_wp2
      go_roundw
      case rel => exact ⟨i + 1, by go_num, by omega, S2⟩
      case measure => simp [intOf]; omega
    · obtain rfl : i = 8 := by omega
      have S3 : Hid (∃ rows c, St w0 w0.heap.size 9 rows [] wr ∧ Own8 c K rows) := ⟨_, _, hs.out, own8_base hK0 hK1⟩
      clear hs
      go_wp2_with fail
      simp only [show (((8 : Nat) : Int)) = 8 from rfl, hK]
      clear hK
      go_loopw [8] (fun s wr => ∃ i : Nat, s = .int .i64 i ∧ i ≤ L.length ∧ Hid (∃ rows c, St w0 w0.heap.size 9 rows [] wr ∧ Own8 c K rows)) (fun s _ => (L.length - intOf s).toNat)
      case atStart => exact ⟨0, rfl, by omega, S3⟩
      case round =>
        clear S3 hi
        obtain ⟨i, rfl, hi, hs⟩ := hrel
        by_cases hlt2 : i < L.length
        · have j1 : (i : Int) < (L.length : Int) := by omega
          obtain ⟨g, off, rfl, c0, cw⟩ := HL.out.at i hlt2
          simp only [Nat.mul_one] at c0
          have hu := u16_bounds cw
          generalize L[i] = P at *
          obtain ⟨rows, c, s, o⟩ := hs.out
          have c1 := hid (hE0.out.cell c0)
          have c2 := s.xt.cell c1.out
          have HO := hid o
          have HS := hid s
          have HO2 := hid (o.rekey (P := P))
          clear c0 cw hs s o
          go_wp2_with fail
          (with_reducible refine (st_rekey HS.out K P (by rw [HO.out.len]; decide) (formedB_iff.2 ⟨by omega, by omega, by omega⟩) (has_iff.2 HO.out.has)).mono ?_)
          rintro e w2 ⟨rfl, s2⟩
          have S2 := hid s2
          clear s2 c2
          generalize ins (P, K) (rows.eraseIdx (idAt rows K)) = rows2 at *
          clear HO HS
          go_wp2_with fail
          (with_reducible refine (st_pass S2.out K (by rw [HO2.out.len]; decide)).mono ?_)
          rintro e w3 ⟨rfl, s3⟩
          have S3 := hid s3
          clear s3 S2
          rw [own8_passV HO2.out]
          go_wp2_with fail
          (with_reducible refine (st_min S3.out).mono ?_)
          rintro e w4 ⟨rfl, s4⟩
          obtain ⟨h, rest, hrows⟩ : ∃ h rest, rows2 = h :: rest := by
            cases hr : rows2 with
            | nil => have := HO2.out.len; rw [hr] at this; cases this
            | cons h rest => exact ⟨h, rest, rfl⟩
          subst hrows
          simp only [minV]
          have S4 := hid s4
          have c2 := s4.xt.cell c1.out
          have hgl := World.block_lt_of_cell? _ _ c2
          simp only at hgl
          clear s4 S3
          obtain ⟨h1, h2⟩ := h
          have S6 : Hid (St w0 w0.heap.size 9 ((h1, h2) :: rest) [(w4.heap.size + 1, lstO (P, K)), (w4.heap.size, lstO (h1, h2))] ((w4.alloc (lstO (h1, h2))).alloc (lstO (P, K)))) := by
            have h := (S4.out.alloc (lstO (h1, h2))).alloc (lstO (P, K))
            rwa [show (w4.alloc (lstO (h1, h2))).heap.size = w4.heap.size + 1 by simp] at h
          go_wp2_with fail
          change Code.wp _ _ _ _ ((w4.alloc (lstO (h1, h2))).alloc (lstO (P, K)))
          generalize (w4.alloc (lstO (h1, h2))).alloc (lstO (P, K)) = w6 at S6 ⊢
          generalize w4.heap.size = B at S6 ⊢
          clear c2 hgl S4
          go_loopw [14] (fun s wr => ∃ (j : Int) (l : Int × Int), s = .int .i64 j ∧ -1 ≤ j ∧ j ≤ 7 ∧ Hid (Inv2 w0 (h1, h2) rest P K B j l wr)) (fun s _ => (intOf s + 1).toNat)
          case atStart => exact ⟨7, (P, K), rfl, by decide, by decide, S6.out, lst_start P K, hu.2, hu.1⟩
          case round =>
            clear S6
            obtain ⟨j, l, rfl, hj0, hj1, hs⟩ := hrel
            obtain ⟨l1, l2⟩ := l
            have b1 := hs.out.1.blk (p := (B + 1, lstO (l1, l2))) (by simp)
            have b2 := hs.out.1.blk (p := (B, lstO (h1, h2))) (by simp)
            have lt1 := lt_blk b1
            have lt2 := lt_blk b2
            simp only at lt1 lt2
            have m0 : wr.cell? ⟨B, 0, none⟩ = some (.int .i64 h1) := by simp [World.cell?, b2, lstO]
            have m1 : wr.cell? ⟨B, 1, none⟩ = some (.int .i64 h2) := by simp [World.cell?, b2, lstO]
            have k0 : wr.cell? ⟨B + 1, 0, none⟩ = some (.int .i64 l1) := by simp [World.cell?, b1, lstO]
            have k1 : wr.cell? ⟨B + 1, 1, none⟩ = some (.int .i64 l2) := by simp [World.cell?, b1, lstO]
            have f0 : wr.frozen? ⟨B + 1, 0, none⟩ = false := by simp [World.frozen?, b1, lstO]
            have f1 : wr.frozen? ⟨B + 1, 1, none⟩ = false := by simp [World.frozen?, b1, lstO]
            clear b1 b2
            by_cases hj : 0 ≤ j
            · have e1 : IntKind.i64.wrap (1000 * j) = 1000 * j := IntWalk.i64_in _ (by omega)
              have SK : Hid (j = K ∨ lessB (1000 * j, j) (l1, l2) = false → Inv2 w0 (h1, h2) rest P K B (j - 1) (l1, l2) wr) := fun h => ⟨hs.out.1, hs.out.2.1.skip h, hs.out.2.2⟩
              have TK : Hid (j ≠ K → lessB (1000 * j, j) (l1, l2) = true → Inv2 w0 (h1, h2) rest P K B (j - 1) (1000 * j, j) ((wr.setCell ⟨B + 1, 0, none⟩ (.int .i64 (1000 * j))).setCell ⟨B + 1, 1, none⟩ (.int .i64 j))) := fun hne hl => by
                refine ⟨?_, hs.out.2.1.take (by omega) hne hl, by show 1000 * j ≤ 65535; omega, by show 0 ≤ 1000 * j; omega⟩
                have h1 := hs.out.1.poke (j := 0) (.int .i64 (1000 * j)) (by intro p hp; obtain rfl := List.mem_singleton.1 hp; show B ≠ B + 1; omega)
                exact h1.poke (j := 1) (.int .i64 j) (by intro p hp; obtain rfl := List.mem_singleton.1 hp; show B ≠ B + 1; omega)
              clear hs
              by_cases hjk : j = K
              · have g1 : (j != K) = false := by simpa using hjk
                have HC : Hid (j = K ∨ lessB (1000 * j, j) (l1, l2) = false) := .inl hjk
                clear hjk
                go_wp2
                go_roundw
                case rel => exact ⟨j - 1, (l1, l2), by go_num, by omega, by omega, SK.out HC.out⟩
                case measure => simp [intOf]; omega
              have g1 : (j != K) = true := by simpa using hjk
              have hjk := hid hjk
              rcases Int.lt_trichotomy (1000 * j) l1 with hc | hc | hc
              · have HC : Hid (lessB (1000 * j, j) (l1, l2) = true) := lessB_iff.2 (.inl hc)
                have hjk := hjk.out
                clear hjk
                go_wp2
                go_roundw
                case rel => exact ⟨j - 1, (1000 * j, j), by go_num, by omega, by omega, TK.out (by simpa using g1) HC.out⟩
                case measure => simp [intOf]; omega
              · have g2 : (1000 * j == l1) = true := by simpa using hc
                have g3 : ¬ 1000 * j < l1 := by omega
                by_cases hd : j < l2
                · have HC : Hid (lessB (1000 * j, j) (l1, l2) = true) := lessB_iff.2 (.inr ⟨hc, hd⟩)
                  clear hc
                  go_wp2
                  go_roundw
                  case rel => exact ⟨j - 1, (1000 * j, j), by go_num, by omega, by omega, TK.out (by simpa using g1) HC.out⟩
                  case measure => simp [intOf]; omega
                · have HC : Hid (j = K ∨ lessB (1000 * j, j) (l1, l2) = false) := .inr (lessB_false.2 (.inr ⟨hc, by show l2 ≤ j; omega⟩))
                  clear hc
                  go_wp2
                  go_roundw
                  case rel => exact ⟨j - 1, (l1, l2), by go_num, by omega, by omega, SK.out HC.out⟩
                  case measure => simp [intOf]; omega
              · have HC : Hid (j = K ∨ lessB (1000 * j, j) (l1, l2) = false) := .inr (lessB_false.2 (.inl hc))
                have g2 : (1000 * j == l1) = false := by rw [beq_eq_false_iff_ne]; omega
                have g3 : ¬ 1000 * j < l1 := by omega
                go_wp2
                go_roundw
                case rel => exact ⟨j - 1, (l1, l2), by go_num, by omega, by omega, SK.out HC.out⟩
                case measure => simp [intOf]; omega
            · obtain rfl : j = -1 := by omega
              obtain ⟨rest', hh⟩ := hs.out.2.1.head HO2.out
              injection hh with hh _
              injection hh with hh1 hh2
              subst hh1 hh2
              have c2 := hs.out.1.xt.cell c1.out
              have HS := hid hs.out.1
              have HLN : Hid (((h1, h2) :: rest).length = 8) := HO2.out.len
              clear hs
              go_wp2_with fail
              (with_reducible refine (st_len HS.out).mono ?_)
              rintro e w7 ⟨rfl, s7⟩
              rw [HLN.out]
              have HN : Hid (∃ rows c, St w0 w0.heap.size 9 rows [] w7 ∧ Own8 c K rows) := ⟨_, _, St.fewer s7 (by intro p hp; cases hp), HO2.out⟩
              clear s7
              go_wp2
              go_roundw
              case rel => exact ⟨i + 1, by go_num, by omega, HN⟩
              case measure => simp [intOf]; omega
        · obtain rfl : i = L.length := by omega
          obtain ⟨rows, c, s, o⟩ := hs.out
          have hx := hid (hE0.out.trans s.xt)
          clear hs s o
          go_wp2
          go_returns
          exact ⟨rfl, hx.out⟩

set_option linter.unusedVariables false in
set_option maxRecDepth 100000 in
theorem lifted (os : Os) (started : os.Started) (H : Type) (enc : TypeId × Value → H) :
    ReturnsInHanded {} Try.checked os 6 .any (Rows.passqRekeysSpec.pre6 enc Try.prog Try.f6 Rows.passqRekeysRow.domain false) (Rows.passqRekeysSpec.post enc Try.prog Try.f6 false true false false) := by
  refine returnsInHanded_of_change (C := Try.checked) Own.own started (by kernel_rfl) Try.func6
    (ChangeSpec.witness6 (enc := enc) (C := Try.checked) false ⟨#[], #[.slice none 0 0, .int .u8 0], []⟩ 8 (by kernel_rfl) (by kernel_rfl) (by kernel_rfl) (by kernel_rfl)) ?_
  intro W base args ds gs before hval0 hW hcnd _
  have hval : ∀ (j : Nat) t v, Try.f6.params[j]? = some t → args[j]? = some v → Value.okWide Try.prog W .any base t v := hval0
  have hW' := hW
  obtain ⟨p, q, hA0, hV, rfl, hfz, hnd⟩ := hW
  have hA : DataW.TrodAll enc Try.prog W 0 (fun _ => true) true Try.f6.params.toList args.toList ds p := hA0
  rw [Try.params6] at hA hval
  obtain ⟨v0, vs0, d0, ds0, p0, q0, hargs, rfl, rfl, h0, r0⟩ := trodAll_cons hA
  obtain ⟨v1, vs1, d1, ds1, p1, q1, rfl, rfl, rfl, h1, r1⟩ := trodAll_cons r0
  obtain ⟨rfl, rfl, rfl⟩ := trodAll_nil r1
  obtain rfl : args = #[v0, v1] := by cases args; simp_all
  obtain ⟨rfl, rfl⟩ := trodVars_none hV
  have k0 := h0
  have lt0 : ∀ x ∈ p0, x.block < W.heap.size := by obtain ⟨m, hm⟩ := k0; exact DataW.trod_lt m _ _ _ hm
  have k1 := h1
  have lt1 : ∀ x ∈ p1, x.block < W.heap.size := by obtain ⟨m, hm⟩ := k1; exact DataW.trod_lt m _ _ _ hm
  obtain ⟨a0, len0, cap0, rfl⟩ := okWide_slice Try.underlying22 (hval 0 22 v0 rfl rfl)
  obtain ⟨l, hl⟩ := Own.open_nums Try.underlying22 Try.underlying29 (by kernel_rfl) h0
  obtain ⟨n, rfl, rfl, rfl, wn⟩ := open_int Try.underlying5 (hval 1 5 v1 rfl rfl) h1
  have bn := bounds_u8 wn
  clear hA0 hval0
  refine (walk _ l n (by omega) (by omega) W hl).mono fun e W' ⟨he, hx⟩ => ?_
  subst he
  exact ⟨_, rfl, _, _, _, [], _, [], hW', trodAll_mk1 (shut_bool Try.underlying4 _), (trodAll_cons_mk (Below.trod Own.laidOut (by kernel_rfl) (of_decide_eq_true (by kernel_rfl)) k0 hx.below lt0) (trodAll_cons_mk (Below.trod Own.laidOut (by kernel_rfl) (of_decide_eq_true (by kernel_rfl)) k1 hx.below lt1) trodAll_mk0)), rfl, hx.below.frame _, fun h => by cases h⟩

theorem proved : Rows.PassqRekeysSaid :=
  OpenClaim.holds_of_wide 6 Try.f6 rfl rfl rfl rfl rfl rfl rfl ⟨rfl, rfl, rfl, rfl, rfl⟩ rfl rfl rfl rfl rfl (by kernel_rfl) Try.func6 (by kernel_rfl)
    (of_decide_eq_true (by kernel_rfl)) (by unfold Func.isWrapper; first | (rw [if_pos (by decide +kernel)]; kernel_rfl) | (rw [if_neg (by decide +kernel)]; exact ⟨rfl, rfl⟩))
    (fun os started H enc _ => lifted os started H enc)

end passqRekeys
end Go.Proofs.Ythjnnjjjjponnaa
