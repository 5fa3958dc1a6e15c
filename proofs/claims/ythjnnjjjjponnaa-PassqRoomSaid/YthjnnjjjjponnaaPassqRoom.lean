/- PassqRoom: of every room, every number: as many as there is room for are let in, one more is refused, who goes makes room: the law answers true. No conditions. -/
import Derived.Test.YthjnnjjjjponnaaPqK
import Derived.Test.YthjnnjjjjponnaaPqH
import Derived.Test.YthjnnjjjjponnaaOwn2
namespace Go.Proofs.Ythjnnjjjjponnaa
open Go.ChangeShapes Go.WideShapes Go.ChangeAt Go.RowKit Go.Joins Go.Deep

namespace passqRoom
def Inv (w0 : World) (x : Nat) (K : Int) (j : Nat) (wr : World) : Prop := ∃ rows, St w0 x K rows [] wr ∧ (rows.length : Int) = min (j : Int) K ∧ ∀ id, Has rows id ↔ 0 ≤ id ∧ id < min (j : Int) K
theorem inv0 {w0 : World} {x : Nat} {K : Int} {wr : World} (hK : 0 ≤ K) (h : St w0 x K [] [] wr) : Inv w0 x K 0 wr := ⟨[], h, by simp; omega, fun id => ⟨fun h => absurd h (not_has_nil id), fun h => by omega⟩⟩

set_option maxRecDepth 100000 in
set_option linter.unusedVariables false in
set_option maxHeartbeats 8000000 in
theorem walkA (room n : Int) (hn : 0 ≤ n) (hn' : n ≤ 255) (hr1 : room ≤ 0) (hr2 : room ≤ 64) (w : World) :
    Calls Try.prog 5 #[.int .i64 room, .int .u8 n] w (Yields w (.bool true)) := by
  have hnn := fun w => run_neq_nil_nil' (P := Try.prog) w Try.underlying27
  have hen := fun w => run_eql_nil_nil' (P := Try.prog) w Try.underlying27
  have hne := fun v w => run_neq_iface_nil (P := Try.prog) w 42 v Try.underlying27
  have hee := fun v w => run_eql_iface_nil (P := Try.prog) w 42 v Try.underlying27
  have HMK : Hid (max 0 (min room 64) = 0) := by rw [Hid]; omega
  go_enter Try.func5, Try.ntmps5
  go_wp2_with fail
  refine (known_any _).yields ?_
  intro p0
  have hE0 := hid (ext_more w p0)
  generalize more w p0 = w0 at *
  go_wp2_with fail
  (with_reducible refine (st_new room w0).mono ?_)
  rintro e w1 ⟨rfl, s1⟩
  rw [HMK.out] at s1
  have S1 := hid (inv0 (by omega) s1)
  clear s1
  go_wp2_with fail
  go_loopw [7] (fun s wr => ∃ j : Nat, s = .int .i64 j ∧ j ≤ 70 ∧ Hid (Inv w0 w0.heap.size 0 j wr)) (fun s _ => (70 - intOf s).toNat)
  case atStart => exact ⟨0, rfl, by omega, S1⟩
  case round =>
    obtain ⟨j, rfl, hj, hinv⟩ := hrel
    by_cases hlt : j < 70
    · have i1 : (j : Int) < 70 := by omega
      by_cases hk : (j : Int) < 0
      · go_wp2_with fail
        obtain ⟨rows, s, hlen, hhas⟩ := hinv.out
        have hnot : ¬ Has rows j := by rw [hhas]; omega
        have hl1 : rows.length ≤ 1000 := by omega
        have hl2 : (rows.length : Int) < 0 := by omega
        have hinv2 := hid (fun w2 (s2 : St w0 w0.heap.size 0 (ins (70 - (j : Int), (j : Int)) rows) [] w2) => show Inv w0 w0.heap.size 0 (j + 1) w2 from ⟨_, s2, by rw [ins_length]; omega, fun id => by rw [has_ins, hhas]; omega⟩)
        (with_reducible refine (st_put s (70 - (j : Int)) (j : Int) hl1 (formedB_iff.2 ⟨by omega, by omega, by omega⟩) (has_not.2 hnot) hl2).mono ?_)
        rintro e w2 ⟨rfl, s2⟩
        have hN := hid (hinv2.out w2 s2)
        clear s2 s hlen hhas hnot hl1 hl2 hinv2
        go_wp2
        go_roundw
        case rel => exact ⟨j + 1, by go_num, by omega, hN⟩
        case measure => simp [intOf]; omega
      · have hk2 : ¬ (j : Int) < 0 := hk
        go_wp2_with fail
        obtain ⟨rows, s, hlen, hhas⟩ := hinv.out
        have hnot : ¬ Has rows j := by rw [hhas]; omega
        have hl1 : rows.length ≤ 1000 := by omega
        have hl2 : 0 ≤ (rows.length : Int) := by omega
        have hinv2 := hid (fun w2 (s2 : St w0 w0.heap.size 0 rows [] w2) => show Inv w0 w0.heap.size 0 (j + 1) w2 from ⟨_, s2, by omega, fun id => by rw [hhas]; omega⟩)
        (with_reducible refine (st_full s (70 - (j : Int)) (j : Int) hl1 (formedB_iff.2 ⟨by omega, by omega, by omega⟩) (has_not.2 hnot) hl2).mono ?_)
        rintro e w2 ⟨rfl, s2⟩
        have hN := hid (fun w3 (hx : Ext w2 w3) => hinv2.out w3 (s2.ext hx))
        clear s2 s hlen hhas hnot hl1 hl2 hinv2
        go_wp2_with (go_at_call 15; (with_reducible refine (is_errno_to (r := true) rfl _).yields ?_); intro p1)
        go_roundw
        case rel => exact ⟨j + 1, by go_num, by omega, hN.out _ (ext_more _ _)⟩
        case measure => simp [intOf]; omega
    · obtain rfl : j = 70 := by omega
      obtain ⟨rows, s, hlen, hhas⟩ := hinv.out
      have hlen' : Hid ((rows.length : Int) = 0) := by rw [Hid]; omega
      have HS := hid s
      have HH := hid hhas
      clear hinv s hlen hhas
      go_wp2_with fail
      (with_reducible refine (st_len HS.out).mono ?_)
      rintro e w2 ⟨rfl, s2⟩
      have HS2 := hid s2
      clear s2
      rw [hlen'.out]
      go_wp2_with fail
      (with_reducible refine (st_len HS2.out).mono ?_)
      rintro e w3 ⟨rfl, s3⟩
      have HS3 := hid s3.xt
      clear s3
      rw [hlen'.out]
      go_wp2
      go_returns
      exact ⟨rfl, hE0.out.trans HS3.out⟩
set_option maxRecDepth 100000 in
set_option linter.unusedVariables false in
set_option maxHeartbeats 8000000 in
theorem walkB (room n : Int) (hn : 0 ≤ n) (hn' : n ≤ 255) (hr1 : 0 < room) (hr2 : room ≤ 64) (w : World) :
    Calls Try.prog 5 #[.int .i64 room, .int .u8 n] w (Yields w (.bool true)) := by
  have hnn := fun w => run_neq_nil_nil' (P := Try.prog) w Try.underlying27
  have hen := fun w => run_eql_nil_nil' (P := Try.prog) w Try.underlying27
  have hne := fun v w => run_neq_iface_nil (P := Try.prog) w 42 v Try.underlying27
  have hee := fun v w => run_eql_iface_nil (P := Try.prog) w 42 v Try.underlying27
  have HMK : Hid (max 0 (min room 64) = room) := by rw [Hid]; omega
  go_enter Try.func5, Try.ntmps5
  go_wp2_with fail
  refine (known_any _).yields ?_
  intro p0
  have hE0 := hid (ext_more w p0)
  generalize more w p0 = w0 at *
  go_wp2_with fail
  (with_reducible refine (st_new room w0).mono ?_)
  rintro e w1 ⟨rfl, s1⟩
  rw [HMK.out] at s1
  have S1 := hid (inv0 (by omega) s1)
  clear s1
  go_wp2_with fail
  go_loopw [7] (fun s wr => ∃ j : Nat, s = .int .i64 j ∧ j ≤ 70 ∧ Hid (Inv w0 w0.heap.size room j wr)) (fun s _ => (70 - intOf s).toNat)
  case atStart => exact ⟨0, rfl, by omega, S1⟩
  case round =>
    obtain ⟨j, rfl, hj, hinv⟩ := hrel
    by_cases hlt : j < 70
    · have i1 : (j : Int) < 70 := by omega
      by_cases hk : (j : Int) < room
      · go_wp2_with fail
        obtain ⟨rows, s, hlen, hhas⟩ := hinv.out
        have hnot : ¬ Has rows j := by rw [hhas]; omega
        have hl1 : rows.length ≤ 1000 := by omega
        have hl2 : (rows.length : Int) < room := by omega
        have hinv2 := hid (fun w2 (s2 : St w0 w0.heap.size room (ins (70 - (j : Int), (j : Int)) rows) [] w2) => show Inv w0 w0.heap.size room (j + 1) w2 from ⟨_, s2, by rw [ins_length]; omega, fun id => by rw [has_ins, hhas]; omega⟩)
        (with_reducible refine (st_put s (70 - (j : Int)) (j : Int) hl1 (formedB_iff.2 ⟨by omega, by omega, by omega⟩) (has_not.2 hnot) hl2).mono ?_)
        rintro e w2 ⟨rfl, s2⟩
        have hN := hid (hinv2.out w2 s2)
        clear s2 s hlen hhas hnot hl1 hl2 hinv2
        go_wp2
        go_roundw
        case rel => exact ⟨j + 1, by go_num, by omega, hN⟩
        case measure => simp [intOf]; omega
      · have hk2 : ¬ (j : Int) < room := hk
        go_wp2_with fail
        obtain ⟨rows, s, hlen, hhas⟩ := hinv.out
        have hnot : ¬ Has rows j := by rw [hhas]; omega
        have hl1 : rows.length ≤ 1000 := by omega
        have hl2 : room ≤ (rows.length : Int) := by omega
        have hinv2 := hid (fun w2 (s2 : St w0 w0.heap.size room rows [] w2) => show Inv w0 w0.heap.size room (j + 1) w2 from ⟨_, s2, by omega, fun id => by rw [hhas]; omega⟩)
        (with_reducible refine (st_full s (70 - (j : Int)) (j : Int) hl1 (formedB_iff.2 ⟨by omega, by omega, by omega⟩) (has_not.2 hnot) hl2).mono ?_)
        rintro e w2 ⟨rfl, s2⟩
        have hN := hid (fun w3 (hx : Ext w2 w3) => hinv2.out w3 (s2.ext hx))
        clear s2 s hlen hhas hnot hl1 hl2 hinv2
        go_wp2_with (go_at_call 15; (with_reducible refine (is_errno_to (r := true) rfl _).yields ?_); intro p1)
        go_roundw
        case rel => exact ⟨j + 1, by go_num, by omega, hN.out _ (ext_more _ _)⟩
        case measure => simp [intOf]; omega
    · obtain rfl : j = 70 := by omega
      obtain ⟨rows, s, hlen, hhas⟩ := hinv.out
      have hlen' : Hid ((rows.length : Int) = room) := by rw [Hid]; omega
      have HS := hid s
      have HH := hid hhas
      clear hinv s hlen hhas
      go_wp2_with fail
      (with_reducible refine (st_len HS.out).mono ?_)
      rintro e w2 ⟨rfl, s2⟩
      have HS2 := hid s2
      clear s2
      rw [hlen'.out]
      go_wp2_with fail
      have hm0 : 0 ≤ n % room := Int.emod_nonneg _ (by omega)
      have hm1 : n % room < room := Int.emod_lt_of_pos _ (by omega)
      obtain ⟨q, hq⟩ : ∃ q, q = n % room := ⟨_, rfl⟩
      rw [← hq] at hm0 hm1
      simp only [← hq]
      have hl1 : rows.length ≤ 1000 := by have := hlen'.out; omega
      have hq1 : Has rows q := (HH.out q).2 ⟨hm0, by omega⟩
      (with_reducible refine (st_drop HS2.out q hl1 (has_iff.2 hq1)).mono ?_)
      rintro e w3 ⟨rfl, s3⟩
      have hel : ((rows.eraseIdx (idAt rows q)).length : Int) = room - 1 := by
        rw [List.length_eraseIdx, if_pos (has_iff.2 hq1)]
        have := hlen'.out
        omega
      have hno : ∀ id, 64 ≤ id → ¬ Has (rows.eraseIdx (idAt rows q)) id := fun id hid h => by
        have := (HH.out id).1 (has_erase h)
        omega
      generalize rows.eraseIdx (idAt rows q) = rows1 at *
      have HS3 := hid s3
      have HEL := hid hel
      have HNO := hid hno
      clear s3 hel hno hl1 hq1 hq
      go_wp2_with fail
      (with_reducible refine (st_put HS3.out 5 100 (by have := HEL.out; omega) (by decide) (has_not.2 (HNO.out 100 (by decide))) (by have := HEL.out; omega)).mono ?_)
      rintro e w4 ⟨rfl, s4⟩
      have HS4 := hid s4
      clear s4
      have HL4 : Hid (((ins (5, 100) rows1).length : Int) = room) := by rw [Hid, ins_length]; have := HEL.out; omega
      have HN4 : Hid (¬ Has (ins (5, 100) rows1) 101) := by rw [Hid, has_ins]; rintro (h | h); exact absurd h (by decide); exact HNO.out 101 (by decide) h
      have HH4 : Hid (Has (ins (5, 100) rows1) 100) := has_ins.2 (.inl rfl)
      generalize ins (5, 100) rows1 = rows2 at *
      go_wp2_with fail
      (with_reducible refine (st_full HS4.out 5 101 (by have := HL4.out; omega) (by decide) (has_not.2 HN4.out) (by have := HL4.out; omega)).mono ?_)
      rintro e w5 ⟨rfl, s5⟩
      have HS5 := hid s5
      clear s5
      go_wp2_with (go_at_call 15; (with_reducible refine (is_errno_to (r := true) rfl _).yields ?_); intro p1)
      (with_reducible refine (st_clash (HS5.out.ext (ext_more _ _)) 5 100 (by have := HL4.out; omega) (by decide) (has_iff.2 HH4.out)).mono ?_)
      rintro e w6 ⟨rfl, s6⟩
      have HS6 := hid s6.xt
      clear s6
      go_wp2_with (go_at_call 15; (with_reducible refine (is_errno_to (r := true) rfl _).yields ?_); intro p2)
      go_returns
      exact ⟨rfl, hE0.out.trans (HS6.out.more _)⟩
set_option maxRecDepth 100000 in
set_option linter.unusedVariables false in
set_option maxHeartbeats 8000000 in
theorem walkC (room n : Int) (hn : 0 ≤ n) (hn' : n ≤ 255) (hr1 : 0 < room) (hr2 : 64 < room) (w : World) :
    Calls Try.prog 5 #[.int .i64 room, .int .u8 n] w (Yields w (.bool true)) := by
  have hnn := fun w => run_neq_nil_nil' (P := Try.prog) w Try.underlying27
  have hen := fun w => run_eql_nil_nil' (P := Try.prog) w Try.underlying27
  have hne := fun v w => run_neq_iface_nil (P := Try.prog) w 42 v Try.underlying27
  have hee := fun v w => run_eql_iface_nil (P := Try.prog) w 42 v Try.underlying27
  have HMK : Hid (max 0 (min room 64) = 64) := by rw [Hid]; omega
  go_enter Try.func5, Try.ntmps5
  go_wp2_with fail
  refine (known_any _).yields ?_
  intro p0
  have hE0 := hid (ext_more w p0)
  generalize more w p0 = w0 at *
  go_wp2_with fail
  (with_reducible refine (st_new room w0).mono ?_)
  rintro e w1 ⟨rfl, s1⟩
  rw [HMK.out] at s1
  have S1 := hid (inv0 (by omega) s1)
  clear s1
  go_wp2_with fail
  go_loopw [7] (fun s wr => ∃ j : Nat, s = .int .i64 j ∧ j ≤ 70 ∧ Hid (Inv w0 w0.heap.size 64 j wr)) (fun s _ => (70 - intOf s).toNat)
  case atStart => exact ⟨0, rfl, by omega, S1⟩
  case round =>
    obtain ⟨j, rfl, hj, hinv⟩ := hrel
    by_cases hlt : j < 70
    · have i1 : (j : Int) < 70 := by omega
      by_cases hk : (j : Int) < 64
      · go_wp2_with fail
        obtain ⟨rows, s, hlen, hhas⟩ := hinv.out
        have hnot : ¬ Has rows j := by rw [hhas]; omega
        have hl1 : rows.length ≤ 1000 := by omega
        have hl2 : (rows.length : Int) < 64 := by omega
        have hinv2 := hid (fun w2 (s2 : St w0 w0.heap.size 64 (ins (70 - (j : Int), (j : Int)) rows) [] w2) => show Inv w0 w0.heap.size 64 (j + 1) w2 from ⟨_, s2, by rw [ins_length]; omega, fun id => by rw [has_ins, hhas]; omega⟩)
        (with_reducible refine (st_put s (70 - (j : Int)) (j : Int) hl1 (formedB_iff.2 ⟨by omega, by omega, by omega⟩) (has_not.2 hnot) hl2).mono ?_)
        rintro e w2 ⟨rfl, s2⟩
        have hN := hid (hinv2.out w2 s2)
        clear s2 s hlen hhas hnot hl1 hl2 hinv2
        go_wp2
        go_roundw
        case rel => exact ⟨j + 1, by go_num, by omega, hN⟩
        case measure => simp [intOf]; omega
      · have hk2 : ¬ (j : Int) < 64 := hk
        go_wp2_with fail
        obtain ⟨rows, s, hlen, hhas⟩ := hinv.out
        have hnot : ¬ Has rows j := by rw [hhas]; omega
        have hl1 : rows.length ≤ 1000 := by omega
        have hl2 : 64 ≤ (rows.length : Int) := by omega
        have hinv2 := hid (fun w2 (s2 : St w0 w0.heap.size 64 rows [] w2) => show Inv w0 w0.heap.size 64 (j + 1) w2 from ⟨_, s2, by omega, fun id => by rw [hhas]; omega⟩)
        (with_reducible refine (st_full s (70 - (j : Int)) (j : Int) hl1 (formedB_iff.2 ⟨by omega, by omega, by omega⟩) (has_not.2 hnot) hl2).mono ?_)
        rintro e w2 ⟨rfl, s2⟩
        have hN := hid (fun w3 (hx : Ext w2 w3) => hinv2.out w3 (s2.ext hx))
        clear s2 s hlen hhas hnot hl1 hl2 hinv2
        go_wp2_with (go_at_call 15; (with_reducible refine (is_errno_to (r := true) rfl _).yields ?_); intro p1)
        go_roundw
        case rel => exact ⟨j + 1, by go_num, by omega, hN.out _ (ext_more _ _)⟩
        case measure => simp [intOf]; omega
    · obtain rfl : j = 70 := by omega
      obtain ⟨rows, s, hlen, hhas⟩ := hinv.out
      have hlen' : Hid ((rows.length : Int) = 64) := by rw [Hid]; omega
      have HS := hid s
      have HH := hid hhas
      clear hinv s hlen hhas
      go_wp2_with fail
      (with_reducible refine (st_len HS.out).mono ?_)
      rintro e w2 ⟨rfl, s2⟩
      have HS2 := hid s2
      clear s2
      rw [hlen'.out]
      go_wp2_with fail
      have hm0 : 0 ≤ n % 64 := Int.emod_nonneg _ (by omega)
      have hm1 : n % 64 < 64 := Int.emod_lt_of_pos _ (by omega)
      obtain ⟨q, hq⟩ : ∃ q, q = n % 64 := ⟨_, rfl⟩
      rw [← hq] at hm0 hm1
      simp only [← hq]
      have hl1 : rows.length ≤ 1000 := by have := hlen'.out; omega
      have hq1 : Has rows q := (HH.out q).2 ⟨hm0, by omega⟩
      (with_reducible refine (st_drop HS2.out q hl1 (has_iff.2 hq1)).mono ?_)
      rintro e w3 ⟨rfl, s3⟩
      have hel : ((rows.eraseIdx (idAt rows q)).length : Int) = 64 - 1 := by
        rw [List.length_eraseIdx, if_pos (has_iff.2 hq1)]
        have := hlen'.out
        omega
      have hno : ∀ id, 64 ≤ id → ¬ Has (rows.eraseIdx (idAt rows q)) id := fun id hid h => by
        have := (HH.out id).1 (has_erase h)
        omega
      generalize rows.eraseIdx (idAt rows q) = rows1 at *
      have HS3 := hid s3
      have HEL := hid hel
      have HNO := hid hno
      clear s3 hel hno hl1 hq1 hq
      go_wp2_with fail
      (with_reducible refine (st_put HS3.out 5 100 (by have := HEL.out; omega) (by decide) (has_not.2 (HNO.out 100 (by decide))) (by have := HEL.out; omega)).mono ?_)
      rintro e w4 ⟨rfl, s4⟩
      have HS4 := hid s4
      clear s4
      have HL4 : Hid (((ins (5, 100) rows1).length : Int) = 64) := by rw [Hid, ins_length]; have := HEL.out; omega
      have HN4 : Hid (¬ Has (ins (5, 100) rows1) 101) := by rw [Hid, has_ins]; rintro (h | h); exact absurd h (by decide); exact HNO.out 101 (by decide) h
      have HH4 : Hid (Has (ins (5, 100) rows1) 100) := has_ins.2 (.inl rfl)
      generalize ins (5, 100) rows1 = rows2 at *
      go_wp2_with fail
      (with_reducible refine (st_full HS4.out 5 101 (by have := HL4.out; omega) (by decide) (has_not.2 HN4.out) (by have := HL4.out; omega)).mono ?_)
      rintro e w5 ⟨rfl, s5⟩
      have HS5 := hid s5
      clear s5
      go_wp2_with (go_at_call 15; (with_reducible refine (is_errno_to (r := true) rfl _).yields ?_); intro p1)
      (with_reducible refine (st_clash (HS5.out.ext (ext_more _ _)) 5 100 (by have := HL4.out; omega) (by decide) (has_iff.2 HH4.out)).mono ?_)
      rintro e w6 ⟨rfl, s6⟩
      have HS6 := hid s6.xt
      clear s6
      go_wp2_with (go_at_call 15; (with_reducible refine (is_errno_to (r := true) rfl _).yields ?_); intro p2)
      go_returns
      exact ⟨rfl, hE0.out.trans (HS6.out.more _)⟩

theorem walk (room n : Int) (hn : 0 ≤ n) (hn' : n ≤ 255) (w : World) : Calls Try.prog 5 #[.int .i64 room, .int .u8 n] w (Yields w (.bool true)) := by
  by_cases h1 : room ≤ 0
  · exact walkA room n hn hn' h1 (by omega) w
  · by_cases h2 : room ≤ 64
    · exact walkB room n hn hn' (by omega) h2 w
    · exact walkC room n hn hn' (by omega) (by omega) w

set_option linter.unusedVariables false in
set_option maxRecDepth 100000 in
theorem lifted (os : Os) (started : os.Started) (H : Type) (enc : TypeId × Value → H) :
    ReturnsInHanded {} Try.checked os 5 .any (Rows.passqRoomSpec.pre6 enc Try.prog Try.f5 Rows.passqRoomRow.domain false) (Rows.passqRoomSpec.post enc Try.prog Try.f5 false true false false) := by
  refine returnsInHanded_of_change (C := Try.checked) Own.own started (by kernel_rfl) Try.func5
    (ChangeSpec.witness6 (enc := enc) (C := Try.checked) false ⟨#[], #[.int .i64 0, .int .u8 0], []⟩ 8 (by kernel_rfl) (by kernel_rfl) (by kernel_rfl) (by kernel_rfl)) ?_
  intro W base args ds gs before hval0 hW hcnd _
  have hval : ∀ (j : Nat) t v, Try.f5.params[j]? = some t → args[j]? = some v → Value.okWide Try.prog W .any base t v := hval0
  have hW' := hW
  obtain ⟨p, q, hA0, hV, rfl, hfz, hnd⟩ := hW
  have hA : DataW.TrodAll enc Try.prog W 0 (fun _ => true) true Try.f5.params.toList args.toList ds p := hA0
  rw [Try.params5] at hA hval
  obtain ⟨v0, vs0, d0, ds0, p0, q0, hargs, rfl, rfl, h0, r0⟩ := trodAll_cons hA
  obtain ⟨v1, vs1, d1, ds1, p1, q1, rfl, rfl, rfl, h1, r1⟩ := trodAll_cons r0
  obtain ⟨rfl, rfl, rfl⟩ := trodAll_nil r1
  obtain rfl : args = #[v0, v1] := by cases args; simp_all
  obtain ⟨rfl, rfl⟩ := trodVars_none hV
  have k0 := h0
  have lt0 : ∀ x ∈ p0, x.block < W.heap.size := by obtain ⟨m, hm⟩ := k0; exact DataW.trod_lt m _ _ _ hm
  have k1 := h1
  have lt1 : ∀ x ∈ p1, x.block < W.heap.size := by obtain ⟨m, hm⟩ := k1; exact DataW.trod_lt m _ _ _ hm
  obtain ⟨a, rfl, rfl, rfl, wa⟩ := open_int Try.underlying3 (hval 0 3 v0 rfl rfl) h0
  obtain ⟨n, rfl, rfl, rfl, wn⟩ := open_int Try.underlying5 (hval 1 5 v1 rfl rfl) h1
  have bn := bounds_u8 wn
  clear hA0 hval0
  refine (walk a n (by omega) (by omega) W).mono fun e W' ⟨he, hx⟩ => ?_
  subst he
  exact ⟨_, rfl, _, _, _, [], _, [], hW', trodAll_mk1 (shut_bool Try.underlying4 _), (trodAll_cons_mk (Below.trod Own.laidOut (by kernel_rfl) (of_decide_eq_true (by kernel_rfl)) k0 hx.below lt0) (trodAll_cons_mk (Below.trod Own.laidOut (by kernel_rfl) (of_decide_eq_true (by kernel_rfl)) k1 hx.below lt1) trodAll_mk0)), rfl, hx.below.frame _, fun h => by cases h⟩

theorem proved : Rows.PassqRoomSaid :=
  OpenClaim.holds_of_wide 5 Try.f5 rfl rfl rfl rfl rfl rfl rfl ⟨rfl, rfl, rfl, rfl, rfl⟩ rfl rfl rfl rfl rfl (by kernel_rfl) Try.func5 (by kernel_rfl)
    (of_decide_eq_true (by kernel_rfl)) (by unfold Func.isWrapper; first | (rw [if_pos (by decide +kernel)]; kernel_rfl) | (rw [if_neg (by decide +kernel)]; exact ⟨rfl, rfl⟩))
    (fun os started H enc _ => lifted os started H enc)

end passqRoom
end Go.Proofs.Ythjnnjjjjponnaa
