/- What the document's own numbers as bytes (tontineref1) come to. -/
import Derived.Test.YtmpgeabfogcblaaGreatRows
import Derived.Test.YtmpgeabfogcblaaGreatStr
import Derived.Test.YtmpgeabfogcblaaGreatMath2
import Derived.Test.YtmpgeabfogcblaaGreatRead2
import Derived.WalkKit
import Derived.WalkSpells
import Derived.WalkLawsBesides
import Derived.OwnWalk
import Derived.Handy
namespace Go.Proofs.YtmpgeabfogcblaaGreat
open Go.RowKit

theorem int_eq {k : IntKind} {a b : Int} (h : a = b) : Value.int k a = Value.int k b := by rw [h]

/-- The document's Reader at block b. -/
def Rq (b : Nat) (r : Rd) (w : World) : Prop := w.heap[b]? = some (.cells #[.string (str r.s), .int .i64 r.e] 59 (0, 0))
theorem Rq.cells {b : Nat} {r : Rd} {w : World} (h : Rq b r w) : w.cell? ⟨b, 0, none⟩ = some (.string (str r.s)) ∧ w.cell? ⟨b, 1, none⟩ = some (.int .i64 r.e) ∧ w.frozen? ⟨b, 0, none⟩ = false ∧ w.frozen? ⟨b, 1, none⟩ = false :=
  ⟨blk_cell h 0, blk_cell h 1, blk_free h 0, blk_free h 1⟩
theorem Rq.setLeft {b : Nat} {r : Rd} {w : World} (h : Rq b r w) (s : List UInt8) : Rq b ⟨s, r.e⟩ (w.setCell ⟨b, 0, none⟩ (.string (str s))) := blk_set h 0 _
theorem Rq.setErr {b : Nat} {r : Rd} {w : World} (h : Rq b r w) (e : Nat) : Rq b ⟨r.s, e⟩ (w.setCell ⟨b, 1, none⟩ (.int .i64 e)) := blk_set h 1 _
theorem Rq.ext {b : Nat} {r : Rd} {w w' : World} (h : Rq b r w) (k : Ext w w') : Rq b r w' := by
  unfold Rq; rw [k.below.block _ (lt_of_block h)]; exact h
theorem Rq.only {b c : Nat} {r : Rd} {w w' : World} (h : Rq b r w) (k : Only c w w') (hne : b ≠ c) : Rq b r w' := k.blk h hne

set_option maxHeartbeats 400000 in
theorem fails_any (b : Nat) (r : Rd) (e : Nat) (w : World) (h : Rq b r w) (he : r.e = 0) :
    Calls Tryz.prog 48 #[.pointer (some ⟨b, 0, none⟩), .int .i64 e] w fun e' w' => e' = .returned (.tuple #[]) ∧ w' = w.setCell ⟨b, 1, none⟩ (.int .i64 e) := by
  obtain ⟨c0, c1, f0, f1⟩ := h.cells
  rw [he] at c1
  go_enter Tryz.func48, Tryz.ntmps48
  go_wp2
  go_returns
  exact ⟨rfl, rfl⟩

set_option maxRecDepth 100000 in
set_option maxHeartbeats 400000 in
theorem qnum_err (b : Nat) (r : Rd) (most : Int) (w : World) (h : Rq b r w) (he : r.e ≠ 0) :
    Calls Tryz.prog 18 #[.pointer (some ⟨b, 0, none⟩), .int .i64 most] w fun e w' => e = .returned (.int .i64 (r.num most)) ∧ Rq b (r.afterNum most) w' ∧ Only b w w' := by
  obtain ⟨hn, ha⟩ := Rd.num_err (most := most) he
  rw [hn, ha]
  obtain ⟨c0, c1, f0, f1⟩ := h.cells
  have hne : ((r.e : Int) == 0) = false := by simpa using he
  go_enter Tryz.func18, Tryz.ntmps18
  go_wp2
  refine wp_loop_rounds 1 ?_
  rw [rounds_succ]
  go_wp2
  go_returns
  exact ⟨rfl, h, Only.refl _ _⟩

set_option maxRecDepth 100000 in
set_option maxHeartbeats 4000000 in
theorem qnum_ok (b : Nat) (r : Rd) (most : Int) (w : World) (h : Rq b r w) (he : r.e = 0) (hlen : r.s.length ≤ 140737488355328) :
    Calls Tryz.prog 18 #[.pointer (some ⟨b, 0, none⟩), .int .i64 most] w fun e w' => e = .returned (.int .i64 (r.num most)) ∧ Rq b (r.afterNum most) w' ∧ Only b w w' := by
  have HR := hid h
  obtain ⟨c0, c1, f0, f1⟩ := h.cells
  rw [he] at c1
  have HE := hid he
  clear h he
  go_enter Tryz.func18, Tryz.ntmps18
  go_wp2
  go_loop [5, 6, 7] (fun v5 v6 v7 => ∃ k acc : Nat, v7 = .int .i64 k ∧ v5 = .int .i64 acc ∧ v6 = .int .i64 (128 ^ k) ∧ k ≤ 3 ∧ k ≤ r.s.length ∧ acc < 128 ^ k ∧ scan most 0 0 r.s = scan most k acc (r.s.drop k)) (fun _ _ v7 => (4 - intOf v7).toNat)
  case atStart => exact ⟨0, 0, rfl, rfl, by simp, by omega, by omega, by simp, rfl⟩
  case round =>
    obtain ⟨k, acc, rfl, rfl, rfl, hk, hks, hacc, hscan⟩ := hrel
    have HS := hid hscan
    clear hscan
    by_cases hlt : k < r.s.length
    · obtain ⟨acc', e, hacc', Nx, Fm, St⟩ := scan_round most k acc r.s hlt hacc
      have hb := byteAt_bound r.s k
      have hnil : ¬ r.s = [] := by intro h; rw [h] at hlt; simp at hlt
      rcases (show k = 0 ∨ k = 1 ∨ k = 2 ∨ k = 3 from by omega) with rfl | rfl | rfl | rfl
      · have e : (acc : Int) + byteAt r.s 0 % 128 * 1 = acc' := by simpa using e
        have ha : acc < 1 := hacc
        have ha' : acc' < 128 := hacc'
        clear hacc hacc'
        rcases (show 128 ≤ byteAt r.s 0 ∨ (1 ≤ byteAt r.s 0 ∧ byteAt r.s 0 < 128) ∨ byteAt r.s 0 = 0 from by omega) with hc | hc | hc
        · go_wp2_with fail
          exact ⟨⟨1, acc', by simp, int_eq (by omega), by simp, by omega, by omega, ha', HS.out.trans (Nx.out (by omega) hc)⟩, by simp [intOf]⟩
        · obtain ⟨hc1, hc2⟩ := hc
          have Hs := hid (HS.out.trans (St.out (by omega) (.inr (by omega))))
          by_cases hl : most < (acc' : Int) - 1
          · have HQ := hid (Rd.num_bad HE.out (Hs.out.trans (if_pos hl)) (by decide))
            go_wp2_with fail
            refine (fails_any b r 12 w HR.out HE.out).mono ?_
            rintro e' w' ⟨rfl, rfl⟩
            go_wp2
            go_returns
            rw [HQ.out.1, HQ.out.2]
            exact ⟨rfl, HR.out.setErr 12, (Only.refl _ _).setCell _⟩
          · have HQ := hid (Rd.num_good HE.out (Hs.out.trans (if_neg hl)))
            have hl' : (acc' : Int) - 1 ≤ most := by omega
            go_wp2
            go_returns
            rw [HQ.out.1, HQ.out.2]
            have HL := HR.out.setLeft (r.s.drop 1)
            rw [HE.out] at HL
            exact ⟨by first | rfl | (simp; omega), by simpa using HL, (Only.refl _ _).setCell _⟩
        · have Hs := hid (HS.out.trans (St.out (by omega) (.inl rfl)))
          by_cases hl : most < (acc' : Int) - 1
          · have HQ := hid (Rd.num_bad HE.out (Hs.out.trans (if_pos hl)) (by decide))
            go_wp2_with fail
            refine (fails_any b r 12 w HR.out HE.out).mono ?_
            rintro e' w' ⟨rfl, rfl⟩
            go_wp2
            go_returns
            rw [HQ.out.1, HQ.out.2]
            exact ⟨rfl, HR.out.setErr 12, (Only.refl _ _).setCell _⟩
          · have HQ := hid (Rd.num_good HE.out (Hs.out.trans (if_neg hl)))
            have hl' : (acc' : Int) - 1 ≤ most := by omega
            go_wp2
            go_returns
            rw [HQ.out.1, HQ.out.2]
            have HL := HR.out.setLeft (r.s.drop 1)
            rw [HE.out] at HL
            exact ⟨by first | rfl | (simp; omega), by simpa using HL, (Only.refl _ _).setCell _⟩
      · have e : (acc : Int) + byteAt r.s 1 % 128 * 128 = acc' := by simpa using e
        have ha : acc < 128 := hacc
        have ha' : acc' < 16384 := hacc'
        clear hacc hacc'
        rcases (show 128 ≤ byteAt r.s 1 ∨ (1 ≤ byteAt r.s 1 ∧ byteAt r.s 1 < 128) ∨ byteAt r.s 1 = 0 from by omega) with hc | hc | hc
        · go_wp2_with fail
          exact ⟨⟨2, acc', by simp, int_eq (by omega), by simp, by omega, by omega, ha', HS.out.trans (Nx.out (by omega) hc)⟩, by simp [intOf]⟩
        · obtain ⟨hc1, hc2⟩ := hc
          have hz : (byteAt r.s 1 == 0) = false := by simp; omega
          have hd : decide (128 ≤ byteAt r.s 1) = false := by simp; omega
          have Hs := hid (HS.out.trans (St.out (by omega) (.inr (by omega))))
          by_cases hl : most < (acc' : Int) - 1
          · have HQ := hid (Rd.num_bad HE.out (Hs.out.trans (if_pos hl)) (by decide))
            go_wp2_with fail
            refine (fails_any b r 12 w HR.out HE.out).mono ?_
            rintro e' w' ⟨rfl, rfl⟩
            go_wp2
            go_returns
            rw [HQ.out.1, HQ.out.2]
            exact ⟨rfl, HR.out.setErr 12, (Only.refl _ _).setCell _⟩
          · have HQ := hid (Rd.num_good HE.out (Hs.out.trans (if_neg hl)))
            have hl' : (acc' : Int) - 1 ≤ most := by omega
            go_wp2
            go_returns
            rw [HQ.out.1, HQ.out.2]
            have HL := HR.out.setLeft (r.s.drop 2)
            rw [HE.out] at HL
            exact ⟨by first | rfl | (simp; omega), by simpa using HL, (Only.refl _ _).setCell _⟩
        · have HQ := hid (Rd.num_bad HE.out (HS.out.trans (Fm.out (.inr ⟨by omega, hc⟩))) (by decide))
          go_wp2_with fail
          refine (fails_any b r 10 w HR.out HE.out).mono ?_
          rintro e' w' ⟨rfl, rfl⟩
          go_wp2
          go_returns
          rw [HQ.out.1, HQ.out.2]
          exact ⟨rfl, HR.out.setErr 10, (Only.refl _ _).setCell _⟩
      · have e : (acc : Int) + byteAt r.s 2 % 128 * 16384 = acc' := by simpa using e
        have ha : acc < 16384 := hacc
        have ha' : acc' < 2097152 := hacc'
        clear hacc hacc'
        rcases (show 128 ≤ byteAt r.s 2 ∨ (1 ≤ byteAt r.s 2 ∧ byteAt r.s 2 < 128) ∨ byteAt r.s 2 = 0 from by omega) with hc | hc | hc
        · go_wp2_with fail
          exact ⟨⟨3, acc', by simp, int_eq (by omega), by simp, by omega, by omega, ha', HS.out.trans (Nx.out (by omega) hc)⟩, by simp [intOf]⟩
        · obtain ⟨hc1, hc2⟩ := hc
          have hz : (byteAt r.s 2 == 0) = false := by simp; omega
          have hd : decide (128 ≤ byteAt r.s 2) = false := by simp; omega
          have Hs := hid (HS.out.trans (St.out (by omega) (.inr (by omega))))
          by_cases hl : most < (acc' : Int) - 1
          · have HQ := hid (Rd.num_bad HE.out (Hs.out.trans (if_pos hl)) (by decide))
            go_wp2_with fail
            refine (fails_any b r 12 w HR.out HE.out).mono ?_
            rintro e' w' ⟨rfl, rfl⟩
            go_wp2
            go_returns
            rw [HQ.out.1, HQ.out.2]
            exact ⟨rfl, HR.out.setErr 12, (Only.refl _ _).setCell _⟩
          · have HQ := hid (Rd.num_good HE.out (Hs.out.trans (if_neg hl)))
            have hl' : (acc' : Int) - 1 ≤ most := by omega
            go_wp2
            go_returns
            rw [HQ.out.1, HQ.out.2]
            have HL := HR.out.setLeft (r.s.drop 3)
            rw [HE.out] at HL
            exact ⟨by first | rfl | (simp; omega), by simpa using HL, (Only.refl _ _).setCell _⟩
        · have HQ := hid (Rd.num_bad HE.out (HS.out.trans (Fm.out (.inr ⟨by omega, hc⟩))) (by decide))
          go_wp2_with fail
          refine (fails_any b r 10 w HR.out HE.out).mono ?_
          rintro e' w' ⟨rfl, rfl⟩
          go_wp2
          go_returns
          rw [HQ.out.1, HQ.out.2]
          exact ⟨rfl, HR.out.setErr 10, (Only.refl _ _).setCell _⟩
      · have e : (acc : Int) + byteAt r.s 3 % 128 * 2097152 = acc' := by simpa using e
        have ha : acc < 2097152 := hacc
        have ha' : acc' < 268435456 := hacc'
        clear hacc hacc'
        rcases (show 128 ≤ byteAt r.s 3 ∨ (1 ≤ byteAt r.s 3 ∧ byteAt r.s 3 < 128) ∨ byteAt r.s 3 = 0 from by omega) with hc | hc | hc
        · have hz : (byteAt r.s 3 == 0) = false := by simp; omega
          have HQ := hid (Rd.num_bad HE.out (HS.out.trans (Fm.out (.inl ⟨rfl, hc⟩))) (by decide))
          go_wp2_with fail
          refine (fails_any b r 10 w HR.out HE.out).mono ?_
          rintro e' w' ⟨rfl, rfl⟩
          go_wp2
          go_returns
          rw [HQ.out.1, HQ.out.2]
          exact ⟨rfl, HR.out.setErr 10, (Only.refl _ _).setCell _⟩
        · obtain ⟨hc1, hc2⟩ := hc
          have hz : (byteAt r.s 3 == 0) = false := by simp; omega
          have hd : decide (128 ≤ byteAt r.s 3) = false := by simp; omega
          have Hs := hid (HS.out.trans (St.out (by omega) (.inr (by omega))))
          by_cases hl : most < (acc' : Int) - 1
          · have HQ := hid (Rd.num_bad HE.out (Hs.out.trans (if_pos hl)) (by decide))
            go_wp2_with fail
            refine (fails_any b r 12 w HR.out HE.out).mono ?_
            rintro e' w' ⟨rfl, rfl⟩
            go_wp2
            go_returns
            rw [HQ.out.1, HQ.out.2]
            exact ⟨rfl, HR.out.setErr 12, (Only.refl _ _).setCell _⟩
          · have HQ := hid (Rd.num_good HE.out (Hs.out.trans (if_neg hl)))
            have hl' : (acc' : Int) - 1 ≤ most := by omega
            go_wp2
            go_returns
            rw [HQ.out.1, HQ.out.2]
            have HL := HR.out.setLeft (r.s.drop 4)
            rw [HE.out] at HL
            exact ⟨by first | rfl | (simp; omega), by simpa using HL, (Only.refl _ _).setCell _⟩
        · have HQ := hid (Rd.num_bad HE.out (HS.out.trans (Fm.out (.inr ⟨by omega, hc⟩))) (by decide))
          go_wp2_with fail
          refine (fails_any b r 10 w HR.out HE.out).mono ?_
          rintro e' w' ⟨rfl, rfl⟩
          go_wp2
          go_returns
          rw [HQ.out.1, HQ.out.2]
          exact ⟨rfl, HR.out.setErr 10, (Only.refl _ _).setCell _⟩
    · obtain rfl : k = r.s.length := by omega
      have HQ := hid (Rd.num_bad HE.out (HS.out.trans (scan_end most _ acc r.s (Nat.le_refl _))) (by decide))
      go_wp2_with fail
      refine (fails_any b r 11 w HR.out HE.out).mono ?_
      rintro e w' ⟨rfl, rfl⟩
      go_wp2
      go_returns
      rw [HQ.out.1, HQ.out.2]
      exact ⟨rfl, HR.out.setErr 11, (Only.refl _ _).setCell _⟩
end Go.Proofs.YtmpgeabfogcblaaGreat
