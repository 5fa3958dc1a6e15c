/- The script's reader: domains, the configuration. -/
import Derived.Test.YtbllibgddiiboaaSr4
namespace Go.Proofs.Ytbllibgddiiboaa
open Go.RowKit

theorem infoD : (Try.prog.info? 54).map (fun i => (i.zero, i.size, i.bytes)) = some (some (.agg #[.int .i64 0, .int .u64 0, .slice none 0 0, .slice none 0 0, .int .i64 0, .int .i64 0, .int .i64 0, .int .i64 0, .int .i64 0, .int .i64 0]), 10, 112) := by kernel_rfl

set_option maxRecDepth 100000 in
set_option maxHeartbeats 4000000 in
theorem manyD_any (b c : Nat) (s : Rb) (cnt : Int) (w : World) (h : Sr b c s w) (h0 : s.wrong = false → 0 ≤ cnt) (hc : cnt ≤ 40000) :
    Calls Try.prog 65 #[.pointer (some ⟨b, 0, none⟩), .int .i64 cnt, .func (.func 66) #[.pointer (some ⟨b, 0, none⟩)] #[]] w
      (ReadsRow 54 10 ElD b c (manyP domP cnt.toNat s) w) := by
  have HS0 := hid h
  have H0 := hid h0
  clear h h0
  have hne := fun v w => run_neq_iface_nil (P := Try.prog) w 34 v Try.underlying33
  have hnn := fun w => run_neq_nil_nil' (P := Try.prog) w Try.underlying33
  go_enter Try.func65, Try.ntmps65
  go_wp2
  refine wp_goto 0 (ManyJ 54 10 ElD b c domP s cnt (.func (.func 66) #[.pointer (some ⟨b, 0, none⟩)] #[]) w) (fun a' _ => cnt.toNat - lenOf (a'.tmps.getD 7 undef)) rfl ?_ ?_
  · refine fun a' w' => ex_elim fun k => ex_elim fun p => ex_elim fun cap => ex_elim fun u3 => ex_elim fun u4 => ex_elim fun u5 => ex_elim fun u8 => ex_elim fun u9 => ex_elim fun u10 => ex_elim fun u11 => ex_elim fun u12 => ex_elim fun u13 => ex_elim fun u14 => ex_elim fun u15 => ex_elim fun u16 => ex_elim fun u17 => ex_elim fun u18 => ex_elim fun u19 => ex_elim fun u20 => ex_elim fun u21 => ex_elim fun u22 => ?_
    rintro ⟨rfl, hT, hS, hR, hlen, hk⟩
    have HT := hid hT
    have HS := hid hS
    have HR := hid hR
    have HL := hid hlen
    clear hT hS hR hlen
    cases hw : (manyP domP k s).2.wrong
    case true =>
      have HW := hid hw
      have HE := hid (manyP_stays domP k s hw cnt.toNat hk)
      clear hw
      go_wp2_with (go_at_call 26; refine (srWrong_bad HS.out HW.out).mono ?_; rintro e w1 ⟨rfl, rfl⟩)
      simp only [Exit.jump]
      go_returns
      rw [HE.out]
      exact ⟨_, rfl, HR.out, HS.out, HT.out⟩
    have HW := hid hw
    clear hw
    have hc0 : 0 ≤ cnt := H0.out (manyP_right HW.out)
    by_cases hkc : (k : Int) = cnt
    · have l1 : ((k : Int) == cnt) = true := by simp [hkc]
      have HK : Hid (cnt.toNat = k) := by unfold Hid; omega
      clear hkc
      go_wp2_with (go_at_call 26; refine (srWrong_ok HS.out HW.out).mono ?_; rintro e w1 ⟨rfl, rfl⟩)
      simp only [Exit.jump]
      go_returns
      rw [HK.out]
      exact ⟨_, rfl, HR.out, HS.out, HT.out⟩
    · have l1 : ((k : Int) == cnt) = false := by simp [hkc]
      have hk1 : k + 1 ≤ cnt.toNat := by omega
      have HK1 : Hid (k + 1 ≤ cnt.toNat) := hk1
      have HC := hid hc
      have HQ := hid (manyP_snoc domP k s HW.out)
      clear hkc hk1 hc hc0 hk
      go_wp2_with (first
        | (go_at_call 26; refine (srWrong_ok HS.out HW.out).mono ?_; rintro e w1 ⟨rfl, rfl⟩)
        | (go_at_call 66; refine (domain_any _ _ _ _ HS.out).mono ?_; rintro e w1 ⟨pr, cr, pe, ce, he, hel, hs1, ht1⟩; subst he; dsimp only [DomCells]; have HEL := hid hel; clear hel; have HS1 := hid hs1; have HT1 := hid ht1; have HKp := hid (HS.out.kept (good := [54, 48, 3]) ht1 (by decide)); clear hs1 ht1)
        | (at_builtin; refine wpList_push_row rfl (.tmp 18) (.tmp 21) 24 54 (.agg #[.int .i64 0, .int .u64 0, .slice none 0 0, .slice none 0 0, .int .i64 0, .int .i64 0, .int .i64 0, .int .i64 0, .int .i64 0, .int .i64 0]) 10 112 rfl Try.underlying24 infoD rfl (by decide) [48, 3] (domP (manyP domP k s).2).1 (HR.out.kept HKp.out (by simp) (ElD.kept (HKp.out.sub (by simp)))) rfl (by intro u hu; simp only [List.mem_cons, List.not_mem_nil, or_false] at hu; rcases hu with rfl | rfl | rfl | rfl | rfl | rfl | rfl | rfl | rfl | rfl <;> rfl) (by have := HL.out; have := HK1.out; have := HC.out; omega) (by decide) HS1.out (by decide) (HT.out.trans HT1.out) rfl (by decide) HEL.out (fun _ hk => ElD.kept hk) rfl rfl rfl ?_; intro p1 cap1 w2 hr2 hs2 ht2))
      go_step3
      rename_i Qz
      simp only [Qz, Exit.jump]
      rw [HL.out] at hr2
      rw [HL.out]
      refine ⟨trivial, ⟨k + 1, p1, cap1, _, _, _, _, _, _, _, _, _, _, _, _, _, _, _, _, _, _, rfl, ht2, by rw [HQ.out]; exact hs2, by rw [HQ.out]; exact hr2, by rw [HQ.out, List.length_append, HL.out]; rfl, HK1.out⟩, ?_⟩
      have := HK1.out
      simp [lenOf]
      omega
  · intro start
    have Start := hid start
    clear start
    go_wp2
    go_step3
    simp only [Exit.then]
    refine ‹∀ (a : Act) (w : World), Code.wp _ _ _ a w → _› _ _ ?_
    exact Start.out _ _ ⟨0, none, 0, _, _, _, _, _, _, _, _, _, _, _, _, _, _, _, _, _, _, rfl, Two.refl _ _ _, HS0.out, Rowed.nil _ _ _ _ _, rfl, Nat.zero_le _⟩
end Go.Proofs.Ytbllibgddiiboaa
