/- The script's reader: rows of rows, domains. -/
import Derived.Test.YtbllibgddiiboaaSr2
import Derived.Test.YtbllibgddiiboaaTail
namespace Go.Proofs.Ytbllibgddiiboaa
open Go.RowKit

/-- An element that is a row of numbers. -/
def ElR (w : World) (cs : List Value) (l : List Int) : Prop := ∃ v, cs = [v] ∧ Rowed 3 1 ElI 0 w v l
theorem ElR.kept {w w' : World} (k : Kept [3] w w') (cs : List Value) (l : List Int) (h : ElR w cs l) : ElR w' cs l := by
  obtain ⟨v, e, hr⟩ := h
  exact ⟨v, e, hr.kept k (by simp) fun _ _ h => h⟩
theorem infoR : (Try.prog.info? 48).map (fun i => (i.zero, i.size, i.bytes)) = some (some (.slice none 0 0), 1, 24) := by kernel_rfl

set_option maxRecDepth 100000 in
set_option maxHeartbeats 4000000 in
theorem manyR_any (b c : Nat) (s : Rb) (cnt : Int) (w : World) (h : Sr b c s w) (h0 : s.wrong = false → 0 ≤ cnt) (hc : cnt ≤ 40000) :
    Calls Try.prog 62 #[.pointer (some ⟨b, 0, none⟩), .int .i64 cnt, .func (.func 77) #[.pointer (some ⟨b, 0, none⟩)] #[]] w
      (ReadsRow 48 1 ElR b c (manyP (rowP numP) cnt.toNat s) w) := by
  have HS0 := hid h
  have H0 := hid h0
  clear h h0
  have hne := fun v w => run_neq_iface_nil (P := Try.prog) w 34 v Try.underlying33
  have hnn := fun w => run_neq_nil_nil' (P := Try.prog) w Try.underlying33
  go_enter Try.func62, Try.ntmps62
  go_wp2
  refine wp_goto 0 (ManyJ 48 1 ElR b c (rowP numP) s cnt (.func (.func 77) #[.pointer (some ⟨b, 0, none⟩)] #[]) w) (fun a' _ => cnt.toNat - lenOf (a'.tmps.getD 7 undef)) rfl ?_ ?_
  · refine fun a' w' => ex_elim fun k => ex_elim fun p => ex_elim fun cap => ex_elim fun u3 => ex_elim fun u4 => ex_elim fun u5 => ex_elim fun u8 => ex_elim fun u9 => ex_elim fun u10 => ex_elim fun u11 => ex_elim fun u12 => ex_elim fun u13 => ex_elim fun u14 => ex_elim fun u15 => ex_elim fun u16 => ex_elim fun u17 => ex_elim fun u18 => ex_elim fun u19 => ex_elim fun u20 => ex_elim fun u21 => ex_elim fun u22 => ?_
    rintro ⟨rfl, hT, hS, hR, hlen, hk⟩
    have HT := hid hT
    have HS := hid hS
    have HR := hid hR
    have HL := hid hlen
    clear hT hS hR hlen
    cases hw : (manyP (rowP numP) k s).2.wrong
    case true =>
      have HW := hid hw
      have HE := hid (manyP_stays (rowP numP) k s hw cnt.toNat hk)
      clear hw
      go_wp2_with (go_at_call 26; refine (srWrong_bad HS.out HW.out).mono ?_; rintro e w1 ⟨rfl, rfl⟩)
      simp only [Exit.jump]
      go_returns
      rw [HE.out]
      exact ⟨_, rfl, HR.out, HS.out, HT.out⟩
    have HW := hid hw
    clear hw
    have hc0 : 0 ≤ cnt := H0.out (manyP_right HW.out)
    by_cases hkc : (k : Int) = cnt
    · have l1 : ((k : Int) == cnt) = true := by simp [hkc]
      have HK : Hid (cnt.toNat = k) := by unfold Hid; omega
      clear hkc
      go_wp2_with (go_at_call 26; refine (srWrong_ok HS.out HW.out).mono ?_; rintro e w1 ⟨rfl, rfl⟩)
      simp only [Exit.jump]
      go_returns
      rw [HK.out]
      exact ⟨_, rfl, HR.out, HS.out, HT.out⟩
    · have l1 : ((k : Int) == cnt) = false := by simp [hkc]
      have hk1 : k + 1 ≤ cnt.toNat := by omega
      have HK1 : Hid (k + 1 ≤ cnt.toNat) := hk1
      have HC := hid hc
      have HQ := hid (manyP_snoc (rowP numP) k s HW.out)
      clear hkc hk1 hc hc0 hk
      go_wp2_with (first
        | (go_at_call 26; refine (srWrong_ok HS.out HW.out).mono ?_; rintro e w1 ⟨rfl, rfl⟩)
        | (go_at_call 77; refine (nums_any _ _ _ _ HS.out).mono ?_; rintro e w1 ⟨v1, rfl, hr1, hs1, ht1⟩; obtain ⟨q1, c1, rfl, -, -⟩ := hr1.shape; have HR1 := hid (hr1.weak (Nat.zero_le _)); clear hr1; have HS1 := hid hs1; have HT1 := hid ht1; have HKp := hid (HS.out.kept (good := [48, 3]) ht1 (by decide)); clear hs1 ht1)
        | (at_builtin; refine wpList_push_row rfl (.tmp 18) (.tmp 21) 23 48 (.slice none 0 0) 1 24 rfl Try.underlying23 infoR rfl (by decide) [3] ((rowP numP) (manyP (rowP numP) k s).2).1 (HR.out.kept HKp.out (by simp) (ElR.kept (HKp.out.sub (by simp)))) rfl (by intro u hu; simp only [List.mem_cons, List.not_mem_nil, or_false] at hu; subst hu; rfl) (by have := HL.out; have := HK1.out; have := HC.out; omega) (by decide) HS1.out (by decide) (HT.out.trans HT1.out) rfl (by decide) ⟨_, rfl, HR1.out⟩ (fun _ hk => ElR.kept hk) rfl rfl rfl ?_; intro p1 cap1 w2 hr2 hs2 ht2))
      go_step3
      rename_i Qz
      simp only [Qz, Exit.jump]
      rw [HL.out] at hr2
      rw [HL.out]
      refine ⟨trivial, ⟨k + 1, p1, cap1, _, _, _, _, _, _, _, _, _, _, _, _, _, _, _, _, _, _, rfl, ht2, by rw [HQ.out]; exact hs2, by rw [HQ.out]; exact hr2, by rw [HQ.out, List.length_append, HL.out]; rfl, HK1.out⟩, ?_⟩
      have := HK1.out
      simp [lenOf]
      omega
  · intro start
    have Start := hid start
    clear start
    go_wp2
    go_step3
    simp only [Exit.then]
    refine ‹∀ (a : Act) (w : World), Code.wp _ _ _ a w → _› _ _ ?_
    exact Start.out _ _ ⟨0, none, 0, _, _, _, _, _, _, _, _, _, _, _, _, _, _, _, _, _, _, rfl, Two.refl _ _ _, HS0.out, Rowed.nil _ _ _ _ _, rfl, Nat.zero_le _⟩

set_option maxHeartbeats 1000000 in
/-- The closure that reads a plan: the reader and the number of domains lie in variables of their own. -/
theorem conf1_any (b c B1 B2 : Nat) (n : Int) (s : Rb) (w : World) (h : Sr b c s w) (h1 : w.cell? ⟨B1, 0, none⟩ = some (.pointer (some ⟨b, 0, none⟩))) (h2 : w.cell? ⟨B2, 0, none⟩ = some (.int .i64 n)) (h0 : s.wrong = false → 0 ≤ n) (hn : n ≤ 40000) :
    Calls Try.prog 63 #[.pointer (some ⟨B1, 0, none⟩), .pointer (some ⟨B2, 0, none⟩)] w (ReadsRow 3 1 ElI b c (manyP numP n.toNat s) w) := by
  have H := hid h
  have H0 := hid h0
  clear h h0
  go_enter Try.func63, Try.ntmps63
  go_wp2_with fail
  refine (manyI_any b c s n _ H.out H0.out hn).mono ?_
  rintro e w2 ⟨v, rfl, hr, hs, ht⟩
  go_wp2_with fail
  go_returns
  exact ⟨v, rfl, hr, hs, ht⟩
set_option maxRecDepth 100000 in
set_option maxHeartbeats 4000000 in
theorem manyQ_any (b c B1 B2 : Nat) (n : Int) (s : Rb) (cnt : Int) (w : World) (h : Sr b c s w) (hb1 : w.cell? ⟨B1, 0, none⟩ = some (.pointer (some ⟨b, 0, none⟩))) (hb2 : w.cell? ⟨B2, 0, none⟩ = some (.int .i64 n)) (hne1 : B1 ≠ b ∧ B1 ≠ c) (hne2 : B2 ≠ b ∧ B2 ≠ c) (hn0 : s.wrong = false → 0 ≤ n) (hn : n ≤ 40000) (h0 : s.wrong = false → 0 ≤ cnt) (hc : cnt ≤ 40000) :
    Calls Try.prog 62 #[.pointer (some ⟨b, 0, none⟩), .int .i64 cnt, .func (.func 63) #[] #[.pointer (some ⟨B1, 0, none⟩), .pointer (some ⟨B2, 0, none⟩)]] w
      (ReadsRow 48 1 ElR b c (manyP (manyP numP n.toNat) cnt.toNat s) w) := by
  have HS0 := hid h
  have H0 := hid h0
  clear h h0
  have HB1 := hid hb1
  have HB2 := hid hb2
  have HN1 := hid hne1
  have HN2 := hid hne2
  have HN0 := hid hn0
  have HNN := hid hn
  clear hb1 hb2 hne1 hne2 hn0 hn
  have hne := fun v w => run_neq_iface_nil (P := Try.prog) w 34 v Try.underlying33
  have hnn := fun w => run_neq_nil_nil' (P := Try.prog) w Try.underlying33
  go_enter Try.func62, Try.ntmps62
  go_wp2
  refine wp_goto 0 (ManyJ 48 1 ElR b c (manyP numP n.toNat) s cnt (.func (.func 63) #[] #[.pointer (some ⟨B1, 0, none⟩), .pointer (some ⟨B2, 0, none⟩)]) w) (fun a' _ => cnt.toNat - lenOf (a'.tmps.getD 7 undef)) rfl ?_ ?_
  · refine fun a' w' => ex_elim fun k => ex_elim fun p => ex_elim fun cap => ex_elim fun u3 => ex_elim fun u4 => ex_elim fun u5 => ex_elim fun u8 => ex_elim fun u9 => ex_elim fun u10 => ex_elim fun u11 => ex_elim fun u12 => ex_elim fun u13 => ex_elim fun u14 => ex_elim fun u15 => ex_elim fun u16 => ex_elim fun u17 => ex_elim fun u18 => ex_elim fun u19 => ex_elim fun u20 => ex_elim fun u21 => ex_elim fun u22 => ?_
    rintro ⟨rfl, hT, hS, hR, hlen, hk⟩
    have HT := hid hT
    have HS := hid hS
    have HR := hid hR
    have HL := hid hlen
    clear hT hS hR hlen
    cases hw : (manyP (manyP numP n.toNat) k s).2.wrong
    case true =>
      have HW := hid hw
      have HE := hid (manyP_stays (manyP numP n.toNat) k s hw cnt.toNat hk)
      clear hw
      go_wp2_with (go_at_call 26; refine (srWrong_bad HS.out HW.out).mono ?_; rintro e w1 ⟨rfl, rfl⟩)
      simp only [Exit.jump]
      go_returns
      rw [HE.out]
      exact ⟨_, rfl, HR.out, HS.out, HT.out⟩
    have HW := hid hw
    clear hw
    have hc0 : 0 ≤ cnt := H0.out (manyP_right HW.out)
    by_cases hkc : (k : Int) = cnt
    · have l1 : ((k : Int) == cnt) = true := by simp [hkc]
      have HK : Hid (cnt.toNat = k) := by unfold Hid; omega
      clear hkc
      go_wp2_with (go_at_call 26; refine (srWrong_ok HS.out HW.out).mono ?_; rintro e w1 ⟨rfl, rfl⟩)
      simp only [Exit.jump]
      go_returns
      rw [HK.out]
      exact ⟨_, rfl, HR.out, HS.out, HT.out⟩
    · have l1 : ((k : Int) == cnt) = false := by simp [hkc]
      have hk1 : k + 1 ≤ cnt.toNat := by omega
      have HK1 : Hid (k + 1 ≤ cnt.toNat) := hk1
      have HC := hid hc
      have HQ := hid (manyP_snoc (manyP numP n.toNat) k s HW.out)
      clear hkc hk1 hc hc0 hk
      go_wp2_with (first
        | (go_at_call 26; refine (srWrong_ok HS.out HW.out).mono ?_; rintro e w1 ⟨rfl, rfl⟩)
        | (go_at_call 63; refine (conf1_any b c B1 B2 n _ _ HS.out (HT.out.cell HB1.out HN1.out.1 HN1.out.2) (HT.out.cell HB2.out HN2.out.1 HN2.out.2) (fun _ => HN0.out (manyP_right HW.out)) HNN.out).mono ?_; rintro e w1 ⟨v1, rfl, hr1, hs1, ht1⟩; obtain ⟨q1, c1, rfl, -, -⟩ := hr1.shape; have HR1 := hid (hr1.weak (Nat.zero_le _)); clear hr1; have HS1 := hid hs1; have HT1 := hid ht1; have HKp := hid (HS.out.kept (good := [48, 3]) ht1 (by decide)); clear hs1 ht1)
        | (at_builtin; refine wpList_push_row rfl (.tmp 18) (.tmp 21) 23 48 (.slice none 0 0) 1 24 rfl Try.underlying23 infoR rfl (by decide) [3] ((manyP numP n.toNat) (manyP (manyP numP n.toNat) k s).2).1 (HR.out.kept HKp.out (by simp) (ElR.kept (HKp.out.sub (by simp)))) rfl (by intro u hu; simp only [List.mem_cons, List.not_mem_nil, or_false] at hu; subst hu; rfl) (by have := HL.out; have := HK1.out; have := HC.out; omega) (by decide) HS1.out (by decide) (HT.out.trans HT1.out) rfl (by decide) ⟨_, rfl, HR1.out⟩ (fun _ hk => ElR.kept hk) rfl rfl rfl ?_; intro p1 cap1 w2 hr2 hs2 ht2))
      go_step3
      rename_i Qz
      simp only [Qz, Exit.jump]
      rw [HL.out] at hr2
      rw [HL.out]
      refine ⟨trivial, ⟨k + 1, p1, cap1, _, _, _, _, _, _, _, _, _, _, _, _, _, _, _, _, _, _, rfl, ht2, by rw [HQ.out]; exact hs2, by rw [HQ.out]; exact hr2, by rw [HQ.out, List.length_append, HL.out]; rfl, HK1.out⟩, ?_⟩
      have := HK1.out
      simp [lenOf]
      omega
  · intro start
    have Start := hid start
    clear start
    go_wp2
    go_step3
    simp only [Exit.then]
    refine ‹∀ (a : Act) (w : World), Code.wp _ _ _ a w → _› _ _ ?_
    exact Start.out _ _ ⟨0, none, 0, _, _, _, _, _, _, _, _, _, _, _, _, _, _, _, _, _, _, rfl, Two.refl _ _ _, HS0.out, Rowed.nil _ _ _ _ _, rfl, Nat.zero_le _⟩
end Go.Proofs.Ytbllibgddiiboaa
