/- many, of numbers; a count and as many numbers. -/
import Derived.Test.YtbllibgddiiboaaSr1
namespace Go.Proofs.Ytbllibgddiiboaa
open Go.RowKit

def lenOf : Value → Nat
  | .slice _ l _ => l
  | _ => 0
theorem manyP_wrong {α : Type} (f : Rb → α × Rb) {s : Rb} (h : s.wrong = true) : ∀ n, manyP f n s = ([], s)
  | 0 => rfl
  | n + 1 => by rw [manyP, if_neg (by simp [h])]
theorem manyP_right {α : Type} {f : Rb → α × Rb} {n : Nat} {s : Rb} (h : (manyP f n s).2.wrong = false) : s.wrong = false := by
  cases hs : s.wrong
  · rfl
  · rw [manyP_wrong f hs] at h
    rw [hs] at h; cases h
/-- At the label: k elements taken. -/
def ManyJ {α : Type} (T n : Nat) (El : World → List Value → α → Prop) (b c : Nat) (f : Rb → α × Rb) (s : Rb) (cnt : Int) (one : Value) (w : World) (a' : Act) (w' : World) : Prop :=
  ∃ (k : Nat) (p : Option Addr) (cap : Nat) (u3 u4 u5 u8 u9 u10 u11 u12 u13 u14 u15 u16 u17 u18 u19 u20 u21 u22 : Value), a' = { tmps := #[.pointer (some ⟨b, 0, none⟩), .int .i64 cnt, one, u3, u4, u5, .slice none 0 0, .slice p k cap, u8, u9, u10, u11, u12, u13, u14, u15, u16, u17, u18, u19, u20, u21, u22], defers := [] } ∧
    Two b c w w' ∧ Sr b c (manyP f k s).2 w' ∧ Rowed T n El w.heap.size w' (.slice p k cap) (manyP f k s).1 ∧ (manyP f k s).1.length = k ∧ k ≤ cnt.toNat
/-- What a row that is read comes to. -/
def ReadsRow {α : Type} (T n : Nat) (El : World → List Value → α → Prop) (b c : Nat) (q : List α × Rb) (w : World) (e : Ending) (w' : World) : Prop :=
  ∃ v, e = .returned v ∧ Rowed T n El w.heap.size w' v q.1 ∧ Sr b c q.2 w' ∧ Two b c w w'

/-- An element that is a number. -/
def ElI (_ : World) (cs : List Value) (x : Int) : Prop := cs = [.int .i64 x] ∧ -1 ≤ x ∧ x ≤ 1048576
theorem scan_low {most : Int} : ∀ (i n : Nat) (l : List UInt8), -1 ≤ (scan most i n l).2.1
  | i, n, [] => by simp [scan]
  | i, n, c :: t => by
    simp only [scan]
    split
    · simp
    · split
      · split
        · simp
        · simp only; omega
      · exact scan_low (i + 1) _ t
theorem numP_in (s : Rb) : -1 ≤ (numP s).1 ∧ (numP s).1 ≤ 1048576 := by
  refine ⟨?_, num_most _ (by omega)⟩
  show -1 ≤ s.r.num 1048576
  unfold Rd.num
  split
  · exact scan_low 0 0 _
  · omega
theorem infoI : (Try.prog.info? 3).map (fun i => (i.zero, i.size, i.bytes)) = some (some (.int .i64 0), 1, 8) := by kernel_rfl

theorem ElI.kept {w w' : World} (_ : Kept [] w w') (cs : List Value) (x : Int) (h : ElI w cs x) : ElI w' cs x := h
set_option maxRecDepth 100000 in
set_option maxHeartbeats 4000000 in
theorem manyI_any (b c) (s : Rb) (cnt : Int) (w : World) (h : Sr b c s w) (h0 : s.wrong = false → 0 ≤ cnt) (hc : cnt ≤ 40000) :
    Calls Try.prog 64 #[.pointer (some ⟨b, 0, none⟩), .int .i64 cnt, .func (.func 41) #[.pointer (some ⟨b, 0, none⟩)] #[]] w
      (ReadsRow 3 1 ElI b c (manyP numP cnt.toNat s) w) := by
  have HS0 := hid h
  have H0 := hid h0
  clear h h0
  have hne := fun v w => run_neq_iface_nil (P := Try.prog) w 34 v Try.underlying33
  have hnn := fun w => run_neq_nil_nil' (P := Try.prog) w Try.underlying33
  go_enter Try.func64, Try.ntmps64
  go_wp2
  refine wp_goto 0 (ManyJ 3 1 ElI b c numP s cnt (.func (.func 41) #[.pointer (some ⟨b, 0, none⟩)] #[]) w) (fun a' _ => cnt.toNat - lenOf (a'.tmps.getD 7 undef)) rfl ?_ ?_
  · refine fun a' w' => ex_elim fun k => ex_elim fun p => ex_elim fun cap => ex_elim fun u3 => ex_elim fun u4 => ex_elim fun u5 => ex_elim fun u8 => ex_elim fun u9 => ex_elim fun u10 => ex_elim fun u11 => ex_elim fun u12 => ex_elim fun u13 => ex_elim fun u14 => ex_elim fun u15 => ex_elim fun u16 => ex_elim fun u17 => ex_elim fun u18 => ex_elim fun u19 => ex_elim fun u20 => ex_elim fun u21 => ex_elim fun u22 => ?_
    rintro ⟨rfl, hT, hS, hR, hlen, hk⟩
    have HT := hid hT
    have HS := hid hS
    have HR := hid hR
    have HL := hid hlen
    clear hT hS hR hlen
    cases hw : (manyP numP k s).2.wrong
    case true =>
      have HW := hid hw
      have HE := hid (manyP_stays numP k s hw cnt.toNat hk)
      clear hw
      go_wp2_with (go_at_call 26; refine (srWrong_bad HS.out HW.out).mono ?_; rintro e w1 ⟨rfl, rfl⟩)
      simp only [Exit.jump]
      go_returns
      rw [HE.out]
      exact ⟨_, rfl, HR.out, HS.out, HT.out⟩
    have HW := hid hw
    clear hw
    have hc0 : 0 ≤ cnt := H0.out (manyP_right HW.out)
    by_cases hkc : (k : Int) = cnt
    · have l1 : ((k : Int) == cnt) = true := by simp [hkc]
      have HK : Hid (cnt.toNat = k) := by unfold Hid; omega
      clear hkc
      go_wp2_with (go_at_call 26; refine (srWrong_ok HS.out HW.out).mono ?_; rintro e w1 ⟨rfl, rfl⟩)
      simp only [Exit.jump]
      go_returns
      rw [HK.out]
      exact ⟨_, rfl, HR.out, HS.out, HT.out⟩
    · have l1 : ((k : Int) == cnt) = false := by simp [hkc]
      have hk1 : k + 1 ≤ cnt.toNat := by omega
      have HK1 : Hid (k + 1 ≤ cnt.toNat) := hk1
      have HC := hid hc
      have HQ := hid (manyP_snoc numP k s HW.out)
      clear hkc hk1 hc hc0 hk
      go_wp2_with (first
        | (go_at_call 26; refine (srWrong_ok HS.out HW.out).mono ?_; rintro e w1 ⟨rfl, rfl⟩)
        | (go_at_call 41; refine (srNum_any _ _ _ _ HS.out).mono ?_; rintro e w1 ⟨rfl, hs1, ht1⟩; have HS1 := hid hs1; have HT1 := hid ht1; have HKp := hid (HS.out.kept (good := [3]) ht1 (by decide)); clear hs1 ht1)
        | (at_builtin; refine wpList_push_row rfl (.tmp 18) (.tmp 21) 48 3 (.int .i64 0) 1 8 rfl Try.underlying48 infoI rfl (by decide) [] (numP (manyP numP k s).2).1 (HR.out.kept HKp.out (by simp) (ElI.kept (HKp.out.sub (by simp)))) rfl (by intro u hu; simp only [List.mem_cons, List.not_mem_nil, or_false] at hu; subst hu; rfl) (by have := HL.out; have := HK1.out; have := HC.out; omega) (by decide) HS1.out (by decide) (HT.out.trans HT1.out) rfl (by decide) ⟨rfl, numP_in _⟩ (fun _ hk => ElI.kept hk) rfl rfl rfl ?_; intro p1 cap1 w2 hr2 hs2 ht2))
      go_step3
      rename_i Qz
      simp only [Qz, Exit.jump]
      rw [HL.out] at hr2
      rw [HL.out]
      refine ⟨trivial, ⟨k + 1, p1, cap1, _, _, _, _, _, _, _, _, _, _, _, _, _, _, _, _, _, _, rfl, ht2, by rw [HQ.out]; exact hs2, by rw [HQ.out]; exact hr2, by rw [HQ.out, List.length_append, HL.out]; rfl, HK1.out⟩, ?_⟩
      have := HK1.out
      simp [lenOf]
      omega
  · intro start
    have Start := hid start
    clear start
    go_wp2
    go_step3
    simp only [Exit.then]
    refine ‹∀ (a : Act) (w : World), Code.wp _ _ _ a w → _› _ _ ?_
    exact Start.out _ _ ⟨0, none, 0, _, _, _, _, _, _, _, _, _, _, _, _, _, _, _, _, _, _, rfl, Two.refl _ _ _, HS0.out, Rowed.nil _ _ _ _ _, rfl, Nat.zero_le _⟩

theorem cntP_le (s : Rb) : (cntP s).1 ≤ 40000 := num_most _ (by omega)

set_option maxHeartbeats 1000000 in
theorem nums_any (b c : Nat) (s : Rb) (w : World) (h : Sr b c s w) : Calls Try.prog 77 #[.pointer (some ⟨b, 0, none⟩)] w (ReadsRow 3 1 ElI b c (rowP numP s) w) := by
  have H := hid h
  clear h
  go_enter Try.func77, Try.ntmps77
  go_wp2_with (go_at_call 61; refine (srCount_any _ _ _ _ H.out).mono ?_; rintro e w1 ⟨rfl, hs1, ht1⟩; have HS1 := hid hs1; have HT1 := hid ht1; clear hs1 ht1)
  refine (manyI_any b c (cntP s).2 (cntP s).1 _ HS1.out cnt_nonneg (cntP_le s)).mono ?_
  rintro e w2 ⟨v, rfl, hr, hs, ht⟩
  go_wp2_with fail
  go_returns
  exact ⟨v, rfl, hr.weak HT1.out.size, hs, HT1.out.trans ht⟩
end Go.Proofs.Ytbllibgddiiboaa
