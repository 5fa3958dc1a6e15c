/- The document's own objects: Drop. -/
import Derived.Test.YtoimkocjfijlkaaDoorRo2
namespace Go.Proofs.YtoimkocjfijlkaaDoor
open Go.RowKit
set_option maxRecDepth 100000
set_option linter.unusedSimpArgs false
namespace Ro
open Ob (upd upd_same upd_other four flat)
/-- The first j rows are through. -/
def thr (id : Int) (W : Nat → List Int) (j : Nat) : Nat → List Int := fun t => if t < j then (W t).filter (· != id) else W t
theorem thr_step (id : Int) (W : Nat → List Int) (j : Nat) : upd (thr id W j) j ((W j).filter (· != id)) = thr id W (j + 1) := by
  funext t
  unfold upd thr
  by_cases e : t = j
  · subst e; rw [if_pos rfl, if_pos (by omega)]
  · rw [if_neg e]
    by_cases h : t < j
    · rw [if_pos h, if_pos (by omega)]
    · rw [if_neg h, if_neg (by omega)]
def met (id : Int) (W : Nat → List Int) (j : Nat) : Bool := (List.range j).any fun t => (W t).contains id
theorem met_succ (id : Int) (W : Nat → List Int) (j : Nat) : met id W (j + 1) = (met id W j || (W j).contains id) := by
  unfold met
  rw [List.range_succ, List.any_append]
  simp
section
variable {base y : Nat} {c : Nat → Int} {V : Nat → Value} {W : Nat → List Int} {w w' : World}
def Dr (base y : Nat) (id : Int) (c : Nat → Int) (V : Nat → Value) (W : Nat → List Int) (w : World) (j : Nat) (wr : World) : Prop := ∃ V', RO base y c V' (thr id W j) wr ∧ Mvp (ROwn y V) (ROwn y V') w wr
theorem filter_step {l : List Int} {k : Nat} (hk : k < l.length) (id : Int) : (l.take (k + 1)).filter (· != id) = if l[k] = id then (l.take k).filter (· != id) else (l.take k).filter (· != id) ++ [l[k]] := by
  rw [List.take_succ_eq_append_getElem hk, List.filter_append]
  by_cases h : l[k] = id
  · simp [h]
  · simp [h]
theorem has_step {l : List Int} {k : Nat} (hk : k < l.length) (id : Int) : (l.take (k + 1)).contains id = ((l.take k).contains id || l[k] == id) := by
  rw [List.take_succ_eq_append_getElem hk, List.contains_append]
  congr 1
  simp only [List.contains_cons, List.contains_nil, Bool.or_false]
  exact BEq.comm
set_option maxHeartbeats 8000000 in
theorem drop_any (h : RO base y c V W w) (hb : base ≤ w.heap.size) (id : Int) (hl : ∀ j, j < 4 → (W j).length ≤ 1000000) :
    Calls Tryd.prog 12 #[.pointer (some ⟨y, 0, none⟩), .int .i64 id] w fun e w' => e = .returned (.bool (met id W 4)) ∧ Dr base y id c V W w 4 w' := by
  have HL := hid hl
  have HB := hid hb
  have HD0 : Hid (Dr base y id c V W w 0 w) := ⟨V, by
    have : thr id W 0 = W := by funext t; unfold thr; rw [if_neg (by omega)]
    rw [this]; exact h, Mvp.refl _ _⟩
  clear h hb hl
  go_enter Tryd.func12, Tryd.ntmps12
  go_wp2_with fail
  go_loopw [6, 5] (fun s b wr => ∃ j : Nat, s = .int .i64 j ∧ b = .bool (met id W j) ∧ j ≤ 4 ∧ Hid (Dr base y id c V W w j wr)) (fun s _ _ => (4 - intOf s).toNat)
  case atStart => exact ⟨0, rfl, rfl, by omega, HD0⟩
  case round =>
    obtain ⟨j, rfl, rfl, hj, hd⟩ := hrel
    clear HD0
    by_cases hlt : j < 4
    · have i1 : (j : Int) < 4 := by omega
      obtain ⟨V', hR, hM⟩ := hd.out
      have hrow := hR.rows j hlt
      rw [show thr id W j j = W j from if_neg (by omega)] at hrow
      have HW := hid hrow
      have HR := hid hR
      have HM := hid hM
      have HLJ := hid (HL.out j hlt)
      have HJ := hid hlt
      obtain ⟨-, c1⟩ := hR.cell hlt
      have hy := hR.lt
      have f1 := hR.free (4 + j)
      obtain ⟨p, cap, hv, -, -⟩ := hrow.shape
      rw [hv] at c1
      have HV := hid hv
      obtain ⟨L, hL⟩ : ∃ L, L = W j := ⟨_, rfl⟩
      rw [← hL] at HW HLJ c1 HV
      have HLL := hid hL
      have hmet : Hid (met id W j = (met id W j || (L.take 0).contains id)) := by show _ = _; simp
      have hws := hM.size
      clear hd hrow hR hM hlt hv hL
      generalize wr = W0 at *
      generalize hm0 : met id W j = m0 at *
      have HM0 := hid hm0
      clear hm0 hmet
      go_wp2_with fail
      go_loopw [8, 7, 5] (fun s vl b wz => ∃ k : Nat, s = .int .i64 k ∧ b = .bool (m0 || (L.take k).contains id) ∧ k ≤ L.length ∧ Ext W0 wz ∧ Hid (wz.ownsRow W0.heap.size 3 1 vl ((L.take k).filter (· != id)).length (((L.take k).filter (· != id)).map fun k => .int .i64 k))) (fun s _ _ _ => (L.length - intOf s).toNat)
      case atStart => exact ⟨0, rfl, by simp, by omega, Ext.refl _, World.ownsRow_nil _ _ _ _⟩
      case round =>
        obtain ⟨k, rfl, rfl, hk, hx, hrow⟩ := hrel
        have hlb := HLJ.out
        have q1 := hx.cell c1
        have hwr := hx.size
        have hyr := Nat.lt_of_lt_of_le hy hwr
        by_cases hlt : k < L.length
        · have i4 : (k : Int) < (L.length : Int) := by omega
          have hI := HW.out.ints
          rw [HV.out] at hI
          obtain ⟨g, off, he, d0⟩ := hI.at k hlt
          clear hI
          subst he
          simp only [Nat.mul_one] at d0
          have q2 := hx.cell d0
          have hst := filter_step hlt id
          have hct := has_step hlt id
          have htk : ((L.take k).filter (· != id)).length ≤ k := Nat.le_trans (List.length_filter_le _ _) (List.length_take_le _ _)
          generalize L[k] = P at *
          clear d0
          by_cases hP : P = id
          · have i5 : (P == id) = true := by simpa using hP
            rw [if_pos hP] at hst
            rw [i5, Bool.or_true] at hct
            have HST := hid hst
            have HCT := hid hct
            clear hst hct hP htk
            go_wp2
            go_roundw
            case rel => exact ⟨k + 1, by go_num, by rw [HCT.out]; simp, by omega, hx, by rw [HST.out]; exact hrow⟩
            case measure => simp [intOf]; omega
          · have i5 : (P == id) = false := by simpa using hP
            rw [if_neg hP] at hst
            rw [i5, Bool.or_false] at hct
            have HST := hid hst
            have HCT := hid hct
            have HTK := hid htk
            clear hst hct hP htk
            go_wp2_with (at_builtin; refine wpList_push_own rfl (.tmp 35) (.tmp 45) 28 3 (.int .i64 0) 1 8 rfl Tryd.underlying28 infoI rfl (by decide) (w := wr) (base := W0.heap.size) hrow.out (news := [.int .i64 P]) rfl (ints_oneCell .i64 [P]) (by have := HTK.out; unfold maxLen; omega) (by have := HTK.out; omega) hwr (by rfl) (nb := wr.heap.size) (by rfl) rfl ?_; intro p1 c1' w1 ho1 hb1; have HO := hid ho1; have HX : Hid (Ext W0 w1) := ⟨Below.trans hx.below hb1⟩; clear ho1 hb1)
            go_roundw
            case rel => exact ⟨k + 1, by go_num, by rw [HCT.out]; simp, by omega, HX.out, by rw [HST.out, List.length_append, List.map_append]; exact HO.out⟩
            case measure => simp [intOf]; omega
        · obtain rfl : k = L.length := by omega
          rw [List.take_length] at hrow ⊢
          have q3 : wr.frozen? ⟨y, 4 + j, none⟩ = false := by rw [hx.below.frozen hy]; exact f1
          obtain ⟨p2, c2, rfl⟩ := Rw.owns_shape hrow.out
          have HFIN := hid (ro_push HR.out (Nat.le_trans HB.out hws) HJ.out hx hrow.out)
          have HJ4 : Hid (j + 1 ≤ 4) := by have := HJ.out; show _ ≤ _; omega
          have hml := hid (show met id W (j + 1) = (m0 || L.contains id) by rw [met_succ, HM0.out, HLL.out])
          generalize hN : (L.filter (· != id)).length = N at *
          have HNN := hid hN
          clear hN hrow
          go_wp2
          go_roundw
          case rel =>
            refine ⟨j + 1, by go_num, by rw [hml.out], HJ4.out, _, ?_, HM.out.trans HFIN.out.2⟩
            have h1 := HFIN.out.1
            rw [HLL.out, thr_step] at h1
            exact h1
          case measure => simp [intOf]; have := HJ4.out; omega
    · obtain rfl : j = 4 := by omega
      go_wp2
      go_returns
      exact ⟨rfl, hd.out⟩
end
end Ro
end Go.Proofs.YtoimkocjfijlkaaDoor
