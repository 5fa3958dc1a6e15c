/- The document's own timers: Set, Next, Due. -/
import Derived.Test.YtlpklkkjidaecaaRf1
import Derived.Test.YtlpklkkjidaecaaTiS
import Derived.Deep.LoopGhost
import Derived.IntWalk
namespace Go.Proofs.Ytlpklkkjidaecaa
open Go.RowKit
namespace Rf
open Rw Ti
set_option linter.unusedSimpArgs false

/-- By ID. -/
def Sor (l : List En) : Prop := l.Pairwise (fun a b => a.1 < b.1)
theorem Sor.apart {l : List En} (h : Sor l) : Apart l := by
  unfold Apart
  exact List.pairwise_map.2 (h.imp fun h => by omega)
/-- Laid where it belongs. -/
theorem ins_sor {l : List En} {id un : Int} {k : Nat} (h : Sor l) (hno : ∀ e ∈ l, e.1 ≠ id) (h1 : ∀ i (hi : i < l.length), i < k → l[i].1 < id) (h2 : ∀ hk : k < l.length, ¬ l[k].1 < id) :
    Sor (l.take k ++ (id, un) :: l.drop k) := by
  have hs : Sor (l.take k ++ l.drop k) := by rw [List.take_append_drop]; exact h
  unfold Sor at *
  obtain ⟨s1, s2, s3⟩ := List.pairwise_append.1 hs
  refine List.pairwise_append.2 ⟨s1, List.pairwise_cons.2 ⟨fun b hb => ?_, s2⟩, fun a ha b hb => ?_⟩
  · by_cases hk : k < l.length
    · rw [List.drop_eq_getElem_cons hk] at hb s2
      have h3 := h2 hk
      have h4 := hno l[k] (List.getElem_mem hk)
      rcases List.mem_cons.1 hb with rfl | hb
      · simp; omega
      · have := (List.pairwise_cons.1 s2).1 b hb
        simp; omega
    · rw [List.drop_eq_nil_of_le (by omega)] at hb
      cases hb
  · obtain ⟨i, hi, rfl⟩ := List.getElem_of_mem ha
    rw [List.length_take] at hi
    have h3 := h1 i (by omega) (by omega)
    rw [List.getElem_take] at *
    rcases List.mem_cons.1 hb with rfl | hb
    · exact h3
    · have := s3 _ ha b hb
      simpa using this
theorem ins_perm {l : List En} {id un : Int} {k : Nat} : (l.take k ++ (id, un) :: l.drop k).Perm ((id, un) :: l) := by
  refine List.perm_middle.trans (List.Perm.cons _ ?_)
  rw [List.take_append_drop]

section
variable {base y : Nat} {v : Value} {l : List En} {w w' : World}
set_option maxRecDepth 100000 in
set_option maxHeartbeats 4000000 in
theorem set_any (h : Rm base y v l w) (hs : Sor l) (hl : l.length ≤ 999) (hb : base ≤ w.heap.size) (id un : Int) :
    Calls Try.prog 10 #[.pointer (some ⟨y, 0, none⟩), .int .i64 id, .int .i64 un] w fun e w' => e = .returned (.tuple #[]) ∧ ∃ v' l', l'.Perm (put id un l) ∧ Sor l' ∧ Rm base y v' l' w' ∧ Mvp (ROwn y v) (ROwn y v') w w' := by
  have CD := hid (drop_any h (by omega) hb id)
  have hle : (others id l).length ≤ l.length := List.length_filter_le _ _
  have hso : Sor (others id l) := List.Pairwise.filter _ hs
  have hno : ∀ e ∈ others id l, e.1 ≠ id := fun e he => (mem_others.1 he).2
  have HBB := hid hb
  have HLL := hid hl
  clear h hl hs hb
  go_enter Try.func10, Try.ntmps10
  go_wp2_with fail
  (with_reducible refine CD.out.mono ?_)
  rintro e w1 ⟨rfl, v1, h1, m1⟩
  have HPUT : Hid (put id un l = (id, un) :: others id l) := rfl
  generalize others id l = M at *
  have HM := hid m1
  have H1 := hid h1
  have HLE := hid hle
  have HSO := hid (And.intro hso hno)
  have HB1 : Hid (base ≤ w1.heap.size) := by have := m1.size; have := HBB.out; exact Nat.le_trans this ‹_›
  obtain ⟨p, cap, rfl, -, -, -⟩ := h1.row.slice
  obtain ⟨c0, f0⟩ := h1.cells
  clear CD hle hso hno m1 h1
  have HDONE : Hid (∀ (k : Nat) (e : Ending) (w2 : World) (v' : Value), (∀ i (hi : i < M.length), i < k → M[i].1 < id) → (∀ hk : k < M.length, ¬ M[k].1 < id) → Rm base y v' (M.take k ++ (id, un) :: M.drop k) w2 → Mvp (ROwn y (.slice p M.length cap)) (ROwn y v') w1 w2 →
      ∃ v' l', l'.Perm (put id un l) ∧ Sor l' ∧ Rm base y v' l' w2 ∧ Mvp (ROwn y v) (ROwn y v') w w2) := fun k e w2 v' a1 a2 a3 a4 =>
    ⟨v', _, by rw [HPUT.out]; exact ins_perm, ins_sor HSO.out.1 HSO.out.2 a1 a2, a3, HM.out.trans a4⟩
  go_wp2_with fail
  go_loopw [6] (fun s wr => ∃ k : Nat, s = .int .i64 k ∧ k ≤ M.length ∧ wr = w1 ∧ Hid (∀ i (_ : i < M.length), i < k → M[i].1 < id)) (fun s _ => (M.length - intOf s).toNat)
  case atStart => exact ⟨0, rfl, by omega, rfl, fun i _ hi => by omega⟩
  case round =>
    obtain ⟨k, rfl, hk, rfl, hlow⟩ := hrel
    have hlb := HLL.out
    have hle := HLE.out
    by_cases hlt : k < M.length
    · obtain ⟨g, cap', e, -, hg, -, -⟩ := H1.out.row.shape (by omega)
      injection e with e _ ec
      subst e ec
      obtain ⟨d0, d1, -, -⟩ := H1.out.row.cell (List.getElem?_eq_getElem hlt)
      have i4 : (k : Int) < (M.length : Int) := by omega
      have HLO : Hid (M[k].1 < id → ∀ i (_ : i < M.length), i < k + 1 → M[i].1 < id) := fun h i hi hl => by
        by_cases e : i = k
        · subst e; exact h
        · exact hlow.out i hi (by omega)
      have HHI : Hid (¬ M[k].1 < id → ∀ hk : k < M.length, ¬ M[k].1 < id) := fun h _ => h
      clear d1
      generalize M[k] = q at *
      by_cases hc : q.1 < id
      · go_wp2
        go_roundw
        case rel => exact ⟨k + 1, by go_num, by omega, trivial, HLO.out hc⟩
        case measure => simp [intOf]; omega
      · have HH := hid (HHI.out hc)
        have PI := @ins_piece base y k id un _ M wr H1.out HB1.out (by omega) (by omega)
        have PI := hid PI
        clear HLO HHI
        go_upto_region 4 with (fail)
        refine wp_meet (InsPost base y k id un (.slice (some ⟨g, 0, none⟩) M.length cap) (M.take k ++ (id, un) :: M.drop k) wr) (by apply PI.out) ?_
        refine fun a' y2 => ex_elim fun v' => ex_elim fun u3 => ex_elim fun u4 => ex_elim fun u5 => ex_elim fun u7 => ex_elim fun u8 => ex_elim fun u9 => ex_elim fun u10 => ex_elim fun u11 => ex_elim fun u12 => ex_elim fun u13 => ex_elim fun u14 => ex_elim fun u15 => ex_elim fun u16 => ex_elim fun u17 => ex_elim fun u18 => ex_elim fun u19 => ex_elim fun u20 => ex_elim fun u21 => ex_elim fun u22 => ex_elim fun u23 => ex_elim fun u24 => ex_elim fun u25 => ex_elim fun u26 => ex_elim fun u27 => ex_elim fun u28 => ex_elim fun u29 => ex_elim fun u30 => ex_elim fun u31 => ex_elim fun u32 => ex_elim fun u33 => ex_elim fun u34 => ex_elim fun u35 => ex_elim fun u36 => ex_elim fun u37 => ex_elim fun u38 => ex_elim fun u39 => ex_elim fun u40 => ex_elim fun u41 => ex_elim fun u42 => ex_elim fun u43 => ex_elim fun u44 => ex_elim fun u45 => ex_elim fun u46 => ex_elim fun u47 => ex_elim fun u48 => ex_elim fun u49 => ex_elim fun u50 => ex_elim fun u51 => ex_elim fun u52 => ?_
        rintro ⟨rfl, hT, hM⟩
        have HF := hid (HDONE.out k (.returned (.tuple #[])) y2 v' hlow.out (fun hk => by have := HH.out hk; omega) hT hM)
        clear hT hM
        go_wp2
        go_returns
        exact ⟨rfl, HF.out⟩
    · have PI := @ins_piece base y k id un _ M wr H1.out HB1.out (by omega) (by omega)
      have PI := hid PI
      have HH : Hid (∀ hk : k < M.length, ¬ M[k].1 < id) := fun hk => absurd hk hlt
      have i4 : ¬ (k : Int) < (M.length : Int) := by omega
      go_upto_region 4 with (fail)
      refine wp_meet (InsPost base y k id un (.slice p M.length cap) (M.take k ++ (id, un) :: M.drop k) wr) (by apply PI.out) ?_
      refine fun a' y2 => ex_elim fun v' => ex_elim fun u3 => ex_elim fun u4 => ex_elim fun u5 => ex_elim fun u7 => ex_elim fun u8 => ex_elim fun u9 => ex_elim fun u10 => ex_elim fun u11 => ex_elim fun u12 => ex_elim fun u13 => ex_elim fun u14 => ex_elim fun u15 => ex_elim fun u16 => ex_elim fun u17 => ex_elim fun u18 => ex_elim fun u19 => ex_elim fun u20 => ex_elim fun u21 => ex_elim fun u22 => ex_elim fun u23 => ex_elim fun u24 => ex_elim fun u25 => ex_elim fun u26 => ex_elim fun u27 => ex_elim fun u28 => ex_elim fun u29 => ex_elim fun u30 => ex_elim fun u31 => ex_elim fun u32 => ex_elim fun u33 => ex_elim fun u34 => ex_elim fun u35 => ex_elim fun u36 => ex_elim fun u37 => ex_elim fun u38 => ex_elim fun u39 => ex_elim fun u40 => ex_elim fun u41 => ex_elim fun u42 => ex_elim fun u43 => ex_elim fun u44 => ex_elim fun u45 => ex_elim fun u46 => ex_elim fun u47 => ex_elim fun u48 => ex_elim fun u49 => ex_elim fun u50 => ex_elim fun u51 => ex_elim fun u52 => ?_
      rintro ⟨rfl, hT, hM⟩
      have HF := hid (HDONE.out k (.returned (.tuple #[])) y2 v' hlow.out (fun hk => by have := HH.out hk; omega) hT hM)
      clear hT hM
      go_wp2
      go_returns
      exact ⟨rfl, HF.out⟩
end
end Rf
end Go.Proofs.Ytlpklkkjidaecaa
