/- has: is a number among those. -/
import Derived.Test.YtlpklkkjidaecaaTiK
import Derived.WalkSpells
import Derived.WalkLawsBesides
import Derived.Deep.LoopGhost
import Derived.Handy
namespace Go.Proofs.Ytlpklkkjidaecaa
open Go.RowKit
namespace Ti
open Rw

theorem Ints.shape {w : World} {v : Value} {l : List Int} (h : Ints w v l) : ∃ p cap, v = .slice p l.length cap ∧ l.length ≤ cap ∧ cap ≤ maxLen := Slc.shape h
set_option maxRecDepth 100000 in
set_option maxHeartbeats 4000000 in
theorem has_any (w : World) (v : Value) (l : List Int) (id : Int) (h : Ints w v l) (hl : l.length ≤ 1000000) : Calls Try.prog 19 #[v, .int .i64 id] w (Yields w (.bool (l.contains id))) := by
  obtain ⟨p, cap, rfl, -, -⟩ := h.shape
  have HL := hid h
  have HB := hid hl
  clear h hl
  go_enter Try.func19, Try.ntmps19
  go_wp2_with fail
  go_loopw [5] (fun s wr => ∃ j : Nat, s = .int .i64 j ∧ j ≤ l.length ∧ Ext w wr ∧ Hid ((l.take j).contains id = false)) (fun s _ => (l.length - intOf s).toNat)
  case atStart => exact ⟨0, rfl, by omega, Ext.refl _, rfl⟩
  case round =>
    obtain ⟨j, rfl, hj, hx, hno⟩ := hrel
    have hb := HB.out
    by_cases hlt : j < l.length
    · obtain ⟨g, off, rfl, c0⟩ := HL.out.at j hlt
      simp only [Nat.mul_one] at c0
      have c1 := hx.cell c0
      have i2 : (j : Int) < (l.length : Int) := by omega
      have ht : Hid (l.take (j + 1) = l.take j ++ [l[j]]) := List.take_succ_eq_append_getElem hlt
      have hc : Hid (l.contains id = (l.take j ++ (l[j] :: l.drop (j + 1))).contains id) := by rw [Hid, ← List.drop_eq_getElem_cons hlt, List.take_append_drop]
      generalize l[j] = P at *
      clear c0
      by_cases hp : P = id
      · have hq : (P == id) = true := by simpa using hp
        have HP := hid hp
        clear hp
        go_wp2
        go_returns
        refine ⟨?_, hx⟩
        rw [hc.out]
        simp [HP.out]
      · have hq : (P == id) = false := by simpa using hp
        have HP := hid hp
        clear hp
        go_wp2
        go_roundw
        case rel => exact ⟨j + 1, by go_num, by omega, hx, by rw [Hid, ht.out, List.contains_append, hno.out]; simp; exact fun e => HP.out e.symm⟩
        case measure => simp [intOf]; omega
    · obtain rfl : j = l.length := by omega
      go_wp2
      go_returns
      have := hno.out
      rw [List.take_length] at this
      exact ⟨by rw [this]; rfl, hx⟩
theorem has_to {w : World} {v : Value} {l : List Int} {id : Int} {r : Bool} (h : Ints w v l) (hl : l.length ≤ 1000000) (e : l.contains id = r) : Calls Try.prog 19 #[v, .int .i64 id] w (Yields w (.bool r)) := e ▸ has_any w v l id h hl
theorem Ints.ext {w w' : World} {v : Value} {l : List Int} (h : Ints w v l) (k : Ext w w') : Ints w' v l := h.mono fun _ _ _ => k.cell
end Ti
end Go.Proofs.Ytlpklkkjidaecaa
