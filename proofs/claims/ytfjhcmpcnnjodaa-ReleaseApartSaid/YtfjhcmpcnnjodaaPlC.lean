/- The program's Count (package plan): a goto over slices.Index. -/
import Derived.Test.YtfjhcmpcnnjodaaPl0
import Derived.Test.YtfjhcmpcnnjodaaIdx
import Derived.Deep.RegionHeld3
namespace Go.Proofs.Ytfjhcmpcnnjodaa
open Go.RowKit

def lenOfS : Value → Nat
  | .slice _ n _ => n
  | _ => 0
/-- At the label: what is left, and how many were met. -/
def CntJ (d : Int) (l : List Int) (w : World) (a' : Act) (w' : World) : Prop :=
  ∃ (u : Value) (s : Nat) (u2 u3 u4 u6 u7 u8 u9 u10 u11 u12 u13 u14 u15 u16 u17 u18 : Value), a' = { tmps := #[u, .int .i64 d, u2, u3, u4, .int .i64 s, u6, u7, u8, u9, u10, u11, u12, u13, u14, u15, u16, u17, u18], defers := [] } ∧ ∃ l', Ext w w' ∧ Ints w' u l' ∧ Hid (s + l'.length ≤ l.length ∧ s + l'.count d = l.count d)
set_option maxRecDepth 100000 in
set_option maxHeartbeats 1000000 in
theorem pcount_any {d : Int} {l : List Int} {v : Value} {w : World} (h : Ints w v l) : Calls Try.prog 20 #[v, .int .i64 d] w (Yields w (.int .i64 (cntTo l d l.length))) := by
  have HM : Hid (l.length ≤ maxLen) := by obtain ⟨_, _, _, h1, h2⟩ := h.shape; exact hid (Nat.le_trans h1 h2)
  have HA := hid h
  clear h
  go_enter Try.func20, Try.ntmps20
  go_wp2_with fail
  refine wp_goto 0 (CntJ d l w) (fun a' _ => lenOfS (a'.tmps.getD 0 undef)) rfl ?_ ?_
  · refine fun a' w1 => ex_elim fun u => ex_elim fun s => ex8 fun u2 u3 u4 u6 u7 u8 u9 u10 => ex8 fun u11 u12 u13 u14 u15 u16 u17 u18 => ?_
    rintro ⟨rfl, l', hX, hI, hS⟩
    obtain ⟨p, cap, rfl, hc1, hc2⟩ := hI.shape
    have HI := hid hI
    have hm : s + l'.length ≤ maxLen := by have := HM.out; have := hS.out.1; omega
    unfold maxLen at hm hc2
    rcases idx_cases l' d with ⟨e, h0⟩ | ⟨k, e, hk, h1⟩
    · have hE : Hid (cntTo l d l.length = s) := hid (by rw [cntTo_all]; have := hS.out.2; omega)
      have HE := hid e
      clear hI hS e h0
      go_wp2_with (go_at_call 32; (with_reducible refine (index_to HI.out HE.out).yields ?_); intro p1)
      simp only [Exit.jump]
      go_ret
      exact ⟨by simp [hE.out], ext_by⟩
    · obtain ⟨u2, hsl, hd⟩ := ints_drop hI (k := k + 1) (by omega)
      rw [show ((k + 1 : Nat) : Int) = (k : Int) + 1 by omega] at hsl
      have HD : Hid (∀ w', Ext w1 w' → Ints w' u2 (l'.drop (k + 1))) := hid hd
      have hF : Hid ((s + 1) + (l'.drop (k + 1)).length ≤ l.length ∧ (s + 1) + (l'.drop (k + 1)).count d = l.count d) := hid (by have := hS.out; rw [List.length_drop]; omega)
      have hL : Hid ((l'.drop (k + 1)).length < l'.length) := hid (by rw [List.length_drop]; omega)
      have HE := hid e
      have i1 : (k : Int) < l'.length := by omega
      clear hI hS e h1 hd
      go_wp2_with (go_at_call 32; (with_reducible refine (index_to HI.out HE.out).yields ?_); intro p1)
      go_region
      all_goals
        go_wp2
        go_step3
        simp only [Exit.then]
        refine ⟨rfl, ⟨_, s + 1, _, _, _, _, _, _, _, _, _, _, _, _, _, _, _, _, rfl, _, ext_by, HD.out _ ext_by, hF⟩, ?_⟩
        obtain ⟨p2, c2, e2, -⟩ := (HD.out _ (Ext.refl _)).shape
        rw [e2]
        exact hL.out
  · intro start
    have Start := hid start
    clear start
    go_wp2_with fail
    go_step3
    simp only [Exit.then]
    refine ‹∀ (a : Act) (w : World), Code.wp _ _ _ a w → _› _ _ ?_
    exact Start.out _ _ ⟨v, 0, _, _, _, _, _, _, _, _, _, _, _, _, _, _, _, _, rfl, l, Ext.refl _, HA.out, hid ⟨by omega, by omega⟩⟩
theorem pcount_to {d : Int} {l : List Int} {v : Value} {w : World} {r : Int} (h : Ints w v l) (e : cntTo l d l.length = r) : Calls Try.prog 20 #[v, .int .i64 d] w (Yields w (.int .i64 r)) := e ▸ pcount_any h
end Go.Proofs.Ytfjhcmpcnnjodaa
