/- slices.Delete, slices.Clone at rows of entries; the methods of an index. -/
import Derived.Test.YtocicffmajbecaaGreatDoorPq2
import Derived.WalkKit
import Derived.WalkSpells
import Derived.WalkLawsBesides
import Derived.Deep.RegionLaw
import Derived.Lib.SliceRun
import Derived.OwnWalk
import Derived.Handy
namespace Go.Proofs.YtocicffmajbecaaGreatDoor
open Go.RowKit
set_option maxHeartbeats 1000000 in
theorem new_any (room : Int) (w : World) : Calls Tryz.prog 76 #[.int .i64 room] w fun e w' => e = .returned (.pointer (some ⟨w.heap.size,0,none⟩)) ∧ Ix w.heap.size w.heap.size (.slice none 0 0) (max 0 (min room 64)) 0 [] w' ∧ Ext w w' := by
  go_enter Tryz.func76,Tryz.ntmps76
  go_wp2_with (go_at_call 108; (with_reducible refine (held_any _ _ _).mono ?_); rintro e w1 ⟨rfl,rfl⟩)
  go_returns
  exact ⟨rfl,⟨heap_alloc_new _ _,Row.nil _ _⟩,ext_by⟩
set_option maxHeartbeats 1000000 in
theorem len_any (base x : Nat) (v : Value) (room : Int) (rows : List En) (w : World) (h : Ix base x v room rows.length rows w) :
    Calls Tryz.prog 113 #[.pointer (some ⟨x,0,none⟩)] w fun e w' => e = .returned (.int .i64 rows.length) ∧ w' = w := by
  obtain ⟨p,cap,rfl,-,-,-⟩ := h.row.slice
  obtain ⟨c0,-,-,-⟩ := h.cells
  go_enter Tryz.func113,Tryz.ntmps113
  go_wp2
  go_returns
  exact ⟨rfl,rfl⟩
def minV (rows : List En) : Value := match rows with
  | [] => .tuple #[.agg #[.int .i64 0,.int .i64 0],.bool false]
  | p :: _ => .tuple #[entV p,.bool true]
set_option maxHeartbeats 1000000 in
theorem min_any (base x : Nat) (v : Value) (room : Int) (rows : List En) (w : World) (h : Ix base x v room rows.length rows w) :
    Calls Tryz.prog 126 #[.pointer (some ⟨x,0,none⟩)] w (Yields w (minV rows)) := by
  obtain ⟨p,cap,rfl,-,-,-⟩ := h.row.slice
  obtain ⟨c0,-,-,-⟩ := h.cells
  have hlt := h.lt
  cases rows with
  | nil =>
    go_enter Tryz.func126,Tryz.ntmps126
    go_wp2
    exact bodyPost_ret (v := .tuple #[.agg #[.int .i64 0,.int .i64 0],.bool false]) (by simp [results,Tryz.results126,go_sem]) rfl ⟨rfl,ext_by⟩
  | cons q rest =>
    obtain ⟨g,cap',e,-,hg,-,-⟩ := h.row.shape (by simp)
    injection e with e _ ec
    subst e ec
    obtain ⟨d0,d1,-,-⟩ := h.row.cell (i := 0) (p := q) rfl
    simp only [Nat.zero_mul,Nat.zero_add] at d0 d1
    have i0 : (0 : Int) < ((q :: rest).length : Int) := by rw [List.length_cons]; omega
    have i1 : (((q :: rest).length : Int) == 0) = false := by rw [beq_eq_false_iff_ne]; omega
    clear h
    generalize (q :: rest).length = n at *
    go_enter Tryz.func126,Tryz.ntmps126
    go_wp2
    exact bodyPost_ret (v := .tuple #[.agg #[.int .i64 q.1,.int .i64 q.2],.bool true]) (by simp [results,Tryz.results126,go_sem]) rfl ⟨rfl,ext_by⟩
def passV (rows : List En) (id : Int) : Value := match rows[idAt rows id]? with
  | none => .tuple #[.int .i64 0,.bool false]
  | some p => .tuple #[.int .i64 p.1,.bool true]
set_option maxHeartbeats 1000000 in
theorem pass_any (base x : Nat) (v : Value) (room : Int) (rows : List En) (id : Int) (w : World) (h : Ix base x v room rows.length rows w) (hl : rows.length ≤ 1000) :
    Calls Tryz.prog 125 #[.pointer (some ⟨x,0,none⟩),.int .i64 id] w (Yields w (passV rows id)) := by
  have HI := hid h
  by_cases hf : idAt rows id < rows.length
  · obtain ⟨g,cap',rfl,-,hg,-,-⟩ := h.row.shape (by omega)
    have he := List.getElem?_eq_getElem hf
    obtain ⟨d0,d1,-,-⟩ := h.row.cell he
    have hp : Hid (idPl rows id = (idAt rows id : Int)) := if_pos hf
    have hV : Hid (passV rows id = .tuple #[.int .i64 rows[idAt rows id].1,.bool true]) := by unfold passV; rw [he]; rfl
    generalize rows[idAt rows id] = q at *
    have i1 : (idAt rows id : Int) < (rows.length : Int) := by omega
    have i2 : (0 : Int) ≤ (idAt rows id : Int) := by omega
    have i3 : (idAt rows id : Int) ≤ 1000 := by omega
    obtain ⟨c0,-,-,-⟩ := h.cells
    have hlt := h.lt
    have HL := hid hl
    clear h he hf
    generalize idAt rows id = k at *
    rw [hV.out]
    go_enter Tryz.func125,Tryz.ntmps125
    go_wp2_with (go_at_call 130; (with_reducible refine (find_to hp.out _ HI.out (Nat.le_trans HL.out (by decide))).yields ?_); intro p0)
    go_returns
    exact ⟨rfl,ext_by⟩
  · have hp : Hid (idPl rows id = -1) := if_neg hf
    have hV : Hid (passV rows id = .tuple #[.int .i64 0,.bool false]) := by unfold passV; rw [List.getElem?_eq_none (by omega)]; rfl
    have HL := hid hl
    clear h hf hl
    rw [hV.out]
    go_enter Tryz.func125,Tryz.ntmps125
    go_wp2_with (go_at_call 130; (with_reducible refine (find_to hp.out _ HI.out (Nat.le_trans HL.out (by decide))).yields ?_); intro p0)
    go_returns
    exact ⟨rfl,ext_by⟩
end Go.Proofs.YtocicffmajbecaaGreatDoor
