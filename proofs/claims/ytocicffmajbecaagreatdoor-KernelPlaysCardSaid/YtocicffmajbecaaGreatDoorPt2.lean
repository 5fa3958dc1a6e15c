/- The program's own tree: a node's pass, its group's now, how far it is ahead, whether it is ready, what is told of it. -/
import Derived.Test.YtocicffmajbecaaGreatDoorPt1
import Derived.Test.YtocicffmajbecaaGreatDoorFl2
namespace Go.Proofs.YtocicffmajbecaaGreatDoor
open Go.RowKit
set_option maxHeartbeats 400000 in
theorem passN_any {b : Nat} {p q : Int} {w : World} (hp : p.natAbs < 2 ^ 53) (h : w.cell? ⟨b,4,none⟩ = some (.complex .f64 (Fz p) (Fz q))) : Calls Tryz.prog 98 #[.pointer (some ⟨b,0,none⟩)] w (Yields w (.int .i64 p)) := by
  have hcv := fun w => run_convert_float_int (P := Tryz.prog) w 158 3 .f64 .i64 (Fz p) p (by kernel_rfl) Tryz.underlying3 (intVal_Fz hp)
  go_enter Tryz.func98,Tryz.ntmps98
  go_wp2
  go_returns
  exact ⟨rfl,ext_by⟩
set_option maxHeartbeats 400000 in
theorem nowN_any {b : Nat} {p q : Int} {w : World} (hq : q.natAbs < 2 ^ 53) (h : w.cell? ⟨b,4,none⟩ = some (.complex .f64 (Fz p) (Fz q))) : Calls Tryz.prog 99 #[.pointer (some ⟨b,0,none⟩)] w (Yields w (.int .i64 q)) := by
  have hcv := fun w => run_convert_float_int (P := Tryz.prog) w 158 3 .f64 .i64 (Fz q) q (by kernel_rfl) Tryz.underlying3 (intVal_Fz hq)
  go_enter Tryz.func99,Tryz.ntmps99
  go_wp2
  go_returns
  exact ⟨rfl,ext_by⟩
set_option maxRecDepth 100000 in
set_option maxHeartbeats 1000000 in
theorem aheadN_any {b g : Nat} {p q r s : Int} {w : World} (hp : 0 ≤ p ∧ p < 2 ^ 50) (hq : 0 ≤ q ∧ q < 2 ^ 50) (hr : 0 ≤ r ∧ r < 2 ^ 50) (hs : 0 ≤ s ∧ s < 2 ^ 50) (h3 : w.cell? ⟨b,3,none⟩ = some (.pointer (some ⟨g,0,none⟩)))
    (h4 : w.cell? ⟨b,4,none⟩ = some (.complex .f64 (Fz p) (Fz q))) (g4 : w.cell? ⟨g,4,none⟩ = some (.complex .f64 (Fz r) (Fz s))) : Calls Tryz.prog 105 #[.pointer (some ⟨b,0,none⟩)] w (Yields w (.float .f64 (Fz (p - s)))) := by
  have hm := fun t w => run_complex_mul (P := Tryz.prog) w t 0 4607182418800017408 (Fz r) (Fz s) _ _ (quarter_Fz hr.1 hs.1 (by omega) (by omega))
  have ha := fun t w => run_complex_sum (P := Tryz.prog) w .add (.inl rfl) t .f64 (Fz p) (Fz q) (Fz (-s)) (Fz r) _ _ (sum_Fz (by omega) (by omega) (by omega) (by omega))
  rw [← Int.sub_eq_add_neg] at ha
  have hb := World.block_lt_of_cell? _ _ h3
  have hg := World.block_lt_of_cell? _ _ g4
  simp only at hb hg
  clear hp hq hr hs
  generalize Fz (p - s) = F at *
  generalize Fz p = F1 at *
  generalize Fz q = F2 at *
  generalize Fz r = F3 at *
  generalize Fz (-s) = F5 at *
  generalize Fz s = F4 at *
  generalize Fz (q + r) = F6 at *
  go_enter Tryz.func105,Tryz.ntmps105
  go_wp2
  ((first | refine wp_region_more (by kernel_rfl) (by kernel_rfl) ?_ | refine wp_region_ext (by kernel_rfl) (by kernel_rfl) ?_); (try dsimp only [append_cons',append_nil']); (repeat (go_big_quiet_step ((fail)))); refine wpQuiet_nil ?_; rintro _ ⟨pq,rfl⟩)
  go_wp2
  go_returns
  exact ⟨rfl,ext_by⟩
def Bdd (l : List Nd) : Prop := ∀ n ∈ l,(0 ≤ n.pass ∧ n.pass ≤ 1099511627776) ∧ 0 ≤ n.now ∧ n.now ≤ 1099511627776
section
variable {base : Nat} {x : Site} {W : Wit} {l : List Nd} {w : World}
theorem pass_at (h : Pt base x W l w) (hb : Bdd l) {n : Nd} (hn : n ∈ l) : Calls Tryz.prog 98 #[.pointer (some ⟨W.nb n.id,0,none⟩)] w (Yields w (.int .i64 n.pass)) :=
  passN_any (by have := hb n hn; omega) (h.cells hn).2.2.2.2.1
theorem now_at (h : Pt base x W l w) (hb : Bdd l) {n : Nd} (hn : n ∈ l) : Calls Tryz.prog 99 #[.pointer (some ⟨W.nb n.id,0,none⟩)] w (Yields w (.int .i64 n.now)) :=
  nowN_any (by have := hb n hn; omega) (h.cells hn).2.2.2.2.1
theorem ahead_at (h : Pt base x W l w) (hb : Bdd l) {n p : Nd} (hn : n ∈ l) (hp : p ∈ l) (he : p.id = n.par) (h0 : 0 ≤ n.par) : Calls Tryz.prog 105 #[.pointer (some ⟨W.nb n.id,0,none⟩)] w (Yields w (.float .f64 (Fz (n.pass - p.now)))) := by
  have h1 := hb n hn
  have h2 := hb p hp
  have c := h.cells hn
  have d := h.cells hp
  refine aheadN_any (g := W.nb n.par) (p := n.pass) (q := n.now) (r := p.pass) (s := p.now) (by omega) (by omega) (by omega) (by omega) ?_ c.2.2.2.2.1 (by rw [← he]; exact d.2.2.2.2.1)
  rw [c.2.2.2.1,grp_up (by omega)]
end
def rdyP (W : Wit) (n : Nd) : Bool := if n.par < 0 then decide (0 < (W.rw n.id).length) else decide (idAt (W.rw n.par) n.id < (W.rw n.par).length)
set_option maxHeartbeats 1000000 in
theorem ready_top {base : Nat} {x : Site} {W : Wit} {l : List Nd} {w : World} (h : Pt base x W l w) {n : Nd} (hn : n ∈ l) (h0 : n.par < 0) (hg : n.thr = false) :
    Calls Tryz.prog 103 #[.pointer (some ⟨W.nb n.id,0,none⟩)] w (Yields w (.bool (rdyP W n))) := by
  obtain ⟨c0,-,-,c3,-,c5⟩ := h.cells hn
  have hb := h.nlt hn
  rw [grp_top h0] at c3
  rw [que_of hg] at c5
  have hI := hid (h.idx n hn hg).1
  have hR : Hid (rdyP W n = decide (0 < (W.rw n.id).length)) := if_pos h0
  rw [hR.out]
  clear hg h hn h0 hR
  generalize W.nb n.id = b at *
  generalize W.qb n.id = q at *
  go_enter Tryz.func103,Tryz.ntmps103
  go_wp2_with (go_at_call 113; (with_reducible refine (len_any _ _ _ _ _ _ hI.out).mono ?_); rintro e w1 ⟨rfl,hw1⟩; rw [hw1]; clear hw1; clear w1)
  go_returns
  exact ⟨rfl,ext_by⟩
set_option maxHeartbeats 1000000 in
theorem ready_up {base : Nat} {x : Site} {W : Wit} {l : List Nd} {w : World} (h : Pt base x W l w) {n p : Nd} (hn : n ∈ l) (h0 : 0 ≤ n.par) (hp : p ∈ l) (he : p.id = n.par) (ht : p.thr = false) (hl : (W.rw p.id).length ≤ 1000) :
    Calls Tryz.prog 103 #[.pointer (some ⟨W.nb n.id,0,none⟩)] w (Yields w (.bool (rdyP W n))) := by
  have h0 : ¬ n.par < 0 := by omega
  obtain ⟨c0,-,-,c3,-,c5⟩ := h.cells hn
  have hb := h.nlt hn
  rw [grp_up h0] at c3
  have hI := hid (h.idx p hp ht).1
  have d5 := (h.cells hp).2.2.2.2.2
  rw [que_of ht] at d5
  have hll := hid hl
  have hgl := h.nlt hp
  rw [he] at d5 hI hll hgl
  have hR : Hid (rdyP W n = decide (idAt (W.rw n.par) n.id < (W.rw n.par).length)) := if_neg h0
  have hP : Hid (∃ v1,passV (W.rw n.par) n.id = .tuple #[.int .i64 v1,.bool (decide (idAt (W.rw n.par) n.id < (W.rw n.par).length))]) := by
    unfold Hid passV
    by_cases hq : idAt (W.rw n.par) n.id < (W.rw n.par).length
    · rw [List.getElem?_eq_getElem hq]; exact ⟨(W.rw n.par)[idAt (W.rw n.par) n.id].1,by simp [hq]⟩
    · rw [List.getElem?_eq_none (by omega)]; exact ⟨0,by simp [hq]⟩
  rw [hR.out]
  obtain ⟨v1,hv1⟩ := hP.out
  have hV := hid hv1
  clear hl h hn h0 hR he ht hv1 hP
  generalize decide (idAt (W.rw n.par) n.id < (W.rw n.par).length) = r at *
  generalize W.nb n.id = b at *
  generalize W.nb n.par = g at *
  generalize W.qb n.par = q at *
  go_enter Tryz.func103,Tryz.ntmps103
  go_wp2
  ((first | refine wp_region_more (by kernel_rfl) (by kernel_rfl) ?_ | refine wp_region_ext (by kernel_rfl) (by kernel_rfl) ?_); (try dsimp only [append_cons',append_nil']); (repeat (go_big_quiet_step ((go_at_call 125; with_reducible refine Calls.more_of (hV.out ▸ pass_any _ _ _ _ _ _ _ (hI.out.ext (ext_more _ _)) hll.out))))); refine wpQuiet_nil ?_; rintro _ ⟨pq,rfl⟩)
  go_wp2
  go_returns
  exact ⟨rfl,ext_by⟩
end Go.Proofs.YtocicffmajbecaaGreatDoor
