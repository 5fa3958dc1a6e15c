/- The program's own tree: Add lets a node in. -/
import Derived.Test.YtfccmdmfllicdaaDoorPtA
namespace Go.Proofs.YtfccmdmfllicdaaDoor
open Go.RowKit
set_option linter.unusedSimpArgs false

section
variable {base x : Nat} {W : Wit} {l : List Nd} {w : World}
set_option maxRecDepth 100000 in
set_option maxHeartbeats 4000000 in
theorem addP_thr (h : TOk base x W l w) (hb0 : base ≤ w.heap.size) (dn : Nat) (parent id wt : Int) (hk : addC l dn parent id wt true = 0) :
    Calls Tryd.prog 8 #[.pointer (some ⟨x, 0, none⟩), .int .i64 parent, .int .i64 id, .int .i64 wt, .bool true] w fun e w' => e = .returned .nilIface ∧ ∃ W', Pt base x W' (insT (newN l parent id wt true) l) w' ∧ QOk W' (insT (newN l parent id wt true) l) ∧ Fr (Own x W l) (Own x W' (insT (newN l parent id wt true) l)) w w' := by
  have hl1 : l.length ≤ 1000 := by have := h.len; omega
  unfold addC at hk
  by_cases c1 : isW wt = false ∨ id ≤ 0
  · rw [if_pos c1] at hk; cases hk
  rw [if_neg c1] at hk
  by_cases c2 : grpU l parent = false
  · rw [if_pos c2] at hk; cases hk
  rw [if_neg c2] at hk
  by_cases c3 : hasU l id = true
  · rw [if_pos c3] at hk; cases hk
  rw [if_neg c3, if_neg (by simp)] at hk
  by_cases c5 : 60 ≤ l.length
  · rw [if_pos c5] at hk; cases hk
  have hw : isW wt = true := by cases e : isW wt; · exact absurd (.inl e) c1
                                · rfl
  have hi : ¬ id ≤ 0 := fun e => c1 (.inr e)
  have HW := hid hw
  obtain ⟨p, hg⟩ : ∃ p, getU l parent = some p := by
    cases hg : getU l parent with
    | none => exact absurd (by simp [grpU, hg]) c2
    | some p => exact ⟨p, rfl⟩
  obtain ⟨hp, rfl⟩ := getU_mem hg
  have hnow : Hid (nowU l p.id = p.now) := nowU_of h.ids hp
  have hnew : getU l id = none := by
    cases e : getU l id with
    | none => rfl
    | some n => exact absurd (by simp [hasU, e]) c3
  have c2' : p.thr = false := by simpa [grpU, hg] using c2
  have HFP : Hid (∀ w', Ext w w' → Calls Tryd.prog 27 #[.pointer (some ⟨x, 0, none⟩), .int .i64 p.id] w' (Yields w' (.pointer (some ⟨W.nb p.id, 0, none⟩)))) := fun w' hx => find_yes (h.pt.ext hx) h.ids hl1 hp
  have HFI : Hid (∀ w', Ext w w' → Calls Tryd.prog 27 #[.pointer (some ⟨x, 0, none⟩), .int .i64 id] w' (Yields w' (.pointer none))) := fun w' hx => find_nil (h.pt.ext hx) h.ids hl1 hnew
  have HPL : Hid (∀ w', Ext w w' → Calls Tryd.prog 29 #[.pointer (some ⟨x, 0, none⟩), .int .i64 id] w' (Yields w' (.tuple #[.int .i64 (placeT l id), .bool (hasU l id)]))) := fun w' hx => place_at (h.pt.ext hx) h.ids hl1 _
  obtain ⟨-, -, m2, -, m4, -⟩ := h.pt.cells hp
  rw [c2'] at m2
  have hpl := h.pt.nlt hp
  have cx := h.pt.cell
  have hxl := h.pt.lt
  obtain ⟨pp, cap, hv, hcap, hcm, hp0, hp1⟩ := h.pt.shape
  obtain ⟨ad, rfl⟩ : ∃ a, pp = some a := by
    cases pp with
    | none => have e := (hp0 rfl).1; rw [e] at hp; cases hp
    | some a => exact ⟨a, rfl⟩
  obtain ⟨g, rfl, hgb, hgl⟩ := hp1 ad rfl
  have HV := hid hv
  rw [hv] at cx
  have c5' : ¬ (60 : Int) ≤ (l.length : Int) := by omega
  have hl60 : (l.length : Int) ≤ 60 := by have := h.len; omega
  have H := hid h
  have HP := hid hp
  have HNEW := hid hnew
  have HI := hid hi
  unfold maxLen at hcm
  clear h hl1 hg c2 hp c2' c3 hv c1 hw hp0 hp1 hk hnew c5
  go_enter Tryd.func8, Tryd.ntmps8
  go_wp2_with (first | (go_at_call 27; (with_reducible refine (HFP.out _ (by repeat (first | exact Ext.refl _ | assumption | refine Ext.more ?_ _ | refine Ext.drew ?_ | refine Ext.drewN ?_ _ | refine Ext.alloc ?_ _ | refine Ext.setCell ?_ (by simp; try omega) _ | refine Ext.trans ?_ (by assumption)))).yields ?_); intro q1) | (go_at_call 27; (with_reducible refine (HFI.out _ (by repeat (first | exact Ext.refl _ | assumption | refine Ext.more ?_ _ | refine Ext.drew ?_ | refine Ext.drewN ?_ _ | refine Ext.alloc ?_ _ | refine Ext.setCell ?_ (by simp; try omega) _ | refine Ext.trans ?_ (by assumption)))).yields ?_); intro q3) | (go_at_call 28; (with_reducible refine (isW_to HW.out _).yields ?_); intro q2))
  generalize hqq : (q1.then q2).then q3 = qq at *
  have hZx : Ext w ((more w qq).alloc (.cells #[.int .i64 id, .int .i64 wt, .bool true, .pointer (some ⟨W.nb p.id, 0, none⟩), .complex .f64 (Fz p.now) 0, .pointer none] 58 (0, 0))) := Ext.alloc (ext_more w qq) _
  have hZb := heap_alloc_new (more w qq) (.cells #[.int .i64 id, .int .i64 wt, .bool true, .pointer (some ⟨W.nb p.id, 0, none⟩), .complex .f64 (Fz p.now) 0, .pointer none] 58 (0, 0))
  rw [more_size] at hZb
  have hB : w.heap.size ≤ w.heap.size + qq.os.size := by omega
  generalize (more w qq).alloc (.cells #[.int .i64 id, .int .i64 wt, .bool true, .pointer (some ⟨W.nb p.id, 0, none⟩), .complex .f64 (Fz p.now) 0, .pointer none] 58 (0, 0)) = Z at *
  generalize w.heap.size + qq.os.size = B at *
  (with_reducible refine (HPL.out _ hZx).mono ?_)
  rintro e w2 ⟨rfl, hx2⟩
  have hb2 := block_ext' hx2 hZb
  have hxw2 := hZx.trans hx2
  have cx2 := hxw2.cell cx
  have fx2 := (H.out.pt.ext hxw2).xfree
  have hxl2 : x < w2.heap.size := Nat.lt_of_lt_of_le hxl hxw2.size
  clear hZx hZb hx2 m2 m4 hpl cx hxl hqq
  generalize hasU l id = hsu at *
  go_wp2_with fail
  have hnb := heap_alloc_new w2 (.cells #[.pointer (some ⟨B, 0, none⟩)] 53 (0, 0))
  have hx3 : Ext w (w2.alloc (.cells #[.pointer (some ⟨B, 0, none⟩)] 53 (0, 0))) := Ext.alloc hxw2 _
  have hb3 := block_ext' (Ext.alloc (Ext.refl w2) (.cells #[.pointer (some ⟨B, 0, none⟩)] 53 (0, 0))) hb2
  have hgne : w2.heap.size ≠ g := by have := hxw2.size; omega
  generalize w2.alloc (.cells #[.pointer (some ⟨B, 0, none⟩)] 53 (0, 0)) = w3 at *
  have hrow := (H.out.pt.ext hx3).row
  rw [HV.out] at hrow
  have HPT3 := hid (H.out.pt.ext hx3)
  (with_reducible refine (insert_any hrow (placeT_le l id) (by omega) hnb hgne (ptr_one _) (fun v hv => ?_) (Nat.le_trans hb0 hx3.size)).mono ?_)
  · unfold Wit.ptrs at hv
    obtain ⟨n, -, rfl⟩ := List.mem_map.1 hv
    rfl
  rintro e w4 ⟨g', c', rfl, hrow4, hg4, hloc⟩
  have cx4 : w4.cell? ⟨x, 0, none⟩ = some (.slice (some ⟨g, 0, none⟩) l.length cap) := by
    have : w4.heap[x]? = w3.heap[x]? := hg4.block x HPT3.out.lt (by
      have := owns_ne hrow HPT3.out.blk (by decide)
      exact Ne.symm this)
    simp [World.cell?, this, HPT3.out.blk, HV.out]
  have fx4 : w4.frozen? ⟨x, 0, none⟩ = false := by
    have : w4.heap[x]? = w3.heap[x]? := hg4.block x HPT3.out.lt (by
      have := owns_ne hrow HPT3.out.blk (by decide)
      exact Ne.symm this)
    simp [World.frozen?, this, HPT3.out.blk]
  have HFIN : Hid (∃ W', Pt base x W' (insT (newN l p.id id wt true) l) (w4.setCell ⟨x, 0, none⟩ (.slice (some ⟨g', 0, none⟩) (l.length + 1) c')) ∧ QOk W' (insT (newN l p.id id wt true) l) ∧ Fr (Own x W l) (Own x W' (insT (newN l p.id id wt true) l)) w (w4.setCell ⟨x, 0, none⟩ (.slice (some ⟨g', 0, none⟩) (l.length + 1) c'))) := by
    obtain ⟨r1, r2⟩ := H.out.pt.insert H.out.clo (newN l p.id id wt true) HNEW.out ⟨p, HP.out, rfl⟩ (B := B) (Qb := 0) hx3 hB (fun h => by cases h) (by simpa [newN, hnow.out, zero_Fz] using hb3) (fun h => by cases h) hb0 hrow4 (by rw [HV.out]; exact hg4) (fun k hk => by
      have e : g' = k := by simpa [Value.ownBlock] using hk
      subst e
      rcases hloc with e | e
      · left; rw [HV.out, e]; rfl
      · exact .inr e)
    exact ⟨_, r1, H.out.qok.insert H.out.clo (newN l p.id id wt true) (by show (0 : Int) ≤ id; have := HI.out; omega) HNEW.out rfl _ _ _, r2⟩
  clear hrow4 hg4 hloc hrow hnb hb3 hb2 cx2 fx2
  go_wp2
  go_returns
  exact ⟨rfl, HFIN.out⟩

set_option maxRecDepth 100000 in
set_option maxHeartbeats 4000000 in
theorem addP_grp (h : TOk base x W l w) (hb0 : base ≤ w.heap.size) (dn : Nat) (parent id wt : Int) (hd : dn ≤ 900) (hu : Up l dn parent) (hk : addC l dn parent id wt false = 0) :
    Calls Tryd.prog 8 #[.pointer (some ⟨x, 0, none⟩), .int .i64 parent, .int .i64 id, .int .i64 wt, .bool false] w fun e w' => e = .returned .nilIface ∧ ∃ W', Pt base x W' (insT (newN l parent id wt false) l) w' ∧ QOk W' (insT (newN l parent id wt false) l) ∧ Fr (Own x W l) (Own x W' (insT (newN l parent id wt false) l)) w w' := by
  have hl1 : l.length ≤ 1000 := by have := h.len; omega
  unfold addC at hk
  by_cases c1 : isW wt = false ∨ id ≤ 0
  · rw [if_pos c1] at hk; cases hk
  rw [if_neg c1] at hk
  by_cases c2 : grpU l parent = false
  · rw [if_pos c2] at hk; cases hk
  rw [if_neg c2] at hk
  by_cases c3 : hasU l id = true
  · rw [if_pos c3] at hk; cases hk
  rw [if_neg c3] at hk
  by_cases c4 : false = false ∧ 4 ≤ dn
  · rw [if_pos c4] at hk; cases hk
  rw [if_neg c4] at hk
  have c4' : ¬ (4 : Int) ≤ (dn : Int) := fun e => c4 ⟨rfl, by omega⟩
  by_cases c5 : 60 ≤ l.length
  · rw [if_pos c5] at hk; cases hk
  have hw : isW wt = true := by cases e : isW wt; · exact absurd (.inl e) c1
                                · rfl
  have hi : ¬ id ≤ 0 := fun e => c1 (.inr e)
  have HW := hid hw
  obtain ⟨p, hg⟩ : ∃ p, getU l parent = some p := by
    cases hg : getU l parent with
    | none => exact absurd (by simp [grpU, hg]) c2
    | some p => exact ⟨p, rfl⟩
  obtain ⟨hp, rfl⟩ := getU_mem hg
  have hnow : Hid (nowU l p.id = p.now) := nowU_of h.ids hp
  have hnew : getU l id = none := by
    cases e : getU l id with
    | none => rfl
    | some n => exact absurd (by simp [hasU, e]) c3
  have c2' : p.thr = false := by simpa [grpU, hg] using c2
  have HFP : Hid (∀ w', Ext w w' → Calls Tryd.prog 27 #[.pointer (some ⟨x, 0, none⟩), .int .i64 p.id] w' (Yields w' (.pointer (some ⟨W.nb p.id, 0, none⟩)))) := fun w' hx => find_yes (h.pt.ext hx) h.ids hl1 hp
  have HFI : Hid (∀ w', Ext w w' → Calls Tryd.prog 27 #[.pointer (some ⟨x, 0, none⟩), .int .i64 id] w' (Yields w' (.pointer none))) := fun w' hx => find_nil (h.pt.ext hx) h.ids hl1 hnew
  have HDP : Hid (∀ w', Ext w w' → Calls Tryd.prog 21 #[.pointer (some ⟨x, 0, none⟩), .int .i64 p.id] w' (Yields w' (.int .i64 dn))) := fun w' hx => deep_any (h.pt.ext hx) h.ids h.clo h.len _ dn (by omega) hu
  have HPL : Hid (∀ w', Ext w w' → Calls Tryd.prog 29 #[.pointer (some ⟨x, 0, none⟩), .int .i64 id] w' (Yields w' (.tuple #[.int .i64 (placeT l id), .bool (hasU l id)]))) := fun w' hx => place_at (h.pt.ext hx) h.ids hl1 _
  obtain ⟨-, -, m2, -, m4, -⟩ := h.pt.cells hp
  rw [c2'] at m2
  have hpl := h.pt.nlt hp
  have cx := h.pt.cell
  have hxl := h.pt.lt
  obtain ⟨pp, cap, hv, hcap, hcm, hp0, hp1⟩ := h.pt.shape
  obtain ⟨ad, rfl⟩ : ∃ a, pp = some a := by
    cases pp with
    | none => have e := (hp0 rfl).1; rw [e] at hp; cases hp
    | some a => exact ⟨a, rfl⟩
  obtain ⟨g, rfl, hgb, hgl⟩ := hp1 ad rfl
  have HV := hid hv
  rw [hv] at cx
  have c5' : ¬ (60 : Int) ≤ (l.length : Int) := by omega
  have hl60 : (l.length : Int) ≤ 60 := by have := h.len; omega
  have H := hid h
  have HP := hid hp
  have HNEW := hid hnew
  have HI := hid hi
  unfold maxLen at hcm
  clear h hl1 hg c2 hp c2' c3 hv c1 hw hp0 hp1 hk hnew c5 c4 hu
  go_enter Tryd.func8, Tryd.ntmps8
  go_wp2_with (first | (go_at_call 27; (with_reducible refine (HFP.out _ (by repeat (first | exact Ext.refl _ | assumption | refine Ext.more ?_ _ | refine Ext.drew ?_ | refine Ext.drewN ?_ _ | refine Ext.alloc ?_ _ | refine Ext.setCell ?_ (by simp; try omega) _ | refine Ext.trans ?_ (by assumption)))).yields ?_); intro q1) | (go_at_call 27; (with_reducible refine (HFI.out _ (by repeat (first | exact Ext.refl _ | assumption | refine Ext.more ?_ _ | refine Ext.drew ?_ | refine Ext.drewN ?_ _ | refine Ext.alloc ?_ _ | refine Ext.setCell ?_ (by simp; try omega) _ | refine Ext.trans ?_ (by assumption)))).yields ?_); intro q3) | (go_at_call 28; (with_reducible refine (isW_to HW.out _).yields ?_); intro q2) | (go_at_call 21; (with_reducible refine (HDP.out _ (by repeat (first | exact Ext.refl _ | assumption | refine Ext.more ?_ _ | refine Ext.drew ?_ | refine Ext.drewN ?_ _ | refine Ext.alloc ?_ _ | refine Ext.setCell ?_ (by simp; try omega) _ | refine Ext.trans ?_ (by assumption)))).yields ?_); intro q4))
  generalize hqq : ((q1.then q2).then q3).then q4 = qq at *
  have hZx : Ext w ((more w qq).alloc (.cells #[.int .i64 id, .int .i64 wt, .bool false, .pointer (some ⟨W.nb p.id, 0, none⟩), .complex .f64 (Fz p.now) 0, .pointer none] 58 (0, 0))) := Ext.alloc (ext_more w qq) _
  have hZb := heap_alloc_new (more w qq) (.cells #[.int .i64 id, .int .i64 wt, .bool false, .pointer (some ⟨W.nb p.id, 0, none⟩), .complex .f64 (Fz p.now) 0, .pointer none] 58 (0, 0))
  rw [more_size] at hZb
  have hB : w.heap.size ≤ w.heap.size + qq.os.size := by omega
  generalize (more w qq).alloc (.cells #[.int .i64 id, .int .i64 wt, .bool false, .pointer (some ⟨W.nb p.id, 0, none⟩), .complex .f64 (Fz p.now) 0, .pointer none] 58 (0, 0)) = Z at *
  generalize w.heap.size + qq.os.size = B at *
  (with_reducible refine (new_any 60 Z).mono ?_)
  rintro e w1 ⟨rfl, hI1, hx1⟩
  have hB1 := block_ext' hx1 hZb
  have hBl := lt_blk hZb
  have hQb : w.heap.size ≤ Z.heap.size := hZx.size
  have hxw1 := hZx.trans hx1
  have kB : w1.cell? ⟨B, 5, none⟩ = some (.pointer none) := by simp [World.cell?, hB1]
  have fB : w1.frozen? ⟨B, 5, none⟩ = false := by simp [World.frozen?, hB1]
  have hIQ : Hid (Ix base Z.heap.size (.slice none 0 0) 60 0 [] (w1.setCell ⟨B, 5, none⟩ (.pointer (some ⟨Z.heap.size, 0, none⟩)))) := by
    have hq : Ix base Z.heap.size (.slice none 0 0) 60 0 [] w1 := ⟨hI1.blk, Row.nil _ _⟩
    exact hq.keep (Below.heap_setCell _ _ _ _ (by show Z.heap.size ≠ B; omega)) fun g hg => by cases hg
  have hB2 : (w1.setCell ⟨B, 5, none⟩ (.pointer (some ⟨Z.heap.size, 0, none⟩))).heap[B]? = some (.cells #[.int .i64 id, .int .i64 wt, .bool false, .pointer (some ⟨W.nb p.id, 0, none⟩), .complex .f64 (Fz p.now) 0, .pointer (some ⟨Z.heap.size, 0, none⟩)] 58 (0, 0)) := by
    simpa using set_same hB1 5 (.pointer (some ⟨Z.heap.size, 0, none⟩))
  have hxs2 : Ext w (w1.setCell ⟨B, 5, none⟩ (.pointer (some ⟨Z.heap.size, 0, none⟩))) := hxw1.setCell (by exact hB) _
  have HB2 := hid hB2
  clear hI1 hx1 hZb hB1 hB2
  go_wp2_with fail
  generalize w1.setCell ⟨B, 5, none⟩ (.pointer (some ⟨Z.heap.size, 0, none⟩)) = Z2 at *
  (with_reducible refine (HPL.out _ hxs2).mono ?_)
  rintro e w2 ⟨rfl, hx2⟩
  have hb2 := block_ext' hx2 HB2.out
  have HIQ := hid (hIQ.out.ext hx2)
  have hxw2 := hxs2.trans hx2
  have cx2 := hxw2.cell cx
  have fx2 := (H.out.pt.ext hxw2).xfree
  have hxl2 : x < w2.heap.size := Nat.lt_of_lt_of_le hxl hxw2.size
  clear hZx hx2 m2 m4 hpl cx hxl hqq kB fB hIQ hxs2 HB2
  generalize hasU l id = hsu at *
  go_wp2_with fail
  have hnb := heap_alloc_new w2 (.cells #[.pointer (some ⟨B, 0, none⟩)] 53 (0, 0))
  have hx3 : Ext w (w2.alloc (.cells #[.pointer (some ⟨B, 0, none⟩)] 53 (0, 0))) := Ext.alloc hxw2 _
  have HIQ3 := hid (HIQ.out.ext (Ext.alloc (Ext.refl w2) (.cells #[.pointer (some ⟨B, 0, none⟩)] 53 (0, 0))))
  have hb3 := block_ext' (Ext.alloc (Ext.refl w2) (.cells #[.pointer (some ⟨B, 0, none⟩)] 53 (0, 0))) hb2
  have hgne : w2.heap.size ≠ g := by have := hxw2.size; omega
  generalize w2.alloc (.cells #[.pointer (some ⟨B, 0, none⟩)] 53 (0, 0)) = w3 at *
  have hrow := (H.out.pt.ext hx3).row
  rw [HV.out] at hrow
  have HPT3 := hid (H.out.pt.ext hx3)
  (with_reducible refine (insert_any hrow (placeT_le l id) (by omega) hnb hgne (ptr_one _) (fun v hv => ?_) (Nat.le_trans hb0 hx3.size)).mono ?_)
  · unfold Wit.ptrs at hv
    obtain ⟨n, -, rfl⟩ := List.mem_map.1 hv
    rfl
  rintro e w4 ⟨g', c', rfl, hrow4, hg4, hloc⟩
  have cx4 : w4.cell? ⟨x, 0, none⟩ = some (.slice (some ⟨g, 0, none⟩) l.length cap) := by
    have : w4.heap[x]? = w3.heap[x]? := hg4.block x HPT3.out.lt (by
      have := owns_ne hrow HPT3.out.blk (by decide)
      exact Ne.symm this)
    simp [World.cell?, this, HPT3.out.blk, HV.out]
  have fx4 : w4.frozen? ⟨x, 0, none⟩ = false := by
    have : w4.heap[x]? = w3.heap[x]? := hg4.block x HPT3.out.lt (by
      have := owns_ne hrow HPT3.out.blk (by decide)
      exact Ne.symm this)
    simp [World.frozen?, this, HPT3.out.blk]
  have HFIN : Hid (∃ W', Pt base x W' (insT (newN l p.id id wt false) l) (w4.setCell ⟨x, 0, none⟩ (.slice (some ⟨g', 0, none⟩) (l.length + 1) c')) ∧ QOk W' (insT (newN l p.id id wt false) l) ∧ Fr (Own x W l) (Own x W' (insT (newN l p.id id wt false) l)) w (w4.setCell ⟨x, 0, none⟩ (.slice (some ⟨g', 0, none⟩) (l.length + 1) c'))) := by
    obtain ⟨r1, r2⟩ := H.out.pt.insert H.out.clo (newN l p.id id wt false) HNEW.out ⟨p, HP.out, rfl⟩ (B := B) (Qb := Z.heap.size) hx3 hB (fun _ => hQb) (by simpa [newN, hnow.out, zero_Fz] using hb3) (fun _ => HIQ3.out) hb0 hrow4 (by rw [HV.out]; exact hg4) (fun k hk => by
      have e : g' = k := by simpa [Value.ownBlock] using hk
      subst e
      rcases hloc with e | e
      · left; rw [HV.out, e]; rfl
      · exact .inr e)
    exact ⟨_, r1, H.out.qok.insert H.out.clo (newN l p.id id wt false) (by show (0 : Int) ≤ id; have := HI.out; omega) HNEW.out rfl _ _ _, r2⟩
  clear hrow4 hg4 hloc hrow hnb hb3 hb2 cx2 fx2
  go_wp2
  go_returns
  exact ⟨rfl, HFIN.out⟩
end
end Go.Proofs.YtfccmdmfllicdaaDoor
