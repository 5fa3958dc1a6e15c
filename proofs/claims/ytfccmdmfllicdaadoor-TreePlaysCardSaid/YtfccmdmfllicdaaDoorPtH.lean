/- The program's own tree: the whole of Run. -/
import Derived.Test.YtfccmdmfllicdaaDoorPtG
namespace Go.Proofs.YtfccmdmfllicdaaDoor
open Go.RowKit
set_option linter.unusedSimpArgs false

theorem upR_has : ∀ {l : List Nd} (f : Nat) (id : Int) {n : Nd}, n ∈ l → ∃ m ∈ upR f l id, m.id = n.id
  | l, 0, id, n, h => ⟨n, h, rfl⟩
  | l, f + 1, id, n, h => by
    simp only [upR]
    split
    · exact ⟨n, h, rfl⟩
    · rename_i k _
      split
      · exact ⟨n, h, rfl⟩
      · split
        · obtain ⟨m, hm, e, -⟩ := reb_mem (l := l) k.par h
          obtain ⟨m2, hm2, e2⟩ := upR_has f k.par hm
          exact ⟨m2, hm2, e2.trans e⟩
        · exact upR_has f k.par h
section
variable {base x : Nat} {W : Wit} {l : List Nd} {w : World}
set_option maxRecDepth 100000 in
set_option maxHeartbeats 4000000 in
theorem runP_none (h : TOk base x W l w) {r : Nd} (hr : r ∈ l) (hr0 : r.id = 0) (hrd : r.rdy = false) :
    Calls Tryd.prog 16 #[.pointer (some ⟨x, 0, none⟩)] w (Yields w (.tuple #[.int .i64 0, .bool false])) := by
  have hl1 : l.length ≤ 1000 := by have := h.len; omega
  have HFP : Hid (∀ w', Ext w w' → Calls Tryd.prog 27 #[.pointer (some ⟨x, 0, none⟩), .int .i64 0] w' (Yields w' (.pointer (some ⟨W.nb r.id, 0, none⟩)))) := fun w' hx => by rw [← hr0]; exact find_yes (h.pt.ext hx) h.ids hl1 hr
  have HRD : Hid (∀ w', Ext w w' → Calls Tryd.prog 43 #[.pointer (some ⟨W.nb r.id, 0, none⟩)] w' (Yields w' (.bool false))) := fun w' hx => by rw [← hrd]; exact ready_all (h.pt.ext hx) h.qok h.ids h.clo h.rt h.len hr
  clear h hl1 hr hr0 hrd
  generalize W.nb r.id = b at *
  go_enter Tryd.func16, Tryd.ntmps16
  go_wp2_with fail
  refine wp_upm 0 (fun _ _ _ => False) rfl (fun _ _ _ h => h.elim) fun D hD => ?_
  clear hD
  go_wp2_with (first | (go_at_call 27; (with_reducible refine (HFP.out _ (by repeat (first | exact Ext.refl _ | assumption | refine Ext.more ?_ _ | refine Ext.drew ?_ | refine Ext.drewN ?_ _ | refine Ext.alloc ?_ _ | refine Ext.setCell ?_ (by simp; try omega) _ | refine Ext.trans ?_ (by assumption)))).yields ?_); intro q1) | (go_at_call 43; (with_reducible refine (HRD.out _ (by repeat (first | exact Ext.refl _ | assumption | refine Ext.more ?_ _ | refine Ext.drew ?_ | refine Ext.drewN ?_ _ | refine Ext.alloc ?_ _ | refine Ext.setCell ?_ (by simp; try omega) _ | refine Ext.trans ?_ (by assumption)))).yields ?_); intro q2))
  simp only [Exit.jump]
  exact bodyPost_ret (v := .tuple #[.int .i64 0, .bool false]) (by simp [results, Tryd.results16, go_sem]) rfl ⟨rfl, (by repeat (first | exact Ext.refl _ | assumption | refine Ext.more ?_ _ | refine Ext.drew ?_ | refine Ext.drewN ?_ _ | refine Ext.alloc ?_ _ | refine Ext.setCell ?_ (by simp; try omega) _ | refine Ext.trans ?_ (by assumption)))⟩

set_option maxRecDepth 100000 in
set_option maxHeartbeats 4000000 in
theorem runP_any (h : TOk base x W l w) (ha : Acy l) (hb : BdM 20000000 l) {F : Nat} (hF : 20000000 + F * 720720 ≤ 1099511627776) (hch : ∀ m ∈ l, Chain l F m.id) {r : Nd} (hr : r ∈ l) (hr0 : r.id = 0) (hrd : r.rdy = true) {R : Int × List Nd} (hR : runU F l 0 = some R) :
    Calls Tryd.prog 16 #[.pointer (some ⟨x, 0, none⟩)] w fun e w' => e = .returned (.tuple #[.int .i64 R.1, .bool true]) ∧ PGo base x W l (upR F R.2 R.1) w w' := by
  have hl1 : l.length ≤ 1000 := by have := h.len; omega
  have HFP : Hid (∀ w', Ext w w' → Calls Tryd.prog 27 #[.pointer (some ⟨x, 0, none⟩), .int .i64 0] w' (Yields w' (.pointer (some ⟨W.nb r.id, 0, none⟩)))) := fun w' hx => by rw [← hr0]; exact find_yes (h.pt.ext hx) h.ids hl1 hr
  have HRD : Hid (∀ w', Ext w w' → Calls Tryd.prog 43 #[.pointer (some ⟨W.nb r.id, 0, none⟩)] w' (Yields w' (.bool true))) := fun w' hx => by rw [← hrd]; exact ready_all (h.pt.ext hx) h.qok h.ids h.clo h.rt h.len hr
  have HJ : Hid (∀ w', Ext w w' → ∀ (u1 u2 u3 u5 u6 u7 u8 u9 u10 u11 u12 u13 u14 u15 u16 u17 u18 u19 u20 u21 u22 u23 u24 u25 u26 u27 u28 u29 u30 u31 u32 u33 u34 u35 u36 u37 u38 u39 u40 u41 u42 u43 u44 u45 u46 u47 u48 u49 u50 u51 u52 u53 u54 u55 u56 u57 u58 u59 u60 u61 u62 u63 : Value), RunJ base x W l w R F F ({ tmps := #[.pointer (some ⟨x, 0, none⟩), u1, u2, u3, .pointer (some ⟨W.nb r.id, 0, none⟩), u5, u6, u7, u8, u9, u10, u11, u12, u13, u14, u15, u16, u17, u18, u19, u20, u21, u22, u23, u24, u25, u26, u27, u28, u29, u30, u31, u32, u33, u34, u35, u36, u37, u38, u39, u40, u41, u42, u43, u44, u45, u46, u47, u48, u49, u50, u51, u52, u53, u54, u55, u56, u57, u58, u59, u60, u61, u62, u63], defers := [] }) w') := fun w' hx u1 u2 u3 u5 u6 u7 u8 u9 u10 u11 u12 u13 u14 u15 u16 u17 u18 u19 u20 u21 u22 u23 u24 u25 u26 u27 u28 u29 u30 u31 u32 u33 u34 u35 u36 u37 u38 u39 u40 u41 u42 u43 u44 u45 u46 u47 u48 u49 u50 u51 u52 u53 u54 u55 u56 u57 u58 u59 u60 u61 u62 u63 =>
    ⟨W, l, r, _, _, _, _, _, _, _, _, _, _, _, _, _, _, _, _, _, _, _, _, _, _, _, _, _, _, _, _, _, _, _, _, _, _, _, _, _, _, _, _, _, _, _, _, _, _, _, _, _, _, _, _, _, _, _, _, _, _, _, _, _, _, rfl, h.pt.ext hx, h.qok, h.ids, h.clo, ha, Nat.le_refl _, hb.mono (by omega), h.len, hr, hch, .of_ext hx, ⟨rfl, rfl, rfl⟩, by unfold Hid; rw [hr0]; exact hR⟩
  clear h hl1 hr hr0 hrd ha hb hch hR
  go_enter Tryd.func16, Tryd.ntmps16
  go_wp2_with fail
  refine wp_upm 0 (RunJ base x W l w R F) rfl ?_ ?_
  · clear HFP HRD HJ
    refine fun f a wc => ex_elim fun W1 => ex_elim fun lc => ex_elim fun n => ex_elim fun u1 => ex_elim fun u2 => ex_elim fun u3 => ex_elim fun u5 => ex_elim fun u6 => ex_elim fun u7 => ex_elim fun u8 => ex_elim fun u9 => ex_elim fun u10 => ex_elim fun u11 => ex_elim fun u12 => ex_elim fun u13 => ex_elim fun u14 => ex_elim fun u15 => ex_elim fun u16 => ex_elim fun u17 => ex_elim fun u18 => ex_elim fun u19 => ex_elim fun u20 => ex_elim fun u21 => ex_elim fun u22 => ex_elim fun u23 => ex_elim fun u24 => ex_elim fun u25 => ex_elim fun u26 => ex_elim fun u27 => ex_elim fun u28 => ex_elim fun u29 => ex_elim fun u30 => ex_elim fun u31 => ex_elim fun u32 => ex_elim fun u33 => ex_elim fun u34 => ex_elim fun u35 => ex_elim fun u36 => ex_elim fun u37 => ex_elim fun u38 => ex_elim fun u39 => ex_elim fun u40 => ex_elim fun u41 => ex_elim fun u42 => ex_elim fun u43 => ex_elim fun u44 => ex_elim fun u45 => ex_elim fun u46 => ex_elim fun u47 => ex_elim fun u48 => ex_elim fun u49 => ex_elim fun u50 => ex_elim fun u51 => ex_elim fun u52 => ex_elim fun u53 => ex_elim fun u54 => ex_elim fun u55 => ex_elim fun u56 => ex_elim fun u57 => ex_elim fun u58 => ex_elim fun u59 => ex_elim fun u60 => ex_elim fun u61 => ex_elim fun u62 => ex_elim fun u63 => ?_
    rintro ⟨rfl, h, hq, hs, hc, ha, hfF, hb, hl, hn, hch, hfr, hw, hR⟩
    have hR := hR.out
    obtain ⟨f, rfl⟩ : ∃ f', f = f' + 1 := by
      cases f with
      | zero => cases hR
      | succ f => exact ⟨f, rfl⟩
    cases ht : n.thr with
    | false => exact wp_seq (run_step hF _ _ _ _ _ _ _ _ _ _ _ _ _ _ _ _ _ _ _ _ _ _ _ _ _ _ _ _ _ _ _ _ _ _ _ _ _ _ _ _ _ _ _ _ _ _ _ _ _ _ _ _ _ _ _ _ _ _ _ _ _ _ h hq hs hc ha hfF hb hl hn hch hfr hw ht hR)
    | true =>
      rw [runU_thr hs hn ht] at hR
      obtain rfl := Option.some.inj hR
      have m2 := (h.cells hn).2.2.1
      rw [ht] at m2
      refine wp_seq (wp_meet (LeafM x (W1.nb n.id) wc) (run_leaf m2 _ _ _ _ _ _ _ _ _ _ _ _ _ _ _ _ _ _ _ _ _ _ _ _ _ _ _ _ _ _ _ _ _ _ _ _ _ _ _ _ _ _ _ _ _ _ _ _ _ _ _ _ _ _ _ _ _ _ _ _ _ _) ?_)
      refine fun a w2 => ex_elim fun u1 => ex_elim fun u2 => ex_elim fun u3 => ex_elim fun u5 => ex_elim fun u6 => ex_elim fun u7 => ex_elim fun u8 => ex_elim fun u9 => ex_elim fun u10 => ex_elim fun u11 => ex_elim fun u12 => ex_elim fun u13 => ex_elim fun u14 => ex_elim fun u15 => ex_elim fun u16 => ex_elim fun u17 => ex_elim fun u18 => ex_elim fun u19 => ex_elim fun u20 => ex_elim fun u21 => ex_elim fun u22 => ex_elim fun u23 => ex_elim fun u24 => ex_elim fun u25 => ex_elim fun u26 => ex_elim fun u27 => ex_elim fun u28 => ex_elim fun u29 => ex_elim fun u30 => ex_elim fun u31 => ex_elim fun u32 => ex_elim fun u33 => ex_elim fun u34 => ex_elim fun u35 => ex_elim fun u36 => ex_elim fun u37 => ex_elim fun u38 => ex_elim fun u39 => ex_elim fun u40 => ex_elim fun u41 => ex_elim fun u42 => ex_elim fun u43 => ex_elim fun u44 => ex_elim fun u45 => ex_elim fun u46 => ex_elim fun u47 => ex_elim fun u48 => ex_elim fun u49 => ex_elim fun u50 => ex_elim fun u51 => ex_elim fun u52 => ex_elim fun u53 => ex_elim fun u54 => ex_elim fun u55 => ex_elim fun u56 => ex_elim fun u57 => ex_elim fun u58 => ex_elim fun u59 => ex_elim fun u60 => ex_elim fun u61 => ex_elim fun u62 => ex_elim fun u63 => ?_
      rintro ⟨rfl, rfl⟩
      have hup := run_up h hq hs hc hb (by omega) hl hn F (hch n hn)
      refine wp_seq (wp_meet (UpM base x (W1.nb n.id) W1 lc (upR F lc n.id) w2) (hup _ _ _ _ _ _ _ _ _ _ _ _ _ _ _ _ _ _ _ _ _ _ _ _ _ _ _ _ _ _ _ _ _ _ _ _ _ _ _ _ _ _ _ _ _ _ _ _ _ _ _ _ _ _ _ _ _ _ _ _ _ _) ?_)
      refine fun a w3 => ex_elim fun u1 => ex_elim fun u2 => ex_elim fun u3 => ex_elim fun u5 => ex_elim fun u6 => ex_elim fun u7 => ex_elim fun u8 => ex_elim fun u9 => ex_elim fun u10 => ex_elim fun u11 => ex_elim fun u12 => ex_elim fun u13 => ex_elim fun u14 => ex_elim fun u15 => ex_elim fun u16 => ex_elim fun u17 => ex_elim fun u18 => ex_elim fun u19 => ex_elim fun u20 => ex_elim fun u21 => ex_elim fun u22 => ex_elim fun u23 => ex_elim fun u24 => ex_elim fun u25 => ex_elim fun u26 => ex_elim fun u27 => ex_elim fun u28 => ex_elim fun u29 => ex_elim fun u30 => ex_elim fun u31 => ex_elim fun u32 => ex_elim fun u33 => ex_elim fun u34 => ex_elim fun u35 => ex_elim fun u36 => ex_elim fun u37 => ex_elim fun u38 => ex_elim fun u39 => ex_elim fun u40 => ex_elim fun u41 => ex_elim fun u42 => ex_elim fun u43 => ex_elim fun u44 => ex_elim fun u45 => ex_elim fun u46 => ex_elim fun u47 => ex_elim fun u48 => ex_elim fun u49 => ex_elim fun u50 => ex_elim fun u51 => ex_elim fun u52 => ex_elim fun u53 => ex_elim fun u54 => ex_elim fun u55 => ex_elim fun u56 => ex_elim fun u57 => ex_elim fun u58 => ex_elim fun u59 => ex_elim fun u60 => ex_elim fun u61 => ex_elim fun u62 => ex_elim fun u63 => ?_
      rintro ⟨rfl, W3, b1, b2, b3, b4, b5, b6⟩
      have HE : Hid (PGo base x W l (upR F lc n.id) w w3) := ⟨W3, b1, b2, hfr.trans b3, b4.trans hw.1, b5.trans hw.2.1, b6.trans hw.2.2⟩
      obtain ⟨m, hm, em⟩ := upR_has F n.id hn
      have c0 := (b1.cells hm).1
      rw [em, b5] at c0
      have hgl := b1.nlt hm
      rw [em, b5] at hgl
      clear h hq hs hc ha hfF hb hl hn hch hfr hw ht m2 hup b1 b2 b3 b4 b5 b6 hm em
      go_wp2
      simp only [Exit.jump]
      exact bodyPost_ret (v := .tuple #[.int .i64 n.id, .bool true]) (by simp [results, Tryd.results16, go_sem]) rfl ⟨rfl, HE.out⟩
  · intro D hD
    have HD := hid hD
    clear hD
    have hbl : True := trivial
    generalize W.nb r.id = b at *
    go_wp2_with (first | (go_at_call 27; (with_reducible refine (HFP.out _ (by repeat (first | exact Ext.refl _ | assumption | refine Ext.more ?_ _ | refine Ext.drew ?_ | refine Ext.drewN ?_ _ | refine Ext.alloc ?_ _ | refine Ext.setCell ?_ (by simp; try omega) _ | refine Ext.trans ?_ (by assumption)))).yields ?_); intro q1) | (go_at_call 43; (with_reducible refine (HRD.out _ (by repeat (first | exact Ext.refl _ | assumption | refine Ext.more ?_ _ | refine Ext.drew ?_ | refine Ext.drewN ?_ _ | refine Ext.alloc ?_ _ | refine Ext.setCell ?_ (by simp; try omega) _ | refine Ext.trans ?_ (by assumption)))).yields ?_); intro q2))
    exact HD.out _ _ ⟨F, by apply HJ.out; exact (by repeat (first | exact Ext.refl _ | assumption | refine Ext.more ?_ _ | refine Ext.drew ?_ | refine Ext.drewN ?_ _ | refine Ext.alloc ?_ _ | refine Ext.setCell ?_ (by simp; try omega) _ | refine Ext.trans ?_ (by assumption)))⟩
end
end Go.Proofs.YtfccmdmfllicdaaDoor
