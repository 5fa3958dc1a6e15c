/- What the statements' own check of scripts comes to. -/
import Derived.Test.YtbllibgddiiboaaScK
namespace Go.Proofs.Ytbllibgddiiboaa
open Go.RowKit

abbrev helpO (N S V : Nat) (h : Int) : Obj := .cells #[.int .i64 8, .int .i64 2, .slice (some ⟨N + 3, 0, none⟩) 2 2, .slice (some ⟨N + 13, 0, none⟩) 4 4, .int .i64 h, .slice (some ⟨S, 0, none⟩) 4 4, .slice (some ⟨V, 0, none⟩) 4 4] 30 (0, 0)
abbrev axnO (a b c : Int) : Obj := .cells #[.int .i64 a, .int .i64 b, .int .i64 c] 38 (0, 0)
theorem HelpS.putS {base N S V : Nat} {os : List RO} {ss vs : List Value} {w : World} (h : HelpS base N S V os ss vs w) (j : Nat) (u : Value) : HelpS base N S V os (ss.set j u) vs (w.setCell ⟨S, j, none⟩ u) :=
  ⟨h.lies.other u h.sn, by rw [blk_set h.sb j u]; simp, (Below.heap_setCell _ _ _ _ (by simp; exact h.sv.symm)).trans h.vb, h.hN, h.hS, h.hV, h.sv, h.sn, h.vn⟩
theorem HelpS.putV {base N S V : Nat} {os : List RO} {ss vs : List Value} {w : World} (h : HelpS base N S V os ss vs w) (j : Nat) (u : Value) : HelpS base N S V os ss (vs.set j u) (w.setCell ⟨V, j, none⟩ u) :=
  ⟨h.lies.other u h.vn, (Below.heap_setCell _ _ _ _ (by simp; exact h.sv)).trans h.sb, by rw [blk_set h.vb j u]; simp, h.hN, h.hS, h.hV, h.sv, h.sn, h.vn⟩
theorem heap_new3 (w : World) (o1 o2 o3 : Obj) : (((w.alloc o1).alloc o2).alloc o3).heap[w.heap.size + 2]? = some o3 := by
  have := heap_new2 (w.alloc o1) o2 o3
  rwa [World.size_alloc] at this
theorem heap_new2' (w : World) (p : Addr) (u : Value) (o1 o2 : Obj) : (((w.setCell p u).alloc o1).alloc o2).heap[w.heap.size]? = some o1 ∧ (((w.setCell p u).alloc o1).alloc o2).heap[w.heap.size + 1]? = some o2 := by
  have h1 := heap_alloc_new (w.setCell p u) o1
  have h2 := heap_new2 (w.setCell p u) o1 o2
  have e : (w.setCell p u).heap.size = w.heap.size := by simp [World.setCell]
  rw [e] at h1 h2
  exact ⟨block_ext (Ext.alloc (Ext.refl _) _) h1, h2⟩
abbrev arvO (a b : Int) : Obj := .cells #[.int .i64 a, .int .i64 b] 40 (0, 0)
theorem heap_new1' (w : World) (p : Addr) (u : Value) (o1 : Obj) : ((w.setCell p u).alloc o1).heap[w.heap.size]? = some o1 := by
  have h1 := heap_alloc_new (w.setCell p u) o1
  have e : (w.setCell p u).heap.size = w.heap.size := by simp [World.setCell]
  rwa [e] at h1
theorem kBytes {N S V : Nat} {w : World} (k : SV N S V 20 kS w) : Calls Try.prog 9 #[helpV N S V 20] w (Yields w (.string (str (allBytes kS)))) := by
  have := scrBytes_yes w kS _ _ _ _ k.v kS_is base_in (by have := kS_len; omega)
  rwa [k.val] at this
theorem is_errno_to' {n m : Int} {r : Bool} (e : (n == m) = r) (w : World) : Calls Try.prog 8 #[.iface 34 (.int .i64 n), .iface 34 (.int .i64 m)] w (Yields w (.bool r)) := e ▸ Err.is_errno n m w
theorem sIs {N S V : Nat} {h : Int} {s : Scr} {n : Nat} (e : isScr s = n) {w : World} (k : SV N S V h s w) : Calls Try.prog 7 #[helpV N S V h] w (Yields w (errV n)) := by
  have := scrIs_to e w _ _ _ _ k.v
  rwa [k.val] at this
theorem kIs0 {N S V : Nat} {w : World} (k : SV N S V 20 kS w) : Calls Try.prog 7 #[helpV N S V 20] w (Yields w .nilIface) := sIs kS_is k
theorem kIsU {N S V : Nat} {w : World} (k : SV N S V 20 kU w) : Calls Try.prog 7 #[helpV N S V 20] w (Yields w (.iface 34 (.int .i64 10))) := sIs kU_is k
theorem kIsV {N S V : Nat} {w : World} (k : SV N S V (-1) kV w) : Calls Try.prog 7 #[helpV N S V (-1)] w (Yields w (.iface 34 (.int .i64 12))) := sIs kV_is k
theorem kBytesV {N S V : Nat} {w : World} (k : SV N S V (-1) kV w) : Calls Try.prog 9 #[helpV N S V (-1)] w (Yields w (.string { data := #[] })) := by
  have := scrBytes_no w kV _ _ _ _ k.v (by rw [kV_is]; decide)
  rw [k.val] at this
  exact this
theorem kSameV {N S V N' S' V' : Nat} {w : World} (k : SV N S V 20 kS w) (k' : SV N' S' V' (-1) kV w) : Calls Try.prog 11 #[helpV N S V 20, helpV N' S' V' (-1)] w (Yields w (.bool false)) := by
  have := scrSame_to (r := false) (by decide) w _ _ _ _ _ _ _ _ k.v k'.v
  rwa [k.val, k'.val] at this
theorem kSameT {N S V cp cd cs ca : Nat} {pp pd ps pa : Option Addr} {w : World} (k : SV N S V 20 kS w) (k' : ScrV w kS (.slice pp 2 cp) (.slice pd 4 cd) (.slice ps 4 cs) (.slice pa 4 ca)) : Calls Try.prog 11 #[helpV N S V 20, .agg #[.int .i64 8, .int .i64 2, .slice pp 2 cp, .slice pd 4 cd, .int .i64 20, .slice ps 4 cs, .slice pa 4 ca]] w (Yields w (.bool true)) := by
  have := scrSame_to (sameS_self kS) w _ _ _ _ _ _ _ _ k.v k'
  rw [k.val] at this
  exact this
theorem kRead (w : World) : Calls Try.prog 10 #[.string (str (allBytes kS))] w (fun e w' => ∃ pp cp pd cd ps cs pa ca, e = .returned (.tuple #[.agg #[.int .i64 8, .int .i64 2, .slice pp 2 cp, .slice pd 4 cd, .int .i64 20, .slice ps 4 cs, .slice pa 4 ca], .nilIface]) ∧ ScrV w' kS (.slice pp 2 cp) (.slice pd 4 cd) (.slice ps 4 cs) (.slice pa 4 ca) ∧ Ext w w') := by
  have := read_ok w kS_ok
  rw [kS_read] at this
  exact this
theorem kNo (w : World) : Calls Try.prog 10 #[.string { data := #[] }] w (ReadBad w) := by
  exact read_no w no_ok
set_option maxRecDepth 100000 in
set_option maxHeartbeats 8000000 in
theorem known4_any (w : World) : Calls Try.prog 5 #[] w (Yields w (.bool true)) := by
  go_enter Try.func5, Try.ntmps5
  go_wp2_with fail
  refine (help_any _ 20).mono ?_
  rintro e w1 ⟨N1, S1, V1, rfl, h1, x1⟩
  have c1 := blk_cell h1.sb 1
  have f1 := blk_free h1.sb 1
  have b1 := lt_of_block h1.sb
  simp only [nil4, List.getElem?_toArray, List.getElem?_cons_zero, List.getElem?_cons_succ] at c1
  go_upto_region 3 with fail
  refine wp_forget (fun v => HelpS w.heap.size N1 S1 V1 baseRO [.slice none 0 0, .slice (some ⟨w1.heap.size + 1, 0, none⟩) 1 1, .slice none 0 0, .slice none 0 0] nil4 v ∧ v.heap[w1.heap.size]? = some (helpO N1 S1 V1 20) ∧ v.heap[w1.heap.size + 1]? = some (axnO 1 0 3) ∧ Ext w v)
    ⟨(h1.putS 1 _).ext (Ext.alloc (Ext.alloc (Ext.refl _) _) _), (heap_new2' w1 _ _ _ _).1, (heap_new2' w1 _ _ _ _).2, Ext.alloc (Ext.alloc (Ext.setCell x1 h1.hS _) _) _⟩ ?_
  rintro v2 ⟨h2, hA2, hL2, x2⟩
  clear c1 f1 b1 h1 x1
  generalize w1.heap.size = A1 at *
  clear w1
  have c2 := blk_cell h2.vb 2
  have f2 := blk_free h2.vb 2
  have b2 := lt_of_block h2.vb
  have b3 := lt_of_block hA2
  have k6 := blk_cell hA2 6
  simp only [nil4, List.getElem?_toArray, List.getElem?_cons_zero, List.getElem?_cons_succ] at c2 k6
  go_upto_region 4 with fail
  refine wp_forget (fun v => SV N1 S1 V1 20 kS v ∧ v.heap[A1]? = some (helpO N1 S1 V1 20) ∧ Ext w v) ⟨?_, ?_, Ext.alloc (Ext.setCell x2 h2.hV _) _⟩ ?_
  · have h3 := (h2.putV 2 (.slice (some ⟨v2.heap.size, 0, none⟩) 1 1)).ext (Ext.alloc (Ext.refl _) (arvO 3 1))
    have hn := heap_new1' v2 ⟨V1, 2, none⟩ (.slice (some ⟨v2.heap.size, 0, none⟩) 1 1) (arvO 3 1)
    have hl : ((v2.setCell ⟨V1, 2, none⟩ (.slice (some ⟨v2.heap.size, 0, none⟩) 1 1)).alloc (arvO 3 1)).heap[A1 + 1]? = some (axnO 1 0 3) := block_ext (Ext.alloc (Ext.refl _) _) ((Below.heap_setCell _ _ _ _ (fun e => by
      have h4 := h2.vb
      simp only at e
      rw [← e, hL2] at h4
      simp at h4)).trans hL2)
    refine h3.script baseC_of rfl rfl (fun i l hi => ?_) (fun i l hi => ?_)
    · match i, hi with
      | 0, hi => simp at hi; subst hi; exact ⟨_, rfl, axns_nil _⟩
      | 1, hi => simp at hi; subst hi; exact ⟨_, rfl, axns_one (x := ⟨1, 0, 3⟩) hl⟩
      | 2, hi => simp at hi; subst hi; exact ⟨_, rfl, axns_nil _⟩
      | 3, hi => simp at hi; subst hi; exact ⟨_, rfl, axns_nil _⟩
    · match i, hi with
      | 0, hi => simp at hi; subst hi; exact ⟨_, rfl, arvs_nil _⟩
      | 1, hi => simp at hi; subst hi; exact ⟨_, rfl, arvs_nil _⟩
      | 2, hi => simp at hi; subst hi; exact ⟨_, rfl, arvs_one (x := ⟨3, 1⟩) hn⟩
      | 3, hi => simp at hi; subst hi; exact ⟨_, rfl, arvs_nil _⟩
  · exact block_ext (Ext.alloc (Ext.refl _) _) ((Below.heap_setCell _ _ _ _ (fun e => by
      have h4 := h2.vb
      simp only at e
      rw [← e, hA2] at h4
      simp at h4)).trans hA2)
  clear c2 f2 b2 b3 k6 h2 hA2 hL2 x2
  rintro v3 ⟨hs, hA, hx⟩
  have HS := hid hs
  have HA := hid hA
  have HX := hid hx
  have k0 := blk_cell hA 0
  have k1 := blk_cell hA 1
  have k2 := blk_cell hA 2
  have k3 := blk_cell hA 3
  have k4 := blk_cell hA 4
  have k5 := blk_cell hA 5
  have k6 := blk_cell hA 6
  simp only [List.getElem?_toArray, List.getElem?_cons_zero, List.getElem?_cons_succ] at k0 k1 k2 k3 k4 k5 k6
  clear hs hA hx
  go_upto_region 5 with (go_at_call 9; refine (kBytes HS.out).yields ?_; intro p1)
  refine wp_forget (fun v => SV N1 S1 V1 20 kS v ∧ v.heap[A1]? = some (helpO N1 S1 V1 20) ∧ Ext w v) ⟨HS.out.ext (by repeat (first | exact Ext.refl _ | assumption | refine Ext.more ?_ _ | refine Ext.drew ?_ | refine Ext.drewN ?_ _ | refine Ext.alloc ?_ _ | refine Ext.setCell ?_ (by simp; try omega) _ | refine Ext.trans ?_ (by assumption))), block_ext (by repeat (first | exact Ext.refl _ | assumption | refine Ext.more ?_ _ | refine Ext.drew ?_ | refine Ext.drewN ?_ _ | refine Ext.alloc ?_ _ | refine Ext.setCell ?_ (by simp; try omega) _ | refine Ext.trans ?_ (by assumption))) HA.out, HX.out.trans (by repeat (first | exact Ext.refl _ | assumption | refine Ext.more ?_ _ | refine Ext.drew ?_ | refine Ext.drewN ?_ _ | refine Ext.alloc ?_ _ | refine Ext.setCell ?_ (by simp; try omega) _ | refine Ext.trans ?_ (by assumption)))⟩ ?_
  clear k0 k1 k2 k3 k4 k5 k6 HS HA HX
  clear p1
  rintro v4 ⟨hs, hA, hx⟩
  have HS := hid hs
  have HA := hid hA
  have HX := hid hx
  clear hs hA hx
  go_upto_region 6 with (go_at_call 10; refine (kRead _).mono ?_; rintro e v5 ⟨pp, cp, pd, cd, ps, cs, pa, ca, rfl, ht, hx5⟩; have HT := hid ht; have HX5 := hid hx5; clear ht hx5)
  refine wp_forget (fun v => SV N1 S1 V1 20 kS v ∧ v.heap[A1]? = some (helpO N1 S1 V1 20) ∧ Ext w v ∧ ScrV v kS (.slice pp 2 cp) (.slice pd 4 cd) (.slice ps 4 cs) (.slice pa 4 ca) ∧ v.heap[v5.heap.size]? = some (.cells #[.int .i64 8, .int .i64 2, .slice pp 2 cp, .slice pd 4 cd, .int .i64 20, .slice ps 4 cs, .slice pa 4 ca] 30 (0, 0))) ⟨(HS.out.ext HX5.out).ext (by repeat (first | exact Ext.refl _ | assumption | refine Ext.more ?_ _ | refine Ext.drew ?_ | refine Ext.drewN ?_ _ | refine Ext.alloc ?_ _ | refine Ext.setCell ?_ (by simp; try omega) _ | refine Ext.trans ?_ (by assumption))), block_ext (by repeat (first | exact Ext.refl _ | assumption | refine Ext.more ?_ _ | refine Ext.drew ?_ | refine Ext.drewN ?_ _ | refine Ext.alloc ?_ _ | refine Ext.setCell ?_ (by simp; try omega) _ | refine Ext.trans ?_ (by assumption))) (block_ext HX5.out HA.out), (HX.out.trans HX5.out).trans (by repeat (first | exact Ext.refl _ | assumption | refine Ext.more ?_ _ | refine Ext.drew ?_ | refine Ext.drewN ?_ _ | refine Ext.alloc ?_ _ | refine Ext.setCell ?_ (by simp; try omega) _ | refine Ext.trans ?_ (by assumption))), HT.out.ext (by repeat (first | exact Ext.refl _ | assumption | refine Ext.more ?_ _ | refine Ext.drew ?_ | refine Ext.drewN ?_ _ | refine Ext.alloc ?_ _ | refine Ext.setCell ?_ (by simp; try omega) _ | refine Ext.trans ?_ (by assumption))), heap_alloc_new v5 _⟩ ?_
  clear HS HA HX HT HX5
  generalize v5.heap.size = A3 at *
  rintro v6 ⟨hs, hA, hx, ht, hA3⟩
  have HS := hid hs
  have HA := hid hA
  have HX := hid hx
  have HT := hid ht
  have HA3 := hid hA3
  clear hs hA hx ht hA3
  go_upto_region 7 with (go_at_call 10; refine (kNo _).mono ?_; rintro e v7 ⟨n, hn, rfl, hx7⟩; have HNN := hid hn; have HX7 := hid hx7; clear hn hx7)
  refine wp_forget (fun v => Ext v6 v) (HX7.out.alloc _) ?_
  clear HX7
  rintro v8 hx8
  have HS' := hid (HS.out.ext hx8)
  have HA' := hid (block_ext hx8 HA.out)
  have HX' := hid (HX.out.trans hx8)
  have HT' := hid (HT.out.ext hx8)
  have HA3' := hid (block_ext hx8 HA3.out)
  clear HS HA HX HT HA3 hx8
  go_upto_region 8 with (go_at_call 6; refine (help_any _ 20).mono ?_; rintro e v9 ⟨N2, S2, V2, rfl, h9, x9⟩; have H9 := hid h9; have X9 := hid x9; clear h9 x9)
  refine wp_forget (fun v => HelpS v8.heap.size N2 S2 V2 baseRO nil4 nil4 v ∧ v.heap[v9.heap.size]? = some (helpO N2 S2 V2 20) ∧ Ext v8 v) ⟨H9.out.ext (by repeat (first | exact Ext.refl _ | assumption | refine Ext.more ?_ _ | refine Ext.drew ?_ | refine Ext.drewN ?_ _ | refine Ext.alloc ?_ _ | refine Ext.setCell ?_ (by simp; try omega) _ | refine Ext.trans ?_ (by assumption))), heap_alloc_new v9 _, X9.out.trans (by repeat (first | exact Ext.refl _ | assumption | refine Ext.more ?_ _ | refine Ext.drew ?_ | refine Ext.drewN ?_ _ | refine Ext.alloc ?_ _ | refine Ext.setCell ?_ (by simp; try omega) _ | refine Ext.trans ?_ (by assumption)))⟩ ?_
  clear H9 X9
  generalize v9.heap.size = A7 at *
  rintro va ⟨h2, hA7, x2⟩
  have c2 := blk_cell h2.vb 0
  have f2 := blk_free h2.vb 0
  have b2 := lt_of_block h2.vb
  have b3 := lt_of_block hA7
  have k6 := blk_cell hA7 6
  simp only [nil4, List.getElem?_toArray, List.getElem?_cons_zero, List.getElem?_cons_succ] at c2 k6
  have H2 := hid h2
  have HA7 := hid hA7
  have X2 := hid x2
  clear h2 hA7 x2
  go_upto_region 9 with fail
  refine wp_forget (fun v => SV N2 S2 V2 20 kU v ∧ v.heap[A7]? = some (helpO N2 S2 V2 20) ∧ Ext v8 v) ⟨?_, ?_, Ext.alloc (Ext.setCell X2.out H2.out.hV _) _⟩ ?_
  · have h3 := (H2.out.putV 0 (.slice (some ⟨va.heap.size, 0, none⟩) 2 2)).ext (Ext.alloc (Ext.refl _) (.cells #[.int .i64 3, .int .i64 0, .int .i64 2, .int .i64 0] 40 (0, 0)))
    have hn := heap_new1' va ⟨V2, 0, none⟩ (.slice (some ⟨va.heap.size, 0, none⟩) 2 2) (.cells #[.int .i64 3, .int .i64 0, .int .i64 2, .int .i64 0] 40 (0, 0))
    refine h3.script baseC_of rfl rfl (fun i l hi => ?_) (fun i l hi => ?_)
    · match i, hi with
      | 0, hi => simp at hi; subst hi; exact ⟨_, rfl, axns_nil _⟩
      | 1, hi => simp at hi; subst hi; exact ⟨_, rfl, axns_nil _⟩
      | 2, hi => simp at hi; subst hi; exact ⟨_, rfl, axns_nil _⟩
      | 3, hi => simp at hi; subst hi; exact ⟨_, rfl, axns_nil _⟩
    · match i, hi with
      | 0, hi => simp at hi; subst hi; exact ⟨_, rfl, arvs_two (x := ⟨3, 0⟩) (y := ⟨2, 0⟩) hn⟩
      | 1, hi => simp at hi; subst hi; exact ⟨_, rfl, arvs_nil _⟩
      | 2, hi => simp at hi; subst hi; exact ⟨_, rfl, arvs_nil _⟩
      | 3, hi => simp at hi; subst hi; exact ⟨_, rfl, arvs_nil _⟩
  · exact block_ext (Ext.alloc (Ext.refl _) _) ((Below.heap_setCell _ _ _ _ (fun e => by
      have h4 := H2.out.vb
      simp only at e
      rw [← e, HA7.out] at h4
      simp at h4)).trans HA7.out)
  clear c2 f2 b2 b3 k6 H2 HA7 X2
  rintro vb ⟨hu, hA7, hxb⟩
  have HU := hid hu
  have HA7 := hid hA7
  have HXB := hid hxb
  clear hu hA7 hxb
  go_upto_region 10 with (go_at_call 6; refine (help_any _ (-1)).mono ?_; rintro e vc ⟨N3, S3, V3, rfl, h9, x9⟩; have H9 := hid h9; have X9 := hid x9; clear h9 x9)
  refine wp_forget (fun v => HelpS vb.heap.size N3 S3 V3 baseRO nil4 nil4 v ∧ v.heap[vc.heap.size]? = some (helpO N3 S3 V3 (-1)) ∧ Ext vb v) ⟨H9.out.ext (by repeat (first | exact Ext.refl _ | assumption | refine Ext.more ?_ _ | refine Ext.drew ?_ | refine Ext.drewN ?_ _ | refine Ext.alloc ?_ _ | refine Ext.setCell ?_ (by simp; try omega) _ | refine Ext.trans ?_ (by assumption))), heap_alloc_new vc _, X9.out.trans (by repeat (first | exact Ext.refl _ | assumption | refine Ext.more ?_ _ | refine Ext.drew ?_ | refine Ext.drewN ?_ _ | refine Ext.alloc ?_ _ | refine Ext.setCell ?_ (by simp; try omega) _ | refine Ext.trans ?_ (by assumption)))⟩ ?_
  clear H9 X9
  generalize vc.heap.size = A8 at *
  rintro W ⟨h3, hA8, x3⟩
  have hV : SV N3 S3 V3 (-1) kV W := h3.script baseC_of rfl rfl (fun i l hi => by
      match i, hi with
      | 0, hi => simp at hi; subst hi; exact ⟨_, rfl, axns_nil _⟩
      | 1, hi => simp at hi; subst hi; exact ⟨_, rfl, axns_nil _⟩
      | 2, hi => simp at hi; subst hi; exact ⟨_, rfl, axns_nil _⟩
      | 3, hi => simp at hi; subst hi; exact ⟨_, rfl, axns_nil _⟩) (fun i l hi => by
      match i, hi with
      | 0, hi => simp at hi; subst hi; exact ⟨_, rfl, arvs_nil _⟩
      | 1, hi => simp at hi; subst hi; exact ⟨_, rfl, arvs_nil _⟩
      | 2, hi => simp at hi; subst hi; exact ⟨_, rfl, arvs_nil _⟩
      | 3, hi => simp at hi; subst hi; exact ⟨_, rfl, arvs_nil _⟩)
  have xb : Ext v8 W := HXB.out.trans x3
  have QS := hid (HS'.out.ext xb)
  have QT := hid (HT'.out.ext xb)
  have QU := hid (HU.out.ext x3)
  have QV := hid hV
  have QX := hid (HX'.out.trans xb)
  have hA := block_ext xb HA'.out
  have hA3 := block_ext xb HA3'.out
  have hA7 := block_ext x3 HA7.out
  have a0 := blk_cell hA 0
  have a1 := blk_cell hA 1
  have a2 := blk_cell hA 2
  have a3 := blk_cell hA 3
  have a4 := blk_cell hA 4
  have a5 := blk_cell hA 5
  have a6 := blk_cell hA 6
  have b0 := blk_cell hA3 0
  have b1 := blk_cell hA3 1
  have b2 := blk_cell hA3 2
  have b3 := blk_cell hA3 3
  have b4 := blk_cell hA3 4
  have b5 := blk_cell hA3 5
  have b6 := blk_cell hA3 6
  have c0 := blk_cell hA7 0
  have c1 := blk_cell hA7 1
  have c2 := blk_cell hA7 2
  have c3 := blk_cell hA7 3
  have c4 := blk_cell hA7 4
  have c5 := blk_cell hA7 5
  have c6 := blk_cell hA7 6
  have d0 := blk_cell hA8 0
  have d1 := blk_cell hA8 1
  have d2 := blk_cell hA8 2
  have d3 := blk_cell hA8 3
  have d4 := blk_cell hA8 4
  have d5 := blk_cell hA8 5
  have d6 := blk_cell hA8 6
  simp only [List.getElem?_toArray, List.getElem?_cons_zero, List.getElem?_cons_succ] at a0 a1 a2 a3 a4 a5 a6 b0 b1 b2 b3 b4 b5 b6 c0 c1 c2 c3 c4 c5 c6 d0 d1 d2 d3 d4 d5 d6
  have l1 := lt_of_block hA
  have l2 := lt_of_block hA3
  have l3 := lt_of_block hA7
  have l4 := lt_of_block hA8
  obtain ⟨tb, tof, hts, tv, t0, tn⟩ := QT.out.streams.at 1 (show 1 < kS.streams.length by decide)
  obtain ⟨tp, tc, rfl, -, -⟩ := tn.shape
  have hts' := hts
  subst hts'
  have t0' : W.cell? ⟨tb, tof + 1, none⟩ = some (.slice tp 1 tc) := t0
  have l5 := World.block_lt_of_cell? _ _ t0'
  have hl60 : (60 : Int) < ((allBytes kS).length : Int) := by have := kS_long; omega
  have hne := fun v w => run_neq_iface_nil (P := Try.prog) w 34 v Try.underlying33
  have hnn := fun w => run_neq_nil_nil' (P := Try.prog) w Try.underlying33
  have hee := fun v w => run_eql_iface_nil (P := Try.prog) w 34 v Try.underlying33
  have hen := fun w => run_eql_nil_nil' (P := Try.prog) w Try.underlying33
  clear hts t0 tn hA hA3 hA7 hA8 h3 x3 xb hV HS' HA' HT' HX' HA3' HU HA7 HXB
  go_wp2_with (first
    | (go_at_call 7; (with_reducible refine (kIs0 (QS.out.ext (by repeat (first | exact Ext.refl _ | assumption | refine Ext.more ?_ _ | refine Ext.drew ?_ | refine Ext.drewN ?_ _ | refine Ext.alloc ?_ _ | refine Ext.setCell ?_ (by simp; try omega) _ | refine Ext.trans ?_ (by assumption))))).yields ?_); intro p1)
    | (go_at_call 7; (with_reducible refine (kIsU (QU.out.ext (by repeat (first | exact Ext.refl _ | assumption | refine Ext.more ?_ _ | refine Ext.drew ?_ | refine Ext.drewN ?_ _ | refine Ext.alloc ?_ _ | refine Ext.setCell ?_ (by simp; try omega) _ | refine Ext.trans ?_ (by assumption))))).yields ?_); intro p2)
    | (go_at_call 7; (with_reducible refine (kIsV (QV.out.ext (by repeat (first | exact Ext.refl _ | assumption | refine Ext.more ?_ _ | refine Ext.drew ?_ | refine Ext.drewN ?_ _ | refine Ext.alloc ?_ _ | refine Ext.setCell ?_ (by simp; try omega) _ | refine Ext.trans ?_ (by assumption))))).yields ?_); intro p3)
    | (go_at_call 8; (with_reducible refine (is_errno_to' (r := true) rfl _).yields ?_); intro p4)
    | (go_at_call 11; (with_reducible refine (kSameT (QS.out.ext (by repeat (first | exact Ext.refl _ | assumption | refine Ext.more ?_ _ | refine Ext.drew ?_ | refine Ext.drewN ?_ _ | refine Ext.alloc ?_ _ | refine Ext.setCell ?_ (by simp; try omega) _ | refine Ext.trans ?_ (by assumption)))) (QT.out.ext (by repeat (first | exact Ext.refl _ | assumption | refine Ext.more ?_ _ | refine Ext.drew ?_ | refine Ext.drewN ?_ _ | refine Ext.alloc ?_ _ | refine Ext.setCell ?_ (by simp; try omega) _ | refine Ext.trans ?_ (by assumption))))).yields ?_); intro p5)
    | (go_at_call 9; (with_reducible refine (kBytesV (QV.out.ext (by repeat (first | exact Ext.refl _ | assumption | refine Ext.more ?_ _ | refine Ext.drew ?_ | refine Ext.drewN ?_ _ | refine Ext.alloc ?_ _ | refine Ext.setCell ?_ (by simp; try omega) _ | refine Ext.trans ?_ (by assumption))))).yields ?_); intro p6)
    | (go_at_call 11; (with_reducible refine (kSameV (QS.out.ext (by repeat (first | exact Ext.refl _ | assumption | refine Ext.more ?_ _ | refine Ext.drew ?_ | refine Ext.drewN ?_ _ | refine Ext.alloc ?_ _ | refine Ext.setCell ?_ (by simp; try omega) _ | refine Ext.trans ?_ (by assumption)))) (QV.out.ext (by repeat (first | exact Ext.refl _ | assumption | refine Ext.more ?_ _ | refine Ext.drew ?_ | refine Ext.drewN ?_ _ | refine Ext.alloc ?_ _ | refine Ext.setCell ?_ (by simp; try omega) _ | refine Ext.trans ?_ (by assumption))))).yields ?_); intro p7))
  go_returns
  exact ⟨rfl, QX.out.trans (by repeat (first | exact Ext.refl _ | assumption | refine Ext.more ?_ _ | refine Ext.drew ?_ | refine Ext.drewN ?_ _ | refine Ext.alloc ?_ _ | refine Ext.setCell ?_ (by simp; try omega) _ | refine Ext.trans ?_ (by assumption)))⟩
end Go.Proofs.Ytbllibgddiiboaa
