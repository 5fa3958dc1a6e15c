/- The program's own tree: who is in a group, whose turn it is. -/
import Derived.Test.YtfccmdmfllicdaaDoorPtC
import Derived.LaidEqlPtr
namespace Go.Proofs.YtfccmdmfllicdaaDoor
open Go.RowKit
set_option linter.unusedSimpArgs false

def kidsU (l : List Nd) (g : Int) : List Nd := l.filter fun n => n.par == g
theorem kids_snoc {l : List Nd} {k : Nat} (g : Int) (h : k < l.length) : kidsU (l.take (k + 1)) g = if l[k].par = g then kidsU (l.take k) g ++ [l[k]] else kidsU (l.take k) g := by
  unfold kidsU
  rw [List.take_succ_eq_append_getElem h, List.filter_append, List.filter_cons]
  by_cases e : l[k].par = g
  · simp [e]
  · simp [e]
theorem kids_le (l : List Nd) (g : Int) : (kidsU l g).length ≤ l.length := List.length_filter_le _ _

theorem infoNo : ∃ j, Tryd.prog.info? 58 = some j ∧ j.size ≠ 0 := by
  have h : (Tryd.prog.info? 58).map (·.size) = some 6 := by kernel_rfl
  obtain ⟨j, h1, h2⟩ := Option.map_eq_some_iff.1 h
  exact ⟨j, h1, by rw [h2]; decide⟩
theorem eqlP_same (a : Addr) (w : World) : (binOp .eql 53 (.pointer (some a)) (.pointer (some a))).run Tryd.prog w = .ok (.bool true) w := by
  obtain ⟨j, h1, -⟩ := infoNo
  exact run_eql_ptr_same w a Tryd.underlying53 h1
theorem eqlP_other {a b : Addr} {ca cb : Array Value} {ta tb : TypeId} {w : World} (hne : a ≠ b) (ha : w.heap[a.block]? = some (.cells ca ta (0, 0))) (hb : w.heap[b.block]? = some (.cells cb tb (0, 0))) :
    (binOp .eql 53 (.pointer (some a)) (.pointer (some b))).run Tryd.prog w = .ok (.bool false) w := by
  obtain ⟨j, h1, h2⟩ := infoNo
  exact run_eql_ptr_other w Tryd.underlying53 h1 h2 hne ha hb
theorem eqlP_nil (a : Addr) (w : World) : (binOp .eql 53 (.pointer none) (.pointer (some a))).run Tryd.prog w = .ok (.bool false) w := by
  have h : ∀ d : Nat, (Op.equalIn (d + 1) 53 (.pointer none) (.pointer (some a))).run Tryd.prog w = .ok false w := fun d => by
    simp [Op.equalIn, run_underlying Tryd.underlying53]
  simp only [binOp]
  simp [Op.equal, Op.maxDepth, h 9999]
section
variable {base x : Nat} {W : Wit} {l : List Nd} {w : World}
set_option maxRecDepth 100000 in
set_option maxHeartbeats 4000000 in
theorem within_any (h : Pt base x W l w) (hc : Clo l) (hl : l.length ≤ 60) {g : Nd} (hg : g ∈ l) :
    Calls Tryd.prog 33 #[.pointer (some ⟨x, 0, none⟩), .pointer (some ⟨W.nb g.id, 0, none⟩)] w fun e w' => ∃ v', e = .returned v' ∧ w'.ownsRow w.heap.size 53 1 v' (kidsU l g.id).length (W.ptrs (kidsU l g.id)) ∧ Ext w w' := by
  obtain ⟨p, cap, hv, hc1, hc2, hp0, hp1⟩ := h.shape
  unfold maxLen at hc2
  have H := hid h
  have HV := hid hv
  have HC := hid hc
  have HP := hid hp1
  have HN := hid hp0
  have HG := hid hg
  have hx := h.lt
  have c0 := h.cell
  rw [hv] at c0
  have hgl := h.nlt hg
  clear h hp0 hp1 hv hc hg
  go_enter Tryd.func33, Tryd.ntmps33
  go_wp2
  go_loopw [5, 13] (fun v5 v13 wr => Ext w wr ∧ ∃ k : Nat, v13 = .int .i64 k ∧ k ≤ l.length ∧ Hid (wr.ownsRow w.heap.size 53 1 v5 (kidsU (l.take k) g.id).length (W.ptrs (kidsU (l.take k) g.id)))) (fun _ v13 _ => (l.length - (intOf v13).toNat))
  case atStart => exact ⟨Ext.refl _, 0, rfl, Nat.zero_le _, World.ownsRow_nil _ _ _ _⟩
  case round =>
    obtain ⟨X, k, rfl, hk, hno⟩ := hrel
    by_cases hlt : k < l.length
    · obtain ⟨a, rfl⟩ : ∃ a, p = some a := by
        cases p with
        | none => exact absurd (HN.out rfl).1 (by intro e; rw [e] at hlt; simp at hlt)
        | some a => exact ⟨a, rfl⟩
      obtain ⟨gb, rfl, hgb, hgbl⟩ := HP.out a rfl
      have hn : l[k]? = some l[k] := List.getElem?_eq_getElem hlt
      have f0 := X.cell (H.out.ptr HV.out hn)
      have f3 := X.cell (H.out.cells (List.getElem_mem hlt)).2.2.2.1
      have HS := hid (kids_snoc g.id hlt)
      have hnm := List.getElem_mem hlt
      have i1 : (k : Int) < l.length := by omega
      have HX := hid X
      have hkl : (kidsU (l.take k) g.id).length ≤ 60 := Nat.le_trans (kids_le _ _) (by simp; omega)
      clear hn
      by_cases e : l[k].par = g.id
      · have h0 : ¬ l[k].par < 0 := by have := (HC.out g HG.out).1; omega
        rw [grp_up h0, e] at f3
        have HS2 : Hid (kidsU (l.take (k + 1)) g.id = kidsU (l.take k) g.id ++ [l[k]]) := by unfold Hid; rw [HS.out, if_pos e]
        clear hnm e h0 HS
        generalize l[k] = n at *
        have hsm := eqlP_same ⟨W.nb g.id, 0, none⟩
        have hk2 : ((kidsU (l.take k) g.id).length + 1) * 8 ≤ 140737488355328 := by omega
        have hk3 : (kidsU (l.take k) g.id).length + 1 ≤ maxLen := by unfold maxLen; omega
        go_wp2_with (at_builtin; refine wpList_push_own rfl (.tmp 23) (.tmp 25) 59 53 (.pointer none) 1 8 rfl Tryd.underlying59 infoPp rfl (by decide) hno.out (news := [.pointer (some ⟨W.nb n.id, 0, none⟩)]) rfl (by intro u hu; simp only [List.mem_cons, List.not_mem_nil, or_false] at hu; subst hu; rfl) hk3 hk2 HX.out.size rfl rfl rfl ?_; intro p1 c1 w3 ho1 hb1)
        go_roundw
        case rel => exact ⟨⟨Below.trans HX.out.below hb1⟩, k + 1, by go_num, by omega, by
          rw [HS2.out]
          unfold Wit.ptrs at ho1 ⊢
          rw [List.map_append, List.length_append]; exact ho1⟩
        case measure => simp [intOf]; omega
      · have HS2 : Hid (kidsU (l.take (k + 1)) g.id = kidsU (l.take k) g.id) := by unfold Hid; rw [HS.out, if_neg e]
        by_cases h0 : l[k].par < 0
        · rw [grp_top h0] at f3
          clear hnm e h0 HS
          generalize l[k] = n at *
          have hsm := eqlP_nil ⟨W.nb g.id, 0, none⟩
          go_wp2
          go_roundw
          case rel => exact ⟨X, k + 1, by go_num, by omega, by rw [HS2.out]; exact hno.out⟩
          case measure => simp [intOf]; omega
        · obtain ⟨q, hq, hqe, -⟩ := (HC.out _ hnm).2.2 (by omega)
          have hne : ¬ (W.nb l[k].par = W.nb g.id) := fun e2 => by
            rw [← hqe] at e2 e
            exact e (H.out.injN q hq g HG.out e2)
          have hsm : (binOp .eql 53 (.pointer (some ⟨W.nb l[k].par, 0, none⟩)) (.pointer (some ⟨W.nb g.id, 0, none⟩))).run Tryd.prog wr = .ok (.bool false) wr :=
            eqlP_other (fun e2 => hne (by injection e2)) (by rw [← hqe]; exact block_ext' X (H.out.node q hq).1) (block_ext' X (H.out.node g HG.out).1)
          rw [grp_up h0] at f3
          clear hnm e h0 HS hq hqe
          generalize l[k] = n at *
          go_wp2
          go_roundw
          case rel => exact ⟨X, k + 1, by go_num, by omega, by rw [HS2.out]; exact hno.out⟩
          case measure => simp [intOf]; omega
    · obtain rfl : k = l.length := by omega
      have hr := hno.out
      rw [List.take_length] at hr
      have HR := hid hr
      clear hr
      go_wp2
      go_returns
      exact ⟨_, rfl, HR.out, X⟩

set_option maxRecDepth 100000 in
set_option maxHeartbeats 2000000 in
theorem least_any (h : Pt base x W l w) (hq : QOk W l) (hs : Ids l) (hl : l.length ≤ 60) {g b : Nd} (hg : g ∈ l) (ht : g.thr = false) (hb : bestU l g.id = some b) :
    Calls Tryd.prog 44 #[.pointer (some ⟨x, 0, none⟩), .pointer (some ⟨W.nb g.id, 0, none⟩)] w (Yields w (.pointer (some ⟨W.nb b.id, 0, none⟩))) := by
  have hbm := (bestU_spec hs hb).1
  obtain ⟨e, r, he⟩ : ∃ e r, W.rw g.id = e :: r := by
    cases hw : W.rw g.id with
    | nil =>
      have := bestU_none.2 ((hq.nil hg ht).1 hw)
      rw [this] at hb; cases hb
    | cons e r => exact ⟨e, r, rfl⟩
  obtain ⟨b', hb', e2⟩ := hq.head hs hg ht he
  rw [hb] at hb'
  obtain rfl := Option.some.inj hb'
  have hix := (h.idx g hg ht).1
  rw [he, e2] at hix
  have HMIN : Hid (∀ w', Ext w w' → Calls Tryd.prog 69 #[.pointer (some ⟨W.qb g.id, 0, none⟩)] w' (Yields w' (.tuple #[.agg #[.int .i64 b.pass, .int .i64 b.id], .bool true]))) := fun w' hx => min_any _ _ _ _ _ _ (hix.ext hx)
  have HF : Hid (∀ w', Ext w w' → Calls Tryd.prog 27 #[.pointer (some ⟨x, 0, none⟩), .int .i64 b.id] w' (Yields w' (.pointer (some ⟨W.nb b.id, 0, none⟩)))) := fun w' hx => find_yes (h.ext hx) hs (by omega) hbm
  have c5 := (h.cells hg).2.2.2.2.2
  rw [que_of ht] at c5
  have hbl := h.nlt hg
  clear h hq hs hl hg ht hb hbm he hb' hix e2
  go_enter Tryd.func44, Tryd.ntmps44
  go_wp2_with (first | (go_at_call 69; (with_reducible refine (HMIN.out _ (by repeat (first | exact Ext.refl _ | assumption | refine Ext.more ?_ _ | refine Ext.drew ?_ | refine Ext.drewN ?_ _ | refine Ext.alloc ?_ _ | refine Ext.setCell ?_ (by simp; try omega) _ | refine Ext.trans ?_ (by assumption)))).yields ?_); intro q1) | (go_at_call 27; (with_reducible refine (HF.out _ (by repeat (first | exact Ext.refl _ | assumption | refine Ext.more ?_ _ | refine Ext.drew ?_ | refine Ext.drewN ?_ _ | refine Ext.alloc ?_ _ | refine Ext.setCell ?_ (by simp; try omega) _ | refine Ext.trans ?_ (by assumption)))).yields ?_); intro q1))
  go_returns
  exact ⟨rfl, (by repeat (first | exact Ext.refl _ | assumption | refine Ext.more ?_ _ | refine Ext.drew ?_ | refine Ext.drewN ?_ _ | refine Ext.alloc ?_ _ | refine Ext.setCell ?_ (by simp; try omega) _ | refine Ext.trans ?_ (by assumption)))⟩
end
end Go.Proofs.YtfccmdmfllicdaaDoor
