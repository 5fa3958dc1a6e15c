/- The program's own tree: a group's time counted from its now on. -/
import Derived.Test.YtfccmdmfllicdaaDoorPtD
namespace Go.Proofs.YtfccmdmfllicdaaDoor
open Go.RowKit
set_option linter.unusedSimpArgs false

set_option maxRecDepth 100000 in
theorem run_max_pos {P : Program} {d : Int} (h : d.natAbs < 2 ^ 53) (ts : Array TypeId) (t : TypeId) (w : World) : (Builtin.max_ ts t #[.float .f64 0, .float .f64 (Fz d)]).run P w = .ok (.float .f64 (Fz (max 0 d))) w := by
  have ho : FloatKind.f64.format.order (Fz 0) (Fz d) = some (compare 0 d) := order_Fz (by decide) h
  rw [zero_Fz] at ho
  have hn : (FloatKind.f64.decode 0).neg = false := by decide
  rcases Int.lt_trichotomy d 0 with hd | hd | hd
  · have hc : compare 0 d = .gt := by simp only [compare, compareOfLessAndEq]; rw [if_neg (by omega), if_neg (by omega)]
    rw [hc] at ho
    have hm : max 0 d = 0 := by omega
    rw [hm, zero_Fz]
    simp [Builtin.max_, Builtin.max2, ho]
  · subst hd
    have hc : compare (0 : Int) 0 = .eq := by decide
    rw [hc] at ho
    have hm : max (0 : Int) 0 = 0 := by decide
    rw [hm, zero_Fz] at *
    simp [Builtin.max_, Builtin.max2, ho, hn]
  · have hc : compare 0 d = .lt := by simp only [compare, compareOfLessAndEq]; rw [if_pos (by omega)]
    rw [hc] at ho
    have hm : max 0 d = d := by omega
    rw [hm]
    simp [Builtin.max_, Builtin.max2, ho]

def shF (now : Int) (n : Nd) : Nd := { n with pass := max 0 (n.pass - now) }
/-- Those of the ids counted anew. -/
def shK (ks : List Int) (now : Int) (l : List Nd) : List Nd := l.map fun n => if n.id ∈ ks then shF now n else n
theorem shK_nil (now : Int) (l : List Nd) : shK [] now l = l := by
  unfold shK
  simp
theorem shK_snoc {ks : List Int} {now : Int} {l : List Nd} (hs : Ids l) {n : Nd} (hn : n ∈ l) (hk : n.id ∉ ks) : upd n.id (movF (max 0 (n.pass - now))) (shK ks now l) = shK (ks ++ [n.id]) now l := by
  unfold upd shK
  rw [List.map_map]
  refine List.map_congr_left fun m hm => ?_
  simp only [Function.comp]
  by_cases e : m.id = n.id
  · obtain rfl := uniqU hs hm hn e
    rw [if_neg hk, if_pos rfl, if_pos (by simp)]
    rfl
  · by_cases h : m.id ∈ ks
    · rw [if_pos h, if_neg (show ¬ (shF now m).id = n.id from e), if_pos (by simp [h])]
    · rw [if_neg h, if_neg e, if_neg (by simp [h, e])]
theorem mem_shK {ks : List Int} {now : Int} {l : List Nd} {m : Nd} : m ∈ shK ks now l ↔ ∃ n ∈ l, m = if n.id ∈ ks then shF now n else n := by
  unfold shK
  rw [List.mem_map]
  exact ⟨fun ⟨n, h, e⟩ => ⟨n, h, e.symm⟩, fun ⟨n, h, e⟩ => ⟨n, h, e.symm⟩⟩
theorem shK_length (ks : List Int) (now : Int) (l : List Nd) : (shK ks now l).length = l.length := by simp [shK]
theorem shK_ids {ks : List Int} {now : Int} {l : List Nd} (hs : Ids l) : Ids (shK ks now l) := by
  unfold shK
  refine List.pairwise_map.2 (hs.imp fun {a b} hab => ?_)
  have : ∀ n : Nd, (if n.id ∈ ks then shF now n else n).id = n.id := fun n => by split <;> rfl
  rw [this, this]; exact hab
theorem shK_clo {ks : List Int} {now : Int} {l : List Nd} (hc : Clo l) : Clo (shK ks now l) := by
  intro n' hn'
  obtain ⟨n, hn, rfl⟩ := mem_shK.1 hn'
  have hi : ∀ m : Nd, (if m.id ∈ ks then shF now m else m).id = m.id := fun m => by split <;> rfl
  have ht : ∀ m : Nd, (if m.id ∈ ks then shF now m else m).thr = m.thr := fun m => by split <;> rfl
  have hp : ∀ m : Nd, (if m.id ∈ ks then shF now m else m).par = m.par := fun m => by split <;> rfl
  rw [hi, ht, hp]
  obtain ⟨h1, h2, h3⟩ := hc n hn
  refine ⟨h1, h2, fun h0 => ?_⟩
  obtain ⟨p, hp', e, t⟩ := h3 h0
  exact ⟨_, mem_shK.2 ⟨p, hp', rfl⟩, by rw [hi]; exact e, by rw [ht]; exact t⟩
theorem shK_bdd {ks : List Int} {now : Int} {l : List Nd} (hb : Bdd l) (h0 : 0 ≤ now) : Bdd (shK ks now l) := by
  intro n' hn'
  obtain ⟨n, hn, rfl⟩ := mem_shK.1 hn'
  have h := hb n hn
  split
  · simp only [shF]; omega
  · exact h
/-- A group's time counted from its now on. -/
def rebU (l : List Nd) (g : Int) : List Nd := upd g (nowF 0) (shK ((kidsU l g).map Nd.id) (nowU l g) l)
theorem nowF_same (p : Int) : ∀ n, (nowF p n).id = n.id ∧ (nowF p n).par = n.par ∧ (nowF p n).thr = n.thr := fun _ => ⟨rfl, rfl, rfl⟩

section
variable {base x : Nat} {W : Wit} {l : List Nd} {w : World}
set_option maxRecDepth 100000 in
set_option maxHeartbeats 4000000 in
theorem rebase_any (h : Pt base x W l w) (hq : QOk W l) (hs : Ids l) (hc : Clo l) (hb : Bdd l) (hl : l.length ≤ 60) {g : Nd} (hg : g ∈ l) :
    Calls Tryd.prog 47 #[.pointer (some ⟨x, 0, none⟩), .pointer (some ⟨W.nb g.id, 0, none⟩)] w fun e w' => e = .returned (.tuple #[]) ∧ PGo base x W l (rebU l g.id) w w' := by
  obtain ⟨ks, hks⟩ : ∃ ks, ks = kidsU l g.id := ⟨_, rfl⟩
  have hkm : ∀ n ∈ ks, n ∈ l ∧ n.par = g.id := fun n hn => by
    rw [hks] at hn
    have := List.mem_filter.1 hn
    exact ⟨this.1, by simpa using this.2⟩
  have hkn : ks.Pairwise (fun a b => a.id < b.id) := by rw [hks]; exact List.Pairwise.filter _ hs
  have hkl : ks.length ≤ 60 := by rw [hks]; exact Nat.le_trans (kids_le _ _) hl
  have hreb : rebU l g.id = upd g.id (nowF 0) (shK (ks.map Nd.id) g.now l) := by unfold rebU; rw [nowU_of hs hg, hks]
  have hwi := within_any h hc hl hg
  rw [← hks] at hwi
  have HWI := hid hwi
  have HREB := hid hreb
  have H := hid h
  have HQ := hid hq
  have HS := hid hs
  have HC := hid hc
  have HB := hid hb
  have HL := hid hl
  have HG := hid hg
  have HKM := hid hkm
  have HKN := hid hkn
  have hxl := h.lt
  clear h hq hs hc hb hl hg hkm hkn hks hwi hreb
  go_enter Tryd.func47, Tryd.ntmps47
  go_wp2_with fail
  (with_reducible refine HWI.out.mono ?_)
  rintro e w1 ⟨v', rfl, hrow, hx1⟩
  have HROW := hid hrow
  obtain ⟨p1, cap1, e1, hcp1, hcm1⟩ : ∃ p c, v' = .slice p ks.length c ∧ ks.length ≤ c ∧ c ≤ 9223372036854775807 := by
    rcases hrow.2 with ⟨e, h0⟩ | ⟨g', c, cur, e, e2, e3, e4, e5, _⟩
    · exact ⟨none, 0, by rw [e, h0], by omega, by omega⟩
    · exact ⟨_, c, e, e4, by unfold maxLen at e5; omega⟩
  subst e1
  clear HWI hrow
  go_wp2_with fail
  go_loopw [10] (fun v10 wr => ∃ k : Nat, v10 = .int .i64 k ∧ k ≤ ks.length ∧ Hid (∃ W1, Pt base x W1 (shK ((ks.take k).map Nd.id) g.now l) wr ∧ QOk W1 (shK ((ks.take k).map Nd.id) g.now l) ∧ Fr (Own x W l) (Own x W1 (shK ((ks.take k).map Nd.id) g.now l)) w wr ∧ (W1.v = W.v ∧ W1.nb = W.nb ∧ W1.qb = W.qb) ∧
      wr.ownsRow w.heap.size 53 1 (.slice p1 ks.length cap1) ks.length (W.ptrs ks) ∧ (∀ b, (Value.slice p1 ks.length cap1).ownBlock = some b → ¬ Own x W1 (shK ((ks.take k).map Nd.id) g.now l) b))) (fun v10 _ => (ks.length - (intOf v10).toNat))
  case atStart =>
    refine ⟨0, rfl, Nat.zero_le _, ?_⟩
    simp only [List.take_zero, List.map_nil, shK_nil]
    exact ⟨W, H.out.ext hx1, HQ.out, .of_ext hx1, ⟨rfl, rfl, rfl⟩, HROW.out, fun b hb ho => by
      have := (HROW.out.lt b hb).1
      have := (H.out.own_lt ho).2
      omega⟩
  case round =>
    obtain ⟨k, rfl, hk, hst⟩ := hrel
    obtain ⟨W1, hpt, hqo, hfr, hw, hro, hno⟩ := hst.out
    have HPT := hid hpt
    have HQO := hid hqo
    have HFR := hid hfr
    have HW := hid hw
    have HRO := hid hro
    have HNO := hid hno
    clear hpt hqo hfr hro hno hst
    by_cases hlt : k < ks.length
    · obtain ⟨gk, e1⟩ : ∃ gk, p1 = some ⟨gk, 0, none⟩ := by
        rcases HRO.out.2 with ⟨e, h0⟩ | ⟨g', c, cur, e, _⟩
        · omega
        · injection e with e1 _ _
          exact ⟨g', e1⟩
      subst e1
      have hn := HKM.out ks[k] (List.getElem_mem hlt)
      have hnot : ks[k].id ∉ (ks.take k).map Nd.id := fun hm => by
        obtain ⟨m, hm1, hm2⟩ := List.mem_map.1 hm
        obtain ⟨i, hi, rfl⟩ := List.mem_iff_getElem.1 hm1
        rw [List.length_take] at hi
        rw [List.getElem_take] at hm2
        have := List.pairwise_iff_getElem.1 HKN.out i k (by omega) hlt (by omega)
        omega
      have hnl : ks[k] ∈ shK ((ks.take k).map Nd.id) g.now l := mem_shK.2 ⟨ks[k], hn.1, by rw [if_neg hnot]⟩
      have hgl : ∃ g2 ∈ shK ((ks.take k).map Nd.id) g.now l, g2.id = g.id ∧ g2.now = g.now := ⟨_, mem_shK.2 ⟨g, HG.out, rfl⟩, by split <;> rfl, by split <;> rfl⟩
      obtain ⟨g2, hg2, eg2, en2⟩ := hgl
      have hb2 := shK_bdd (ks := (ks.take k).map Nd.id) HB.out (HB.out g HG.out).2.1
      have hsn := shK_snoc (now := g.now) HS.out hn.1 hnot
      have htk : (ks.take k).map Nd.id ++ [ks[k].id] = (ks.take (k + 1)).map Nd.id := by rw [List.take_succ_eq_append_getElem hlt, List.map_append]; rfl
      rw [htk] at hsn
      have hpar0 : 0 ≤ ks[k].par := by rw [hn.2]; exact (HC.out g HG.out).1
      have hbn := HB.out ks[k] hn.1
      have hbg := HB.out g HG.out
      have cm : wr.cell? ⟨gk, k, none⟩ = some (.pointer (some ⟨W.nb ks[k].id, 0, none⟩)) := by
        obtain ⟨-, hxl', -, -, cur, hcb, hcs, hcur⟩ := own_block HRO.out
        rw [cell_of_row _ _ _ _ _ (0, 0) hcb, hcur k hlt]
        exact ptrs_get (List.getElem?_eq_getElem hlt)
      have HAH : Hid (∀ w', Ext wr w' → Calls Tryd.prog 45 #[.pointer (some ⟨W.nb ks[k].id, 0, none⟩)] w' (Yields w' (.float .f64 (Fz (ks[k].pass - g.now))))) := fun w' hx => by
        have := ahead_at (HPT.out.ext hx) hb2 hnl hg2 (by rw [eg2, hn.2]) hpar0
        rwa [HW.out.2.1, en2] at this
      have HMV : Hid (∀ w', Ext wr w' → Calls Tryd.prog 38 #[.pointer (some ⟨W.nb ks[k].id, 0, none⟩), .int .i64 (max 0 (ks[k].pass - g.now))] w' fun e w'' => e = .returned (.tuple #[]) ∧ PGo base x W1 (shK ((ks.take k).map Nd.id) g.now l) (shK ((ks.take (k + 1)).map Nd.id) g.now l) w' w'') := fun w' hx => by
        have := move_any (HPT.out.ext hx) HQO.out (shK_ids HS.out) (shK_clo HC.out) (by rw [shK_length]; exact HL.out) hnl hpar0 (max 0 (ks[k].pass - g.now)) (by omega) (by omega)
        rwa [HW.out.2.1, hsn] at this
      have hmx := run_max_pos (P := Tryd.prog) (d := ks[k].pass - g.now) (by omega)
      have hcv := fun w => run_convert_float_int (P := Tryd.prog) w 71 3 .f64 .i64 (Fz (max 0 (ks[k].pass - g.now))) (max 0 (ks[k].pass - g.now)) (by kernel_rfl) Tryd.underlying3 (intVal_Fz (by omega))
      clear hn hnot hnl hg2 eg2 en2 hb2 hsn htk hpar0 hbn hbg
      generalize W.nb ks[k].id = b at *
      generalize max 0 (ks[k].pass - g.now) = mp at *
      generalize ks[k].pass - g.now = dd at *
      go_wp2_with (go_at_call 45; (with_reducible refine (HAH.out _ (by repeat (first | exact Ext.refl _ | assumption | refine Ext.more ?_ _ | refine Ext.drew ?_ | refine Ext.drewN ?_ _ | refine Ext.alloc ?_ _ | refine Ext.setCell ?_ (by simp; try omega) _ | refine Ext.trans ?_ (by assumption)))).yields ?_); intro q1)
      (with_reducible refine (HMV.out _ (ext_more _ _)).mono ?_)
      rintro e w3 ⟨rfl, hp⟩
      have HE : Hid (∃ W2, Pt base x W2 (shK ((ks.take (k + 1)).map Nd.id) g.now l) w3 ∧ QOk W2 (shK ((ks.take (k + 1)).map Nd.id) g.now l) ∧ Fr (Own x W l) (Own x W2 (shK ((ks.take (k + 1)).map Nd.id) g.now l)) w w3 ∧ (W2.v = W.v ∧ W2.nb = W.nb ∧ W2.qb = W.qb) ∧
          w3.ownsRow w.heap.size 53 1 (.slice (some ⟨gk, 0, none⟩) ks.length cap1) ks.length (W.ptrs ks) ∧ (∀ b, (Value.slice (some ⟨gk, 0, none⟩) ks.length cap1).ownBlock = some b → ¬ Own x W2 (shK ((ks.take (k + 1)).map Nd.id) g.now l) b)) := by
        obtain ⟨W2, a1, a2, a3, a4, a5, a6⟩ := hp
        have a3' := Fr.trans (.of_ext (ext_more wr q1)) a3
        refine ⟨W2, a1, a2, HFR.out.trans a3', ⟨a4.trans HW.out.1, a5.trans HW.out.2.1, a6.trans HW.out.2.2⟩, owns_keep HRO.out fun b hb => a3'.block b (HRO.out.lt b hb).2 (HNO.out b hb), fun b hb ho => ?_⟩
        rcases a3'.own b ho with h1 | h1
        · exact HNO.out b hb h1
        · have := (HRO.out.lt b hb).2; omega
      clear hp HMV HAH hmx hcv
      go_wp2
      go_roundw
      case rel => exact ⟨k + 1, by go_num, by omega, HE.out⟩
      case measure => simp [intOf]; omega
    · obtain rfl : k = ks.length := by omega
      rw [List.take_length] at HPT HQO HFR
      obtain ⟨g2, hg2, eg2⟩ : ∃ g2 ∈ shK (ks.map Nd.id) g.now l, g2.id = g.id := ⟨_, mem_shK.2 ⟨g, HG.out, rfl⟩, by split <;> rfl⟩
      have c4 := (HPT.out.cells hg2).2.2.2.2.1
      have fz := HPT.out.free hg2 4
      have hgl := HPT.out.nlt hg2
      have H2 := HPT.out.setAt hg2 (shK_ids HS.out) (nowF 0) fun _ => ⟨rfl, rfl, rfl, rfl⟩
      have HE : Hid (PGo base x W l (rebU l g.id) w (wr.setCell ⟨W.nb g.id, 4, none⟩ (.complex .f64 (Fz g2.pass) 0))) := by
        rw [eg2, HW.out.2.1, show (nowF 0 g2).pass = g2.pass from rfl, show (nowF 0 g2).now = 0 from rfl, zero_Fz] at H2
        rw [HREB.out]
        refine ⟨W1, H2, ?_, ?_, HW.out⟩
        · have := HQO.out.quiet (shK_ids HS.out) hg2 (nowF 0) (nowF_same 0) fun _ => ⟨rfl, fun _ => rfl⟩
          rwa [eg2] at this
        · refine fr_upd (nowF_same 0) (HFR.out.trans (Fr.set ?_ 4 _))
          exact .inr (.inr ⟨g2, hg2, .inl (by rw [eg2, HW.out.2.1])⟩)
      rw [eg2, HW.out.2.1] at c4 fz hgl
      clear H2 hg2 eg2 HPT HQO HFR HRO HNO
      generalize W.nb g.id = b at *
      go_wp2
      go_returns
      exact ⟨rfl, HE.out⟩
end
end Go.Proofs.YtfccmdmfllicdaaDoor
