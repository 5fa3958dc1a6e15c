/- The document's own IsConf, Ticks, SameConf, as walks. -/
import Derived.Test.YtmpgeabfogcblaaGreatRefConf3
namespace Go.Proofs.YtmpgeabfogcblaaGreat
open Go.RowKit

theorem ris_to {a b : Int} {r : Bool} (e : isB a = r) (w : World) : Calls Tryz.prog 84 #[.agg #[.int .i64 a, .int .u64 b]] w (Yields w (.bool r)) := e ▸ ris_any a b w
theorem shares_to {c : Cnf} {r : Bool} (e : sharesB c = r) (w : World) (pv dv : Value) (h : ConfV w c pv dv) : Calls Tryz.prog 85 #[confV c pv dv] w (Yields w (.bool r)) := e ▸ shares_any w c pv dv h
theorem routes_to {c : Cnf} {i : Nat} (hi : i < c.doms.length) {r : Bool} (e : domB c i c.doms[i] = r) (w : World) (pv dv : Value) (h : ConfV w c pv dv) (hr : ∀ r ∈ c.doms[i].routes, r.length ≤ 300) :
    Calls Tryz.prog 86 #[confV c pv dv, .int .i64 i] w (Yields w (.bool r)) := e ▸ routes_any w c pv dv h i hi hr
theorem domsB_drop (c : Cnf) : ∀ (l : List Dom) (i : Nat), c.doms.drop i = l → domsB c i l = true ∨ ∃ k, ∃ hk : k < c.doms.length, i ≤ k ∧ domB c k c.doms[k] = false
  | [], _, _ => .inl rfl
  | d :: l, i, h => by
    have hi : i < c.doms.length := by
      rcases Nat.lt_or_ge i c.doms.length with h' | h'
      · exact h'
      · rw [List.drop_eq_nil_of_le h'] at h; cases h
    rw [List.drop_eq_getElem_cons hi] at h
    injection h with h1 h2
    subst h1
    cases hd : domB c i c.doms[i]
    · exact .inr ⟨i, hi, Nat.le_refl _, hd⟩
    · rcases domsB_drop c l (i + 1) h2 with h | ⟨k, hk, hik, hb⟩
      · exact .inl (by simp [domsB, hd, h])
      · exact .inr ⟨k, hk, by omega, hb⟩
theorem domsB_all (c : Cnf) : ∀ (l : List Dom) (i : Nat), c.doms.drop i = l → (∀ k (hk : k < c.doms.length), i ≤ k → domB c k c.doms[k] = true) → domsB c i l = true
  | l, i, h, ha => by
    rcases domsB_drop c l i h with h1 | ⟨k, hk, hik, hb⟩
    · exact h1
    · rw [ha k hk hik] at hb; cases hb
theorem domsB_bad (c : Cnf) : ∀ (l : List Dom) (i : Nat), c.doms.drop i = l → ∀ k (hk : k < c.doms.length), i ≤ k → domB c k c.doms[k] = false → domsB c i l = false
  | [], i, h, k, hk, hik, _ => by
    have := congrArg List.length h
    rw [List.length_drop] at this
    simp at this; omega
  | d :: l, i, h, k, hk, hik, hb => by
    have hi : i < c.doms.length := by omega
    rw [List.drop_eq_getElem_cons hi] at h
    injection h with h1 h2
    subst h1
    by_cases he : i = k
    · subst he; simp [domsB, hb]
    · simp [domsB, domsB_bad c l (i + 1) h2 k hk (by omega) hb]

set_option maxRecDepth 100000 in
set_option maxHeartbeats 8000000 in
theorem isConf_any (w : World) (c : Cnf) (pv dv : Value) (hc : ConfV w c pv dv) (hr : ∀ d ∈ c.doms, ∀ r ∈ d.routes, r.length ≤ 300) :
    Calls Tryz.prog 49 #[confV c pv dv] w (Yields w (.int .i64 (isConf c))) := by
  obtain ⟨pp, cp, rfl, hp1, hp2⟩ := hc.plans.shape
  obtain ⟨pd, cd, rfl, hd1, hd2⟩ := hc.doms.shape
  unfold maxLen at hp2 hd2
  have HC := hid hc
  have HR := hid hr
  clear hc hr
  go_enter Tryz.func49, Tryz.ntmps49
  cases hf1 : withB c.frame 1 64
  · have H1 := hid hf1
    clear hf1
    go_wp2_with (go_at_call 50; (with_reducible refine (within_to H1.out _).yields ?_); intro p1)
    go_returns
    exact ⟨by simp [isConf, formB, H1.out], (by repeat (first | exact Ext.refl _ | assumption | refine Ext.more ?_ _ | refine Ext.drew ?_ | refine Ext.drewN ?_ _ | refine Ext.alloc ?_ _ | refine Ext.setCell ?_ (by simp; try omega) _ | refine Ext.trans ?_ (by assumption)))⟩
  have H1 := hid hf1
  clear hf1
  cases hf2 : withB c.epoch 1 8
  · have H2 := hid hf2
    clear hf2
    go_wp2_with (first | (go_at_call 50; (with_reducible refine (within_to H1.out _).yields ?_); intro p1) | (go_at_call 50; (with_reducible refine (within_to H2.out _).yields ?_); intro p2))
    go_returns
    exact ⟨by simp [isConf, formB, H2.out], (by repeat (first | exact Ext.refl _ | assumption | refine Ext.more ?_ _ | refine Ext.drew ?_ | refine Ext.drewN ?_ _ | refine Ext.alloc ?_ _ | refine Ext.setCell ?_ (by simp; try omega) _ | refine Ext.trans ?_ (by assumption)))⟩
  have H2 := hid hf2
  clear hf2
  cases hf3 : withB c.doms.length 1 6
  · have H3 := hid hf3
    clear hf3
    go_wp2_with (first | (go_at_call 50; (with_reducible refine (within_to H1.out _).yields ?_); intro p1) | (go_at_call 50; (with_reducible refine (within_to H2.out _).yields ?_); intro p2) | (go_at_call 50; (with_reducible refine (within_to H3.out _).yields ?_); intro p3))
    go_returns
    exact ⟨by simp [isConf, formB, H3.out], (by repeat (first | exact Ext.refl _ | assumption | refine Ext.more ?_ _ | refine Ext.drew ?_ | refine Ext.drewN ?_ _ | refine Ext.alloc ?_ _ | refine Ext.setCell ?_ (by simp; try omega) _ | refine Ext.trans ?_ (by assumption)))⟩
  have H3 := hid hf3
  clear hf3
  go_wp2_with (first | (go_at_call 50; (with_reducible refine (within_to H1.out _).yields ?_); intro p1) | (go_at_call 50; (with_reducible refine (within_to H2.out _).yields ?_); intro p2) | (go_at_call 50; (with_reducible refine (within_to H3.out _).yields ?_); intro p3))
  have hbx := fun (w' : World) (h : Ext (w.alloc (.cells #[.int .i64 c.frame, .int .i64 c.epoch, .slice pp c.plans.length cp, .slice pd c.doms.length cd] 26 (0, 0))) w') =>
    And.intro (box_cells h 0 (by simp)) (And.intro (box_cells h 1 (by simp)) (And.intro (box_cells h 2 (by simp)) (box_cells h 3 (by simp))))
  have hx0 : Ext w (w.alloc (.cells #[.int .i64 c.frame, .int .i64 c.epoch, .slice pp c.plans.length cp, .slice pd c.doms.length cd] 26 (0, 0))) := Ext.alloc (Ext.refl _) _
  generalize w.alloc (.cells #[.int .i64 c.frame, .int .i64 c.epoch, .slice pp c.plans.length cp, .slice pd c.doms.length cd] 26 (0, 0)) = W1 at *
  simp only [List.getElem?_toArray, List.getElem?_cons_succ, List.getElem?_cons_zero] at hbx
  have HBX := hid hbx
  clear hbx
  go_loopw [4] (fun v4 wr => Ext W1 wr ∧ ∃ k : Nat, v4 = .int .i64 k ∧ k ≤ c.doms.length ∧ Hid ((c.doms.take k).all (fun d => isB d.level) = true)) (fun v4 _ => (c.doms.length - intOf v4).toNat)
  case atStart => exact ⟨(by repeat (first | exact Ext.refl _ | refine Ext.more ?_ _)), 0, rfl, by omega, rfl⟩
  case round =>
    obtain ⟨hx, k, rfl, hk, ht⟩ := hrel
    obtain ⟨b0, b1, b2, b3⟩ := HBX.out _ hx
    by_cases hlt : k < c.doms.length
    · obtain ⟨db, doff, rfl, vr, ve, ⟨d0, d1, _⟩, _⟩ := HC.out.doms.at k hlt
      have hgood := hid (fun (h : isB c.doms[k].level = true) => (all_take c.doms (fun d => isB d.level) k hlt ht.out).trans h)
      have hbad := hid (all_bad c.doms (fun d => isB d.level) k hlt)
      have f0 := (hx0.trans hx).cell d0
      have f1 := (hx0.trans hx).cell d1
      clear d0 d1
      generalize c.doms[k] = d at *
      have i1 : (k : Int) < c.doms.length := by omega
      cases hl : isB d.level
      · have HL := hid hl
        clear hl
        go_wp2_with (go_at_call 84; refine (ris_to HL.out _).yields ?_; intro p4)
        go_returns
        exact ⟨by simp [isConf, formB, hbad.out HL.out], (hx0.trans hx).more _⟩
      · have HL := hid hl
        clear hl
        go_wp2_with (go_at_call 84; refine (ris_to HL.out _).yields ?_; intro p4)
        go_roundw
        case rel => exact ⟨hx.more _, k + 1, by go_num, by omega, hid (hgood.out HL.out)⟩
        case measure => simp [intOf]; omega
    · obtain rfl : k = c.doms.length := by omega
      have HF : Hid (formB c = true) := by
        have h1 := ht.out
        rw [List.take_length] at h1
        simp [Hid, formB, H1.out, H2.out, H3.out, h1]
      clear ht
      have hsv := hid (HC.out.ext (hx0.trans hx))
      cases hs : sharesB c
      · have HSH := hid hs
        clear hs
        go_wp2_with (go_at_call 85; refine (shares_to HSH.out _ _ _ hsv.out).yields ?_; intro p4)
        go_returns
        exact ⟨by simp [isConf, HF.out, HSH.out], (hx0.trans hx).more _⟩
      · have HSH := hid hs
        clear hs
        go_wp2_with (go_at_call 85; refine (shares_to HSH.out _ _ _ hsv.out).yields ?_; intro p4)
        have hx' : Ext W1 (more wr p4) := hx.more _
        clear b0 b1 b2 b3 hsv hx
        go_loopw [5] (fun v5 wr => Ext W1 wr ∧ ∃ k : Nat, v5 = .int .i64 k ∧ k ≤ c.doms.length ∧ Hid ((c.doms.take k).all quotaB = true)) (fun v5 _ => (c.doms.length - intOf v5).toNat)
        case atStart => exact ⟨hx', 0, rfl, by omega, rfl⟩
        case round =>
          obtain ⟨hx, k, rfl, hk, ht⟩ := hrel
          obtain ⟨b0, b1, b2, b3⟩ := HBX.out _ hx
          by_cases hlt : k < c.doms.length
          · obtain ⟨db, doff, rfl, vr, ve, D, DR, DE, _⟩ := HC.out.doms.at k hlt
            obtain ⟨rp, rc, rfl, -, -⟩ := DR.shape
            obtain ⟨ep, ec, rfl, -, -⟩ := DE.shape
            clear DR DE
            have hgood := hid (fun (h : quotaB c.doms[k] = true) => (all_take c.doms quotaB k hlt ht.out).trans h)
            have hbad := hid (all_bad c.doms quotaB k hlt)
            obtain ⟨d0, d1, d2, d3, d4, d5, d6, d7, d8, d9⟩ := D.ext (hx0.trans hx)
            have hdb : db < wr.heap.size := World.block_lt_of_cell? _ _ d0
            clear D
            generalize c.doms[k] = d at *
            have i1 : (k : Int) < c.doms.length := by omega
            cases hq0 : withB d.threads 1 8
            · have Q0 := hid hq0
              clear hq0
              go_wp2_with (first | (go_at_call 50; (with_reducible refine (within_to Q0.out _).yields ?_); intro p0))
              go_returns
              refine ⟨?_, by repeat (first | exact hx0.trans hx | refine Ext.more ?_ _ | refine Ext.alloc ?_ _)⟩
              have h1 : quotaB d = false := by simp [quotaB, Q0.out]
              simp [isConf, HF.out, HSH.out, hbad.out h1]
            have Q0 := hid hq0
            clear hq0
            cases hq1 : withB d.groups 0 4
            · have Q1 := hid hq1
              clear hq1
              go_wp2_with (first | (go_at_call 50; (with_reducible refine (within_to Q0.out _).yields ?_); intro p0) | (go_at_call 50; (with_reducible refine (within_to Q1.out _).yields ?_); intro p1))
              go_returns
              refine ⟨?_, by repeat (first | exact hx0.trans hx | refine Ext.more ?_ _ | refine Ext.alloc ?_ _)⟩
              have h1 : quotaB d = false := by simp [quotaB, Q0.out, Q1.out]
              simp [isConf, HF.out, HSH.out, hbad.out h1]
            have Q1 := hid hq1
            clear hq1
            cases hq2 : withB d.ring 1 16
            · have Q2 := hid hq2
              clear hq2
              go_wp2_with (first | (go_at_call 50; (with_reducible refine (within_to Q0.out _).yields ?_); intro p0) | (go_at_call 50; (with_reducible refine (within_to Q1.out _).yields ?_); intro p1) | (go_at_call 50; (with_reducible refine (within_to Q2.out _).yields ?_); intro p2))
              go_returns
              refine ⟨?_, by repeat (first | exact hx0.trans hx | refine Ext.more ?_ _ | refine Ext.alloc ?_ _)⟩
              have h1 : quotaB d = false := by simp [quotaB, Q0.out, Q1.out, Q2.out]
              simp [isConf, HF.out, HSH.out, hbad.out h1]
            have Q2 := hid hq2
            clear hq2
            cases hq3 : withB d.sends 0 8
            · have Q3 := hid hq3
              clear hq3
              go_wp2_with (first | (go_at_call 50; (with_reducible refine (within_to Q0.out _).yields ?_); intro p0) | (go_at_call 50; (with_reducible refine (within_to Q1.out _).yields ?_); intro p1) | (go_at_call 50; (with_reducible refine (within_to Q2.out _).yields ?_); intro p2) | (go_at_call 50; (with_reducible refine (within_to Q3.out _).yields ?_); intro p3))
              go_returns
              refine ⟨?_, by repeat (first | exact hx0.trans hx | refine Ext.more ?_ _ | refine Ext.alloc ?_ _)⟩
              have h1 : quotaB d = false := by simp [quotaB, Q0.out, Q1.out, Q2.out, Q3.out]
              simp [isConf, HF.out, HSH.out, hbad.out h1]
            have Q3 := hid hq3
            clear hq3
            cases hq4 : withB d.box 1 8
            · have Q4 := hid hq4
              clear hq4
              go_wp2_with (first | (go_at_call 50; (with_reducible refine (within_to Q0.out _).yields ?_); intro p0) | (go_at_call 50; (with_reducible refine (within_to Q1.out _).yields ?_); intro p1) | (go_at_call 50; (with_reducible refine (within_to Q2.out _).yields ?_); intro p2) | (go_at_call 50; (with_reducible refine (within_to Q3.out _).yields ?_); intro p3) | (go_at_call 50; (with_reducible refine (within_to Q4.out _).yields ?_); intro p4))
              go_returns
              refine ⟨?_, by repeat (first | exact hx0.trans hx | refine Ext.more ?_ _ | refine Ext.alloc ?_ _)⟩
              have h1 : quotaB d = false := by simp [quotaB, Q0.out, Q1.out, Q2.out, Q3.out, Q4.out]
              simp [isConf, HF.out, HSH.out, hbad.out h1]
            have Q4 := hid hq4
            clear hq4
            go_wp2_with (first | (go_at_call 50; (with_reducible refine (within_to Q0.out _).yields ?_); intro p0) | (go_at_call 50; (with_reducible refine (within_to Q1.out _).yields ?_); intro p1) | (go_at_call 50; (with_reducible refine (within_to Q2.out _).yields ?_); intro p2) | (go_at_call 50; (with_reducible refine (within_to Q3.out _).yields ?_); intro p3) | (go_at_call 50; (with_reducible refine (within_to Q4.out _).yields ?_); intro p4))
            go_roundw
            case rel => exact ⟨by repeat (first | exact hx | refine Ext.more ?_ _ | refine Ext.alloc ?_ _), k + 1, by go_num, by omega, hid (hgood.out (by simp [quotaB, Q0.out, Q1.out, Q2.out, Q3.out, Q4.out]))⟩
            case measure => simp [intOf]; omega
          · obtain rfl : k = c.doms.length := by omega
            have HQ : Hid (c.doms.all quotaB = true) := by
              have h1 := ht.out
              rwa [List.take_length] at h1
            clear ht
            go_wp2_with fail
            go_loopw [7] (fun v7 wr => Ext W1 wr ∧ ∃ k : Nat, v7 = .int .i64 k ∧ k ≤ c.doms.length ∧ Hid (∀ j (hj : j < c.doms.length), j < k → domB c j c.doms[j] = true)) (fun v7 _ => (c.doms.length - intOf v7).toNat)
            case atStart => exact ⟨hx, 0, rfl, by omega, fun j hj h => by omega⟩
            case round =>
              obtain ⟨hx, k, rfl, hk, ht⟩ := hrel
              obtain ⟨b0, b1, b2, b3⟩ := HBX.out _ hx
              by_cases hlt : k < c.doms.length
              · have hsv := hid (HC.out.ext (hx0.trans hx))
                have hrr := hid (HR.out _ (List.getElem_mem hlt))
                cases hdb : domB c k c.doms[k]
                · have HD := hid hdb
                  clear hdb
                  have i1 : (k : Int) < c.doms.length := by omega
                  go_wp2_with (go_at_call 86; refine (routes_to hlt HD.out _ _ _ hsv.out hrr.out).yields ?_; intro p5)
                  go_returns
                  refine ⟨?_, (hx0.trans hx).more _⟩
                  have h1 := domsB_bad c c.doms 0 rfl k hlt (Nat.zero_le _) HD.out
                  simp [isConf, HF.out, HSH.out, HQ.out, h1]
                · have HD := hid hdb
                  clear hdb
                  have i1 : (k : Int) < c.doms.length := by omega
                  go_wp2_with (go_at_call 86; refine (routes_to hlt HD.out _ _ _ hsv.out hrr.out).yields ?_; intro p5)
                  go_roundw
                  case rel => exact ⟨hx.more _, k + 1, by go_num, by omega, fun j hj h => by
                    by_cases he : j = k
                    · subst he; exact HD.out
                    · exact ht.out j hj (by omega)⟩
                  case measure => simp [intOf]; omega
              · obtain rfl : k = c.doms.length := by omega
                go_wp2
                go_returns
                refine ⟨?_, hx0.trans hx⟩
                have h1 := domsB_all c c.doms 0 rfl (fun j hj _ => ht.out j hj hj)
                simp [isConf, HF.out, HSH.out, HQ.out, h1]
end Go.Proofs.YtmpgeabfogcblaaGreat
