/- The program's latch: New. With it: what each of its methods comes to. -/
import Derived.Test.YtbnjfahjbemleaaLp3
import Derived.Test.YtbnjfahjbemleaaLp4
import Derived.Test.YtbnjfahjbemleaaCfAll
import Derived.Test.YtbnjfahjbemleaaTail
import Derived.Test.YtbnjfahjbemleaaPiece
namespace Go.Proofs.Ytbnjfahjbemleaa
open Go.RowKit

set_option maxRecDepth 100000 in
set_option maxHeartbeats 4000000 in
theorem pNew {c : Cnf} {pv dv : Value} {w : World} (hc : ConfV w c pv dv) (hi : isConf c = 0) : Calls Try.prog 6 #[confV c pv dv] w fun e w' => ∃ A b, e = .returned (.pointer (some ⟨b, 0, none⟩)) ∧ Ext w w' ∧ (∀ k, A k → w.heap.size ≤ k) ∧ PL A b c (Lt.new c) w' := by
  obtain ⟨pp, cp, rfl, hp1, hp2⟩ := hc.plans.shape
  obtain ⟨pd, cd, rfl, hd1, hd2⟩ := hc.doms.shape
  unfold maxLen at hd2 hp2
  have G := Good.of hi
  have d6 := G.d6
  have d1 := G.d1
  have hok := hid (LtOk.new G)
  have HC := hid hc
  have HI := hid hi
  have hmk := run_makeCh c.doms.length d6
  clear hc G hi
  go_enter Try.func6, Try.ntmps6
  go_upto_region 3 with (go_at_call 17; refine (confIs_to HI.out _ _ _ (HC.out.ext ext_by)).yields ?_; rw [errV_0]; intro p1)
  go_upto_region 6 with fail
  obtain ⟨s1, hs1⟩ : ∃ s1, s1 = w.heap.size + 1 := ⟨_, rfl⟩
  obtain ⟨g, hg⟩ : ∃ g, g = w.heap.size + 1 + 1 + p1.os.size := ⟨_, rfl⟩
  simp only [← hg]
  refine wp_forget (fun u => Ext w u ∧ Hid (Blk u s1 52 [.int .i64 c.plans.length, .int .i64 0, .int .i64 0, .slice (some ⟨g, 0, none⟩) c.doms.length c.doms.length]) ∧ Hid (Chs g (List.replicate c.doms.length 0) (List.replicate c.doms.length 0) (List.replicate c.doms.length 0) u)) ⟨ext_by, hid ?_, hid ?_⟩ ?_
  · subst hs1
    have := Blk.new (w.alloc (.cells #[.int .i64 c.frame, .int .i64 c.epoch, .slice pp c.plans.length cp, .slice pd c.doms.length cd] 29 (0, 0))) 52 [.int .i64 c.plans.length, .int .i64 0, .int .i64 0, .slice (some ⟨g, 0, none⟩) c.doms.length c.doms.length]
    rw [show (w.alloc (.cells #[.int .i64 c.frame, .int .i64 c.epoch, .slice pp c.plans.length cp, .slice pd c.doms.length cd] 29 (0, 0))).heap.size = w.heap.size + 1 by simp [go_sem]] at this
    exact this.ext ext_by
  · have := Chs.new (more ((w.alloc (.cells #[.int .i64 c.frame, .int .i64 c.epoch, .slice pp c.plans.length cp, .slice pd c.doms.length cd] 29 (0, 0))).alloc (.cells #[.int .i64 c.plans.length, .int .i64 0, .int .i64 0, .slice (some ⟨g, 0, none⟩) c.doms.length c.doms.length] 52 (0, 0))) p1) c.doms.length
    have e : (more ((w.alloc (.cells #[.int .i64 c.frame, .int .i64 c.epoch, .slice pp c.plans.length cp, .slice pd c.doms.length cd] 29 (0, 0))).alloc (.cells #[.int .i64 c.plans.length, .int .i64 0, .int .i64 0, .slice (some ⟨g, 0, none⟩) c.doms.length c.doms.length] 52 (0, 0))) p1).heap.size = g := by simp [go_sem, hg]
    rw [e] at this
    exact this
  simp only [← hs1]
  have n1 : g ≠ s1 := by omega
  have hs0 : w.heap.size ≤ s1 := by omega
  have hg0 : w.heap.size ≤ g := by omega
  clear hs1 hg hmk
  rintro W ⟨X, HB, HG⟩
  go_wp2
  go_loopw [29] (fun v29 wr => Ext w wr ∧ ∃ k : Nat, v29 = .int .i64 k ∧ k ≤ c.doms.length ∧ Hid (Blk wr s1 52 [.int .i64 c.plans.length, .int .i64 0, .int .i64 0, .slice (some ⟨g, 0, none⟩) c.doms.length c.doms.length]) ∧ Hid (∃ fs, Chs g fs (List.replicate c.doms.length 0) (List.replicate c.doms.length 0) wr ∧ fs.length = c.doms.length ∧ ∀ j, j < k → fs[j]? = (fews c)[j]?)) (fun v29 _ => (c.doms.length - intOf v29).toNat)
  case atStart => exact ⟨X, 0, rfl, by omega, HB, hid ⟨_, HG.out, by simp, fun j hj => by omega⟩⟩
  case round =>
    obtain ⟨hx, k, rfl, hk, hB, hP⟩ := hrel
    clear HB HG X
    by_cases hlt : k < c.doms.length
    · have i1 : (k : Int) < c.doms.length := by omega
      obtain ⟨db, doff, rfl, vr, ve, D, DR, DE, -⟩ := HC.out.doms.at k hlt
      obtain ⟨ep, ec, rfl, he1, he2⟩ := DE.shape
      obtain ⟨rp, rc, rfl, -, -⟩ := DR.shape
      unfold maxLen at he2
      obtain ⟨d0, d1, d2, d3, d4, d5, d6, d7, d8, d9⟩ := D.ext hx
      have hdb : db < wr.heap.size := World.block_lt_of_cell? _ _ d0
      have HF : Hid ((fews c)[k]? = some (c.doms[k].release.length : Int)) := hid (by rw [fews_get hlt, relOf_get hlt])
      clear D DR DE
      generalize hd : c.doms[k] = d at *
      clear hd
      go_upto_region 9 with fail
      obtain ⟨g5, hg5⟩ : ∃ g5, g5 = wr.heap.size := ⟨_, rfl⟩
      refine wp_forget (fun u => Ext wr u ∧ u.cell? ⟨g5, 3, none⟩ = some (.slice ep d.release.length ec)) ⟨ext_by, by rw [hg5]; simp [go_sem]⟩ ?_
      simp only [← hg5]
      clear hg5
      rintro W2 ⟨X2, q3⟩
      refine wp_region_T 10 1 (fun u => u.cell? ⟨s1, 3, none⟩ = some (.slice (some ⟨g, 0, none⟩) c.doms.length c.doms.length) ∧ u.cell? ⟨g5, 3, none⟩ = some (.slice ep d.release.length ec)) (by kernel_rfl) (by kernel_rfl) ?_
      have xd : Ext wr W2.drew := X2.drew
      have HSS : W2.drew.cell? ⟨s1, 3, none⟩ = some (.slice (some ⟨g, 0, none⟩) c.doms.length c.doms.length) ∧ W2.drew.cell? ⟨g5, 3, none⟩ = some (.slice ep d.release.length ec) := ⟨xd.cell (hB.out.cell (i := 3) (by simp)), q3⟩
      have B1 := hid (hB.out.ext xd)
      have X1 := hid (hx.trans xd)
      obtain ⟨fs, hC, hn, hj⟩ := hP.out
      have C1 := hid (hC.ext xd)
      have HJ := hid hj
      have hn' := hid hn
      have c1 : ∃ x : Int, W2.drew.cell? ⟨g, k * 3, none⟩ = some (.int .i64 x) := ⟨_, C1.out.few k _ (List.getElem?_eq_getElem (by omega))⟩
      obtain ⟨old, c1⟩ := c1
      have cf := C1.out.fr (k * 3)
      have cl := C1.out.lt
      clear hC hn hj hP q3 d0 d1 d2 d3 d4 d5 d6 d7 d8 d9 X2 xd hx hdb hB
      generalize W2.drew = z at *
      clear W2
      refine wpT_tk 0 HSS ?_; (try simp only [nrm])
      refine wpT_tk 1 HSS ?_; (try simp only [nrm])
      refine wpT_tk 2 HSS ?_; (try simp only [nrm])
      refine wpT_tk 3 HSS ?_; (try simp only [nrm])
      refine wpT_tk 4 HSS ?_; (try simp only [nrm])
      refine wpT_tk 5 HSS ?_; (try simp only [nrm])
      refine wpT_tk 6 HSS ?_; (try simp only [nrm])
      refine wpT_tk 7 HSS ?_; (try simp only [nrm])
      refine wpT_tk 8 HSS ?_; (try simp only [nrm])
      refine wpT_tk 9 HSS ?_; (try simp only [nrm])
      refine wpT_done (by kernel_rfl) ?_
      refine wpAny_on 10 (fun K' hK => ?_); go_simp
      refine hK.out _ _ ?_
      (try simp only [nrm])
      refine wpAny_done (by kernel_rfl) ?_ _
      go_wp2
      go_roundw
      case rel =>
        refine ⟨X1.out.setCell (p := ⟨g, k * 3, none⟩) hg0 _, k + 1, by go_num, by omega, hid (B1.out.other n1.symm _ _), hid ⟨fs.set k _, C1.out.setFew k _, by rw [List.length_set]; exact hn'.out, fun j hj => ?_⟩⟩
        rcases (show j < k ∨ j = k by omega) with h | rfl
        · rw [List.getElem?_set_ne (by omega)]; exact HJ.out j h
        · rw [List.getElem?_set_self (by rw [hn'.out]; exact hlt), HF.out]
      case measure => simp [intOf]; omega
    · obtain rfl : k = c.doms.length := by omega
      go_wp2
      go_returns
      obtain ⟨fs, hC, hn, hj⟩ := hP.out
      obtain rfl : fs = fews c := List.ext_getElem? fun j => by
        rcases Nat.lt_or_ge j c.doms.length with h | h
        · exact hj j h
        · rw [List.getElem?_eq_none (by omega), List.getElem?_eq_none (by simp [fews]; omega)]
      exact ⟨fun k => k = s1 ∨ k = g, s1, by simp, hx, fun k hk => by rcases hk with rfl | rfl <;> assumption, ⟨g, fun k => Iff.rfl, hok.out, hB.out, hC, n1, d1, d6⟩⟩
end Go.Proofs.Ytbnjfahjbemleaa
