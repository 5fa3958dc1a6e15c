/- The document's latch: NewLatch. -/
import Derived.Test.YtbnjfahjbemleaaDoorLr2
import Derived.Test.YtbnjfahjbemleaaDoorBx
namespace Go.Proofs.YtbnjfahjbemleaaDoor
open Go.RowKit

set_option maxRecDepth 100000 in
set_option maxHeartbeats 4000000 in
theorem rnew_any {c : Cnf} {pv dv : Value} {w : World} (hc : ConfV w c pv dv) (g : Good c) :
    Calls Tryd.prog 8 #[confV c pv dv] w fun e w' => ∃ b gl ga, e = .returned (.pointer (some ⟨b, 0, none⟩)) ∧ Ext w w' ∧ w.heap.size ≤ b ∧ w.heap.size ≤ gl ∧ w.heap.size ≤ ga ∧ RLt b c pv dv (Lt.new c) gl c.doms.length ga c.doms.length w' := by
  obtain ⟨pd, cd, rfl, hd1, hd2⟩ := hc.doms.shape
  unfold maxLen at hd2
  have d6 := g.d6
  have d1 := g.d1
  have hok := hid (LtOk.new g)
  have hmk := run_makeI c.doms.length d6
  clear hc g
  go_enter Tryd.func8, Tryd.ntmps8
  go_upto_region 1 with fail
  refine wp_forget (fun u => Hid (Bx w w.heap.size c pv (.slice pd c.doms.length cd) u)) (hid ⟨ext_by, by simp [go_sem], by simp [go_sem], by simp [go_sem], by simp [go_sem]⟩) ?_
  rintro W hB
  refine wp_region_T 11 1 (fun u => Bx w w.heap.size c pv (.slice pd c.doms.length cd) u) (by kernel_rfl) (by kernel_rfl) ?_
  have HSS : Bx w w.heap.size c pv (.slice pd c.doms.length cd) W.drew := hB.out.ext (Ext.drew (Ext.refl _))
  generalize W.drew = w2 at *
  clear hB W
  have hw : w.heap.size < w2.heap.size := World.block_lt_of_cell? _ _ HSS.c0
  refine wpT_tk 0 HSS ?_ (hy := by intro u hu; obtain ⟨h1, h2, h3, h4, h5⟩ := hu; go_simp; first | done | (with_reducible rfl)); (try simp only [nrm])
  refine wpT_tk 1 HSS ?_ (hy := by intro u hu; obtain ⟨h1, h2, h3, h4, h5⟩ := hu; go_simp; first | done | (with_reducible rfl)); (try simp only [nrm])
  refine wpT_tk 2 HSS ?_ (hy := by intro u hu; obtain ⟨h1, h2, h3, h4, h5⟩ := hu; go_simp; first | done | (with_reducible rfl)); (try simp only [nrm])
  refine wpT_tk 3 HSS ?_ (hy := by intro u hu; obtain ⟨h1, h2, h3, h4, h5⟩ := hu; go_simp; first | done | (with_reducible rfl)); (try simp only [nrm])
  refine wpT_tk 5 HSS ?_ (hy := by intro u hu; obtain ⟨h1, h2, h3, h4, h5⟩ := hu; go_simp; first | done | (with_reducible rfl)); (try simp only [nrm])
  refine wpT_tk 6 HSS ?_ (hy := by intro u hu; obtain ⟨h1, h2, h3, h4, h5⟩ := hu; go_simp; first | done | (with_reducible rfl)); (try simp only [nrm])
  refine wpT_tk 7 HSS ?_ (hy := by intro u hu; obtain ⟨h1, h2, h3, h4, h5⟩ := hu; go_simp; first | done | (with_reducible rfl)); (try simp only [nrm])
  refine wpT_two 4 8 rfl rfl (by kernel_rfl) (by rfl) (by rfl) (fun K' hK => ?_) (fun K' hK => ?_)
  · go_simp
    have hs1 : w.heap.size ≤ w2.heap.size := HSS.x.size
    have HSS2 : Bx w w.heap.size c pv (.slice pd c.doms.length cd) (w2.alloc (.cells (Array.replicate c.doms.length (Value.int .i64 0)) 3 (0, 0))) := HSS.ext (Ext.alloc (Ext.refl _) _)
    have B1 : Hid (Blk (w2.alloc (.cells (Array.replicate c.doms.length (Value.int .i64 0)) 3 (0, 0))) w2.heap.size 3 (List.replicate c.doms.length (Value.int .i64 0))) := hid (by have := Blk.new w2 3 (List.replicate c.doms.length (Value.int .i64 0)); simpa using this)
    refine hK.out _ _ HSS2 ?_
    (try simp only [nrm])
    clear hK K' HSS
    have HSS := HSS2
    clear HSS2
    generalize w2.alloc (.cells (Array.replicate c.doms.length (Value.int .i64 0)) 3 (0, 0)) = w3 at *
    generalize w2.heap.size = A at *
    clear w2
    refine wpT_on 8 (fun K' hK => ?_); go_simp
    have hs2 : w.heap.size ≤ w3.heap.size := HSS.x.size
    have HSS2 : Bx w w.heap.size c pv (.slice pd c.doms.length cd) (w3.alloc (.cells (Array.replicate c.doms.length (Value.int .i64 0)) 3 (0, 0))) := HSS.ext (Ext.alloc (Ext.refl _) _)
    have B2 : Hid (Blk (w3.alloc (.cells (Array.replicate c.doms.length (Value.int .i64 0)) 3 (0, 0))) w3.heap.size 3 (List.replicate c.doms.length (Value.int .i64 0))) := hid (by have := Blk.new w3 3 (List.replicate c.doms.length (Value.int .i64 0)); simpa using this)
    have B3 : Hid (Blk (w3.alloc (.cells (Array.replicate c.doms.length (Value.int .i64 0)) 3 (0, 0))) A 3 (List.replicate c.doms.length (Value.int .i64 0))) := hid (B1.out.ext (Ext.alloc (Ext.refl _) _))
    have hs3 : A < w3.heap.size := B1.out.lt
    refine hK.out _ _ HSS2 ?_
    (try simp only [nrm])
    clear hK K' HSS B1
    have HSS := HSS2
    clear HSS2
    generalize w3.alloc (.cells (Array.replicate c.doms.length (Value.int .i64 0)) 3 (0, 0)) = w4 at *
    generalize w3.heap.size = B at *
    clear w3
    refine wpT_tk 9 HSS ?_ (hy := by intro u hu; obtain ⟨h1, h2, h3, h4, h5⟩ := hu; go_simp; first | done | (with_reducible rfl)); (try simp only [nrm])
    refine wpT_on 10 (fun K' hK => ?_); go_simp
    have hs4 : w.heap.size ≤ w4.heap.size := HSS.x.size
    have hx5 := Ext.alloc (Ext.refl w4) (.cells #[.int .i64 c.frame, .int .i64 c.epoch, pv, .slice pd c.doms.length cd, .int .i64 0, .int .i64 0, .slice (some ⟨A, 0, none⟩) c.doms.length c.doms.length, .slice (some ⟨B, 0, none⟩) c.doms.length c.doms.length] 46 (0, 0))
    have B4 := hid (Blk.new w4 46 [.int .i64 c.frame, .int .i64 c.epoch, pv, .slice pd c.doms.length cd, .int .i64 0, .int .i64 0, .slice (some ⟨A, 0, none⟩) c.doms.length c.doms.length, .slice (some ⟨B, 0, none⟩) c.doms.length c.doms.length])
    have hA4 : A < w4.heap.size := B3.out.lt
    have hB4 : B < w4.heap.size := B2.out.lt
    have C1 := hid (B3.out.ext hx5)
    have C2 := hid (B2.out.ext hx5)
    have X5 := HSS.ext hx5
    refine hK.out _ _ X5 ?_
    (try simp only [nrm])
    clear hK K' HSS B3 B2 hx5
    refine wpT_done (by kernel_rfl) ?_
    refine wpAny_tk 11 ?_; (try simp only [nrm])
    refine wpAny_done (by kernel_rfl) ?_ _
    go_wp2
    go_returns
    have e0 : (Lt.new c).l.map iV = List.replicate c.doms.length (Value.int .i64 0) := by simp [Lt.new, iV]
    have hm9 : (List.replicate c.doms.length (Value.int .i64 0)).length ≤ maxLen := by rw [List.length_replicate]; unfold maxLen; omega
    have D1 := Rw1.of_blk' C1.out hm9
    have D2 := Rw1.of_blk' C2.out hm9
    rw [List.length_replicate] at D1 D2
    exact ⟨w4.heap.size, A, B, by simp, X5.x, by omega, by omega, by omega, ⟨B4.out, by rw [e0]; exact D1, by rw [show (Lt.new c).al = (Lt.new c).l from rfl, e0]; exact D2, by omega, by omega, by omega, hok.out⟩⟩
  · go_simp
    have hs1 : w.heap.size ≤ w2.heap.size := HSS.x.size
    have HSS2 : Bx w w.heap.size c pv (.slice pd c.doms.length cd) (w2.alloc (.cells (Array.replicate c.doms.length (Value.int .i64 0)) 3 (0, 0))) := HSS.ext (Ext.alloc (Ext.refl _) _)
    have B1 : Hid (Blk (w2.alloc (.cells (Array.replicate c.doms.length (Value.int .i64 0)) 3 (0, 0))) w2.heap.size 3 (List.replicate c.doms.length (Value.int .i64 0))) := hid (by have := Blk.new w2 3 (List.replicate c.doms.length (Value.int .i64 0)); simpa using this)
    refine hK.out _ _ HSS2 ?_
    (try simp only [nrm])
    clear hK K' HSS
    have HSS := HSS2
    clear HSS2
    generalize w2.alloc (.cells (Array.replicate c.doms.length (Value.int .i64 0)) 3 (0, 0)) = w3 at *
    generalize w2.heap.size = A at *
    clear w2
    refine wpT_on 4 (fun K' hK => ?_); go_simp
    have hs2 : w.heap.size ≤ w3.heap.size := HSS.x.size
    have HSS2 : Bx w w.heap.size c pv (.slice pd c.doms.length cd) (w3.alloc (.cells (Array.replicate c.doms.length (Value.int .i64 0)) 3 (0, 0))) := HSS.ext (Ext.alloc (Ext.refl _) _)
    have B2 : Hid (Blk (w3.alloc (.cells (Array.replicate c.doms.length (Value.int .i64 0)) 3 (0, 0))) w3.heap.size 3 (List.replicate c.doms.length (Value.int .i64 0))) := hid (by have := Blk.new w3 3 (List.replicate c.doms.length (Value.int .i64 0)); simpa using this)
    have B3 : Hid (Blk (w3.alloc (.cells (Array.replicate c.doms.length (Value.int .i64 0)) 3 (0, 0))) A 3 (List.replicate c.doms.length (Value.int .i64 0))) := hid (B1.out.ext (Ext.alloc (Ext.refl _) _))
    have hs3 : A < w3.heap.size := B1.out.lt
    refine hK.out _ _ HSS2 ?_
    (try simp only [nrm])
    clear hK K' HSS B1
    have HSS := HSS2
    clear HSS2
    generalize w3.alloc (.cells (Array.replicate c.doms.length (Value.int .i64 0)) 3 (0, 0)) = w4 at *
    generalize w3.heap.size = B at *
    clear w3
    refine wpT_tk 9 HSS ?_ (hy := by intro u hu; obtain ⟨h1, h2, h3, h4, h5⟩ := hu; go_simp; first | done | (with_reducible rfl)); (try simp only [nrm])
    refine wpT_on 10 (fun K' hK => ?_); go_simp
    have hs4 : w.heap.size ≤ w4.heap.size := HSS.x.size
    have hx5 := Ext.alloc (Ext.refl w4) (.cells #[.int .i64 c.frame, .int .i64 c.epoch, pv, .slice pd c.doms.length cd, .int .i64 0, .int .i64 0, .slice (some ⟨B, 0, none⟩) c.doms.length c.doms.length, .slice (some ⟨A, 0, none⟩) c.doms.length c.doms.length] 46 (0, 0))
    have B4 := hid (Blk.new w4 46 [.int .i64 c.frame, .int .i64 c.epoch, pv, .slice pd c.doms.length cd, .int .i64 0, .int .i64 0, .slice (some ⟨B, 0, none⟩) c.doms.length c.doms.length, .slice (some ⟨A, 0, none⟩) c.doms.length c.doms.length])
    have hA4 : A < w4.heap.size := B3.out.lt
    have hB4 : B < w4.heap.size := B2.out.lt
    have C1 := hid (B3.out.ext hx5)
    have C2 := hid (B2.out.ext hx5)
    have X5 := HSS.ext hx5
    refine hK.out _ _ X5 ?_
    (try simp only [nrm])
    clear hK K' HSS B3 B2 hx5
    refine wpT_done (by kernel_rfl) ?_
    refine wpAny_tk 11 ?_; (try simp only [nrm])
    refine wpAny_done (by kernel_rfl) ?_ _
    go_wp2
    go_returns
    have e0 : (Lt.new c).l.map iV = List.replicate c.doms.length (Value.int .i64 0) := by simp [Lt.new, iV]
    have hm9 : (List.replicate c.doms.length (Value.int .i64 0)).length ≤ maxLen := by rw [List.length_replicate]; unfold maxLen; omega
    have D1 := Rw1.of_blk' C2.out hm9
    have D2 := Rw1.of_blk' C1.out hm9
    rw [List.length_replicate] at D1 D2
    exact ⟨w4.heap.size, B, A, by simp, X5.x, by omega, by omega, by omega, ⟨B4.out, by rw [e0]; exact D1, by rw [show (Lt.new c).al = (Lt.new c).l from rfl, e0]; exact D2, by omega, by omega, by omega, hok.out⟩⟩
end Go.Proofs.YtbnjfahjbemleaaDoor
