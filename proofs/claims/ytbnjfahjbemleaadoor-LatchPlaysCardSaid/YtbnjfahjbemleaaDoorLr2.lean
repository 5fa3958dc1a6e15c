/- The document's latch: Turn. -/
import Derived.Test.YtbnjfahjbemleaaDoorLr1
import Derived.Test.YtbnjfahjbemleaaDoorTail
import Derived.Test.YtbnjfahjbemleaaDoorPiece
namespace Go.Proofs.YtbnjfahjbemleaaDoor
open Go.RowKit

set_option maxRecDepth 100000 in
set_option maxHeartbeats 4000000 in
theorem rlTurn_any {b : Nat} {c : Cnf} {pv dv : Value} {s : Lt} {gl cl ga ca : Nat} {w : World} (h : RLt b c pv dv s gl cl ga ca w) (g : Good c) :
    Calls Tryd.prog 15 #[.pointer (some ⟨b, 0, none⟩)] w fun e w' => ∃ gl' cl', e = .returned (.tuple #[]) ∧ Mvp (LtB b gl ga) (LtB b gl' ga) w w' ∧ RLt b c pv dv s.turn gl' cl' ga ca w' := by
  have H := hid h
  obtain ⟨-, -, -, -, k4, k5, k6, k7, kf, hb⟩ := h.cells
  have hd6 := g.d6
  have hd1 := g.d1
  have hal : Hid ((s.al.map iV).length = c.doms.length) := hid (by rw [List.length_map, h.ok.al])
  have hga := h.far.2
  have hgl := h.far.1
  clear h g
  go_enter Tryd.func15, Tryd.ntmps15
  refine wp_region_T 16 1 (fun u => u.cell? ⟨b, 5, none⟩ = some (.int .i64 s.ap) ∧ u.cell? ⟨b, 7, none⟩ = some (.slice (some ⟨ga, 0, none⟩) c.doms.length ca)) (by kernel_rfl) (by kernel_rfl) ?_
  have hx0 : Ext w w.drew := (Ext.refl w).drew
  have HSS : w.drew.cell? ⟨b, 5, none⟩ = some (.int .i64 s.ap) ∧ w.drew.cell? ⟨b, 7, none⟩ = some (.slice (some ⟨ga, 0, none⟩) c.doms.length ca) := ⟨hx0.cell k5, hx0.cell k7⟩
  have R0 := hid (H.out.ext hx0)
  have hb0 : b < w.drew.heap.size := hx0.cell k5 |> World.block_lt_of_cell? _ _
  have hs0 := hx0.size
  generalize w.drew = w2 at *
  clear H k4 k5 k6 k7 kf hb
  refine wpT_tk 0 HSS ?_ (hy := by intro u hu; obtain ⟨h5, h7⟩ := hu; go_simp; first | done | (with_reducible rfl)); (try simp only [nrm])
  refine wpT_tk 1 HSS ?_ (hy := by intro u hu; obtain ⟨h5, h7⟩ := hu; go_simp; first | done | (with_reducible rfl)); (try simp only [nrm])
  refine wpT_tk 2 HSS ?_ (hy := by intro u hu; obtain ⟨h5, h7⟩ := hu; go_simp; first | done | (with_reducible rfl)); (try simp only [nrm])
  refine wpT_tk 3 HSS ?_ (hy := by intro u hu; obtain ⟨h5, h7⟩ := hu; go_simp; first | done | (with_reducible rfl)); (try simp only [nrm])
  refine wpT_tk 4 HSS ?_ (hy := by intro u hu; obtain ⟨h5, h7⟩ := hu; go_simp; first | done | (with_reducible rfl)); (try simp only [nrm])
  refine wpT_tk 5 HSS ?_ (hy := by intro u hu; obtain ⟨h5, h7⟩ := hu; go_simp; first | done | (with_reducible rfl)); (try simp only [nrm])
  refine wpT_tk 6 HSS ?_ (hy := by intro u hu; obtain ⟨h5, h7⟩ := hu; go_simp; first | done | (with_reducible rfl)); (try simp only [nrm])
  refine wpT_tk 7 HSS ?_ (hy := by intro u hu; obtain ⟨h5, h7⟩ := hu; go_simp; first | done | (with_reducible rfl)); (try simp only [nrm])
  refine wpT_tk 8 HSS ?_ (hy := by intro u hu; obtain ⟨h5, h7⟩ := hu; go_simp; first | done | (with_reducible rfl)); (try simp only [nrm])
  refine wpT_tk 9 HSS ?_ (hy := by intro u hu; obtain ⟨h5, h7⟩ := hu; go_simp; first | done | (with_reducible rfl)); (try simp only [nrm])
  refine wpT_on 10 (fun K' hK => ?_)
  refine wp_copy (.const (.slice none 0 0)) (.tmp 11) 44 3 (.int .i64 0) 8 rfl Tryd.underlying44 infoI rfl (ad := ⟨ga, 0, none⟩) (m := c.doms.length) (c := ca) (news := s.al.map iV) (by rfl) (by rfl) hal.out R0.out.al.cellsOf (iV_one' s.al) (by unfold maxLen; omega) (by omega) (by omega) ?_
  intro g2 c2 w3 ho hg hx
  have HSS2 : w3.cell? ⟨b, 5, none⟩ = some (.int .i64 s.ap) ∧ w3.cell? ⟨b, 7, none⟩ = some (.slice (some ⟨ga, 0, none⟩) c.doms.length ca) := ⟨hx.cell HSS.1, hx.cell HSS.2⟩
  have R1 := hid (R0.out.ext hx)
  have B1 : Hid (Rw1 0 3 g2 c2 (s.al.map iV) w3) := hid ⟨by rw [hal.out]; exact owns_base ho (Nat.zero_le _)⟩
  have hx3 := hid (hx0.trans hx)
  have hbg : b ≠ g2 := by omega
  have hgag : ga ≠ g2 := by omega
  have hwg : w.heap.size ≤ g2 := by omega
  have hb3 : b < w3.heap.size := R1.out.blk.lt
  have f4 := R1.out.blk.frozen 4
  have f6 := R1.out.blk.frozen 6
  obtain ⟨-, -, -, -, m4, -, m6, -, -, -⟩ := R1.out.cells
  refine hK.out _ _ HSS2 ?_
  (try simp only [nrm])
  clear hK K' HSS ho hx hg hs0 hx0 R0 hb0
  have HSS := HSS2
  clear HSS2 w2
  refine wpT_tk 11 HSS ?_; (try simp only [nrm])
  refine wpT_tk 12 HSS ?_; (try simp only [nrm])
  refine wpT_on 13 (fun K' hK => ?_); go_simp
  have HSS2 : (w3.setCell ⟨b, 4, none⟩ (.int .i64 s.ap)).cell? ⟨b, 5, none⟩ = some (.int .i64 s.ap) ∧ (w3.setCell ⟨b, 4, none⟩ (.int .i64 s.ap)).cell? ⟨b, 7, none⟩ = some (.slice (some ⟨ga, 0, none⟩) c.doms.length ca) := by
    have h1 := (R1.out.blk.set 4 (.int .i64 s.ap))
    exact ⟨h1.cell (i := 5) (by simp), h1.cell (i := 7) (by simp)⟩
  have M1 : Hid (Mvp (LtB b gl ga) (LtB b gl ga) w (w3.setCell ⟨b, 4, none⟩ (.int .i64 s.ap))) := hid ((Mvp.of_ext hx3.out).set (.inl rfl) 4 _)
  have hok := R1.out.ok
  have R2 : Hid (RLt b c pv dv { s with p := s.ap } gl cl ga ca (w3.setCell ⟨b, 4, none⟩ (.int .i64 s.ap))) := hid ⟨by
    have := R1.out.blk.set 4 (.int .i64 s.ap)
    simpa using this, R1.out.l.other R1.out.n1 _ _, R1.out.al.other R1.out.n2 _ _, R1.out.n1, R1.out.n2, R1.out.n3, ⟨hok.ll, hok.al, hok.ap0, hok.ap1, hok.ap0, hok.ap1⟩⟩
  have B2 := hid (B1.out.other hbg 4 (.int .i64 s.ap))
  refine hK.out _ _ HSS2 ?_
  (try simp only [nrm])
  clear hK K' HSS R1 B1 hx3 hb3 f4 f6 m4 m6 hok
  have HSS := HSS2
  clear HSS2
  generalize w3.setCell ⟨b, 4, none⟩ (.int .i64 s.ap) = w4 at *
  clear w3
  have hb4 : b < w4.heap.size := R2.out.blk.lt
  have f6 := R2.out.blk.frozen 6
  obtain ⟨-, -, -, -, -, -, m6, -, -, -⟩ := R2.out.cells
  refine wpT_tk 14 HSS ?_; (try simp only [nrm])
  refine wpT_tk 15 HSS ?_; (try simp only [nrm])
  refine wpT_done (by kernel_rfl) ?_
  refine wpAny_on 16 (fun K' hK => ?_); go_simp
  refine hK.out _ _ ?_
  (try simp only [nrm])
  refine wpAny_done (by kernel_rfl) ?_ _
  go_wp2
  go_returns
  have hR := R2.out
  have hB := B2.out.other hbg 6 (.slice (some ⟨g2, 0, none⟩) c.doms.length c2)
  refine ⟨g2, c2, rfl, (M1.out.set (.inl rfl) 6 _).anew fun k hk => ?_, ?_, hB, hR.al.other hR.n2 _ _, hbg, hR.n2, fun e => hgag e.symm, ⟨hR.ok.al, hR.ok.al, hR.ok.ap0, hR.ok.ap1, hR.ok.ap0, hR.ok.ap1⟩⟩
  · rcases hk with rfl | rfl | rfl
    · exact .inl (.inl rfl)
    · exact .inr hwg
    · exact .inl (.inr (.inr rfl))
  · have := hR.blk.set 6 (.slice (some ⟨g2, 0, none⟩) c.doms.length c2)
    simpa [Lt.turn] using this
end Go.Proofs.YtbnjfahjbemleaaDoor
