/- The program's own tree: a new one, how deep a node is, what is told of nodes. -/
import Derived.Test.YtocicffmajbecaaGreatDoorPt5
import Derived.Test.YtocicffmajbecaaGreatDoorNn
namespace Go.Proofs.YtocicffmajbecaaGreatDoor
open Go.RowKit
set_option linter.unusedSimpArgs false
def Up (l : List Nd) : Nat → Int → Prop
  | 0,id => getU l id = none
  | n + 1,id => ∃ m ∈ l,m.id = id ∧ Up l n m.par
section
variable {base : Nat} {x : Site} {W : Wit} {l : List Nd} {w : World}
set_option maxRecDepth 100000 in
set_option maxHeartbeats 2000000 in
theorem deep_any (h : Pt base x W l w) (hs : Ids l) (hc : Clo l) (hl : l.length ≤ 60) (id : Int) (n : Nat) (hn : n ≤ 1000) (hu : Up l n id) :
    Calls Tryz.prog 109 #[.pointer (some ⟨x.b,x.d,none⟩),.int .i64 id] w (Yields w (.int .i64 n)) := by
  have H := hid h
  have HS := hid hs
  have HC := hid hc
  have HL := hid hl
  have hup0 : ∀ (m : Nat) (id : Int),Up l m id → nodP W l id = if m = 0 then .pointer none else .pointer (some ⟨W.nb id,0,none⟩) := fun m id hu => by
    cases m with
    | zero => rw [if_pos rfl]; exact if_neg (by simp [hasU,show getU l id = none from hu])
    | succ m =>
      obtain ⟨k,hk,e,-⟩ := hu
      rw [if_neg (by omega)]; exact if_pos (hasU_iff.2 ⟨k,hk,e⟩)
  have HUP := hid (hup0 n id hu)
  have HU := hid hu
  clear h hs hc hl hup0 hu
  go_enter Tryz.func109,Tryz.ntmps109
  go_wp2_with (go_at_call 79; (with_reducible refine (find_at (H.out.ext ext_by) HS.out (by have := HL.out; omega) _).yields ?_); intro p0)
  go_loopw [5,6] (fun v5 v6 wr => Ext w wr ∧ ∃ (m : Nat) (k : Int),v5 = .int .i64 m ∧ Hid (v6 = if n - m = 0 then .pointer none else .pointer (some ⟨W.nb k,0,none⟩)) ∧ m ≤ n ∧ Hid (Up l (n - m) k)) (fun v5 _ _ => (n - (intOf v5).toNat))
  case atStart => exact ⟨ext_by,0,id,rfl,HUP.out,Nat.zero_le _,HU.out⟩
  case round =>
    obtain ⟨X,m,k,rfl,hv,hm,hst⟩ := hrel
    by_cases hk : n - m = 0
    · have hv := hv.out
      rw [if_pos hk] at hv
      subst hv
      obtain rfl : m = n := by omega
      go_wp2
      go_returns
      exact ⟨rfl,X⟩
    · have hv := hv.out
      rw [if_neg hk] at hv
      subst hv
      obtain ⟨d,hd⟩ : ∃ d,n - m = d + 1 := ⟨n - m - 1,by omega⟩
      have hst := hst.out
      rw [hd] at hst
      obtain ⟨nd,hnd,rfl,hup⟩ := hst
      have c3 := X.cell (H.out.cells hnd).2.2.2.1
      have HUQ := hid hup
      have HD : Hid (n - (m + 1) = d) := by unfold Hid; omega
      have hlt : m < n := by omega
      have hg : W.grp nd = if d = 0 then .pointer none else .pointer (some ⟨W.nb nd.par,0,none⟩) := by
        cases d with
        | zero =>
          rw [if_pos rfl]
          refine grp_top ?_
          apply Decidable.byContradiction
          intro h0
          obtain ⟨p,hp,e,-⟩ := (HC.out nd hnd).2.2 (by omega)
          exact getU_none.1 (show getU l nd.par = none from hup) p hp e
        | succ d =>
          rw [if_neg (by omega)]
          refine grp_up ?_
          obtain ⟨p,hp,e,-⟩ := hup
          have := (HC.out p hp).1
          omega
      have HG := hid hg
      clear hup hd hk hg hnd
      go_wp2
      go_roundw
      case rel => exact ⟨X,m + 1,nd.par,by go_num,by rw [HD.out]; exact HG.out,by omega,by rw [HD.out]; exact HUQ.out⟩
      case measure => simp [intOf]; omega
theorem six_set {w : World} {A : Nat} {a0 a1 a2 a3 a4 a5 : Value} {T : TypeId} (h : w.heap[A]? = some (.cells #[a0,a1,a2,a3,a4,a5] T (0,0))) (b0 b1 b2 b3 b4 b5 : Value) :
    ((((((w.setCell ⟨A,0,none⟩ b0).setCell ⟨A,1,none⟩ b1).setCell ⟨A,2,none⟩ b2).setCell ⟨A,3,none⟩ b3).setCell ⟨A,4,none⟩ b4).setCell ⟨A,5,none⟩ b5).heap[A]? = some (.cells #[b0,b1,b2,b3,b4,b5] T (0,0)) := by
  simpa using set_same (set_same (set_same (set_same (set_same (set_same h 0 b0) 1 b1) 2 b2) 3 b3) 4 b4) 5 b5
theorem six_ext {w w3 : World} (h : Ext w w3) (b0 b1 b2 b3 b4 b5 : Value) :
    Ext w ((((((w3.setCell ⟨w.heap.size,0,none⟩ b0).setCell ⟨w.heap.size,1,none⟩ b1).setCell ⟨w.heap.size,2,none⟩ b2).setCell ⟨w.heap.size,3,none⟩ b3).setCell ⟨w.heap.size,4,none⟩ b4).setCell ⟨w.heap.size,5,none⟩ b5) :=
  (((((h.setCell (p := ⟨w.heap.size,0,none⟩) (Nat.le_refl _) b0).setCell (p := ⟨w.heap.size,1,none⟩) (Nat.le_refl _) b1).setCell (p := ⟨w.heap.size,2,none⟩) (Nat.le_refl _) b2).setCell (p := ⟨w.heap.size,3,none⟩) (Nat.le_refl _) b3).setCell (p := ⟨w.heap.size,4,none⟩) (Nat.le_refl _) b4).setCell (p := ⟨w.heap.size,5,none⟩) (Nat.le_refl _) b5
def Rt (l : List Nd) : Prop := ∀ n ∈ l,n.par < 0 → n.par = -1 ∧ n.rdy = someT l n.id
theorem rdyP_of (hq : QOk W l) (hs : Ids l) (hc : Clo l) (hr : Rt l) {n : Nd} (hn : n ∈ l) : rdyP W n = n.rdy := by
  by_cases h0 : n.par < 0
  · rw [(hr n hn h0).2]
    unfold rdyP
    rw [if_pos h0]
    have := hq.nil hn ((hc n hn).2.1 h0)
    cases hsm : someT l n.id
    · rw [this.2 hsm]; rfl
    · rw [decide_eq_true_eq]
      apply Nat.pos_of_ne_zero
      intro e
      rw [this.1 (List.length_eq_zero_iff.1 e)] at hsm; cases hsm
  · obtain ⟨p,hp,he,ht⟩ := (hc n hn).2.2 (by omega)
    exact hq.rdyP hs hn hp ht he (by omega)
theorem ready_all (h : Pt base x W l w) (hq : QOk W l) (hs : Ids l) (hc : Clo l) (hr : Rt l) (hl : l.length ≤ 60) {n : Nd} (hn : n ∈ l) :
    Calls Tryz.prog 103 #[.pointer (some ⟨W.nb n.id,0,none⟩)] w (Yields w (.bool n.rdy)) := by
  by_cases h0 : n.par < 0
  · rw [← rdyP_of hq hs hc hr hn]
    exact ready_top h hn h0 ((hc n hn).2.1 h0)
  · exact readyQ_at h hq hs hc hl hn h0
set_option maxRecDepth 100000 in
set_option maxHeartbeats 4000000 in
theorem told_any (h : Pt base x W l w) (hq : QOk W l) (hs : Ids l) (hc : Clo l) (hb : Bdd l) (hr : Rt l) (hl : l.length ≤ 60) {n : Nd} (hn : n ∈ l) :
    Calls Tryz.prog 86 #[.pointer (some ⟨W.nb n.id,0,none⟩)] w (Yields w (nnV n.nn)) := by
  obtain ⟨c0,c1,c2,c3,-,-⟩ := h.cells hn
  have hbl := h.nlt hn
  have HP : Hid (∀ w',Ext w w' → Calls Tryz.prog 98 #[.pointer (some ⟨W.nb n.id,0,none⟩)] w' (Yields w' (.int .i64 n.pass))) := fun w' hx => pass_at (h.ext hx) hb hn
  have HR : Hid (∀ w',Ext w w' → Calls Tryz.prog 103 #[.pointer (some ⟨W.nb n.id,0,none⟩)] w' (Yields w' (.bool n.rdy))) := fun w' hx => ready_all (h.ext hx) hq hs hc hr hl hn
  by_cases h0 : n.par < 0
  · have hpar : n.par = -1 := (hr n hn h0).1
    rw [grp_top h0] at c3
    have HV : Hid (nnV n.nn = .agg #[.int .i64 n.id,.int .i64 (-1),.int .i64 n.wt,.int .i64 n.pass,.bool n.thr,.bool n.rdy]) := by rw [← hpar]; rfl
    rw [HV.out]
    clear h hq hs hc hb hr hl h0 hn hpar
    generalize W.nb n.id = b at *
    go_enter Tryz.func86,Tryz.ntmps86
    go_wp2_with fail
    refine wp_region_T 17 2 (fun u => Ext w u ∧ u.heap[w.heap.size]? = some (.cells #[.int .i64 0,.int .i64 0,.int .i64 0,.int .i64 0,.bool false,.bool false] 101 (0,0))) (by kernel_rfl) (by kernel_rfl) ?_
    have HSS : Ext w (w.alloc (.cells #[.int .i64 0,.int .i64 0,.int .i64 0,.int .i64 0,.bool false,.bool false] 101 (0,0))).drew ∧ (w.alloc (.cells #[.int .i64 0,.int .i64 0,.int .i64 0,.int .i64 0,.bool false,.bool false] 101 (0,0))).drew.heap[w.heap.size]? = some (.cells #[.int .i64 0,.int .i64 0,.int .i64 0,.int .i64 0,.bool false,.bool false] 101 (0,0)) :=
      ⟨Ext.drew (Ext.alloc (Ext.refl w) _),heap_alloc_new w _⟩
    generalize (w.alloc (.cells #[.int .i64 0,.int .i64 0,.int .i64 0,.int .i64 0,.bool false,.bool false] 101 (0,0))).drew = w1 at *
    refine wpT_tk 0 HSS ?_ (hy := by intro u hu; obtain ⟨hxu,-⟩ := hu; have k0 := hxu.cell c0; have k1 := hxu.cell c1; have k2 := hxu.cell c2; go_simp; first | done | (with_reducible rfl)); (try simp only [nrm])
    refine wpT_tk 1 HSS ?_ (hy := by intro u hu; obtain ⟨hxu,-⟩ := hu; have k0 := hxu.cell c0; have k1 := hxu.cell c1; have k2 := hxu.cell c2; go_simp; first | done | (with_reducible rfl)); (try simp only [nrm])
    refine wpT_tk 2 HSS ?_ (hy := by intro u hu; obtain ⟨hxu,-⟩ := hu; have k0 := hxu.cell c0; have k1 := hxu.cell c1; have k2 := hxu.cell c2; go_simp; first | done | (with_reducible rfl)); (try simp only [nrm])
    refine wpT_tk 3 HSS ?_ (hy := by intro u hu; obtain ⟨hxu,-⟩ := hu; have k0 := hxu.cell c0; have k1 := hxu.cell c1; have k2 := hxu.cell c2; go_simp; first | done | (with_reducible rfl)); (try simp only [nrm])
    refine wpT_tk 4 HSS ?_ (hy := by intro u hu; obtain ⟨hxu,-⟩ := hu; have k0 := hxu.cell c0; have k1 := hxu.cell c1; have k2 := hxu.cell c2; go_simp; first | done | (with_reducible rfl)); (try simp only [nrm])
    refine wpT_tk 5 HSS ?_ (hy := by intro u hu; obtain ⟨hxu,-⟩ := hu; have k0 := hxu.cell c0; have k1 := hxu.cell c1; have k2 := hxu.cell c2; go_simp; first | done | (with_reducible rfl)); (try simp only [nrm])
    refine wpT_tk 6 HSS ?_ (hy := by intro u hu; obtain ⟨hxu,-⟩ := hu; have k0 := hxu.cell c0; have k1 := hxu.cell c1; have k2 := hxu.cell c2; go_simp; first | done | (with_reducible rfl)); (try simp only [nrm])
    refine wpT_tk 7 HSS ?_ (hy := by intro u hu; obtain ⟨hxu,-⟩ := hu; have k0 := hxu.cell c0; have k1 := hxu.cell c1; have k2 := hxu.cell c2; go_simp; first | done | (with_reducible rfl)); (try simp only [nrm])
    refine wpT_tk 8 HSS ?_ (hy := by intro u hu; obtain ⟨hxu,-⟩ := hu; have k0 := hxu.cell c0; have k1 := hxu.cell c1; have k2 := hxu.cell c2; go_simp; first | done | (with_reducible rfl)); (try simp only [nrm])
    refine wpT_tk 9 HSS ?_ (hy := by intro u hu; obtain ⟨hxu,-⟩ := hu; have k0 := hxu.cell c0; have k1 := hxu.cell c1; have k2 := hxu.cell c2; go_simp; first | done | (with_reducible rfl)); (try simp only [nrm])
    refine wpT_tk 11 HSS ?_ (hy := by intro u hu; obtain ⟨hxu,-⟩ := hu; have k0 := hxu.cell c0; have k1 := hxu.cell c1; have k2 := hxu.cell c2; go_simp; first | done | (with_reducible rfl)); (try simp only [nrm])
    refine wpT_tk 12 HSS ?_ (hy := by intro u hu; obtain ⟨hxu,-⟩ := hu; have k0 := hxu.cell c0; have k1 := hxu.cell c1; have k2 := hxu.cell c2; go_simp; first | done | (with_reducible rfl)); (try simp only [nrm])
    refine wpT_tk 13 HSS ?_ (hy := by intro u hu; obtain ⟨hxu,-⟩ := hu; have k0 := hxu.cell c0; have k1 := hxu.cell c1; have k2 := hxu.cell c2; go_simp; first | done | (with_reducible rfl)); (try simp only [nrm])
    refine wpT_tk 14 HSS ?_ (hy := by intro u hu; obtain ⟨hxu,-⟩ := hu; have k0 := hxu.cell c0; have k1 := hxu.cell c1; have k2 := hxu.cell c2; go_simp; first | done | (with_reducible rfl)); (try simp only [nrm])
    refine wpT_tk 15 HSS ?_ (hy := by intro u hu; obtain ⟨hxu,-⟩ := hu; have k0 := hxu.cell c0; have k1 := hxu.cell c1; have k2 := hxu.cell c2; go_simp; first | done | (with_reducible rfl)); (try simp only [nrm])
    refine wpT_on 10 (fun K' hK => ?_); go_simp
    (with_reducible refine (HP.out _ HSS.1).mono ?_)
    rintro e w2 ⟨rfl,hx⟩
    have HSS2 : Ext w w2 ∧ w2.heap[w.heap.size]? = some (.cells #[.int .i64 0,.int .i64 0,.int .i64 0,.int .i64 0,.bool false,.bool false] 101 (0,0)) := ⟨HSS.1.trans hx,block_ext' hx HSS.2⟩
    refine hK.out _ _ HSS2 ?_
    clear HSS hK K' hx
    have HSS := HSS2
    clear HSS2
    (try simp only [nrm])
    refine wpT_on 16 (fun K' hK => ?_); go_simp
    (with_reducible refine (HR.out _ HSS.1).mono ?_)
    rintro e w3 ⟨rfl,hx⟩
    have HSS2 : Ext w w3 ∧ w3.heap[w.heap.size]? = some (.cells #[.int .i64 0,.int .i64 0,.int .i64 0,.int .i64 0,.bool false,.bool false] 101 (0,0)) := ⟨HSS.1.trans hx,block_ext' hx HSS.2⟩
    refine hK.out _ _ HSS2 ?_
    clear HSS hK K' hx
    (try simp only [nrm])
    refine wpT_done (by kernel_rfl) ?_
    refine wpAny_tk 17 ?_; (try simp only [nrm])
    have m0 : w3.cell? ⟨w.heap.size,0,none⟩ = some (.int .i64 0) := by simp [World.cell?,HSS2.2]
    have m1 : w3.cell? ⟨w.heap.size,1,none⟩ = some (.int .i64 0) := by simp [World.cell?,HSS2.2]
    have m2 : w3.cell? ⟨w.heap.size,2,none⟩ = some (.int .i64 0) := by simp [World.cell?,HSS2.2]
    have m3 : w3.cell? ⟨w.heap.size,3,none⟩ = some (.int .i64 0) := by simp [World.cell?,HSS2.2]
    have m4 : w3.cell? ⟨w.heap.size,4,none⟩ = some (.bool false) := by simp [World.cell?,HSS2.2]
    have m5 : w3.cell? ⟨w.heap.size,5,none⟩ = some (.bool false) := by simp [World.cell?,HSS2.2]
    have fz : ∀ j,w3.frozen? ⟨w.heap.size,j,none⟩ = false := fun j => by simp [World.frozen?,HSS2.2]
    have hx3 := HSS2.1
    have hb4 := six_set HSS2.2 (.int .i64 n.id) (.int .i64 (-1)) (.int .i64 n.wt) (.int .i64 n.pass) (.bool n.thr) (.bool n.rdy)
    clear HSS2
    refine wpAny_on 18 (fun K' hK => ?_); go_simp
    refine hK.out _ _ ?_
    (try simp only [nrm])
    refine wpAny_done (by kernel_rfl) ?_ _
    clear hK K' m0 m1 m2 m3 m4 m5 fz
    have hx4 : Ext w ((((((w3.setCell ⟨w.heap.size,0,none⟩ (.int .i64 n.id)).setCell ⟨w.heap.size,1,none⟩ (.int .i64 (-1))).setCell ⟨w.heap.size,2,none⟩ (.int .i64 n.wt)).setCell ⟨w.heap.size,3,none⟩ (.int .i64 n.pass)).setCell ⟨w.heap.size,4,none⟩ (.bool n.thr)).setCell ⟨w.heap.size,5,none⟩ (.bool n.rdy)) := six_ext hx3 _ _ _ _ _ _
    generalize ((((((w3.setCell ⟨w.heap.size,0,none⟩ (.int .i64 n.id)).setCell ⟨w.heap.size,1,none⟩ (.int .i64 (-1))).setCell ⟨w.heap.size,2,none⟩ (.int .i64 n.wt)).setCell ⟨w.heap.size,3,none⟩ (.int .i64 n.pass)).setCell ⟨w.heap.size,4,none⟩ (.bool n.thr)).setCell ⟨w.heap.size,5,none⟩ (.bool n.rdy)) = w4 at *
    have m0 : w4.cell? ⟨w.heap.size,0,none⟩ = some (.int .i64 n.id) := by simp [World.cell?,hb4]
    have m1 : w4.cell? ⟨w.heap.size,1,none⟩ = some (.int .i64 (-1)) := by simp [World.cell?,hb4]
    have m2 : w4.cell? ⟨w.heap.size,2,none⟩ = some (.int .i64 n.wt) := by simp [World.cell?,hb4]
    have m3 : w4.cell? ⟨w.heap.size,3,none⟩ = some (.int .i64 n.pass) := by simp [World.cell?,hb4]
    have m4 : w4.cell? ⟨w.heap.size,4,none⟩ = some (.bool n.thr) := by simp [World.cell?,hb4]
    have m5 : w4.cell? ⟨w.heap.size,5,none⟩ = some (.bool n.rdy) := by simp [World.cell?,hb4]
    go_wp2
    exact bodyPost_ret (v := nnV n.nn) (by rw [HV.out]; simp [results,Tryz.results86,go_sem,m0,m1,m2,m3,m4,m5]) rfl ⟨by rw [HV.out],hx4⟩
  · obtain ⟨p,hp,he,-⟩ := (hc n hn).2.2 (by omega)
    rw [grp_up h0] at c3
    have d0 := (h.cells hp).1
    rw [he] at d0
    have hgl := h.nlt hp
    rw [he] at hgl
    have HV : Hid (nnV n.nn = .agg #[.int .i64 n.id,.int .i64 n.par,.int .i64 n.wt,.int .i64 n.pass,.bool n.thr,.bool n.rdy]) := rfl
    rw [HV.out]
    clear h hq hs hc hb hr hl h0 hn hp he
    generalize W.nb n.id = b at *
    generalize W.nb n.par = g at *
    go_enter Tryz.func86,Tryz.ntmps86
    go_wp2_with fail
    refine wp_region_T 17 2 (fun u => Ext w u ∧ u.heap[w.heap.size]? = some (.cells #[.int .i64 0,.int .i64 0,.int .i64 0,.int .i64 0,.bool false,.bool false] 101 (0,0))) (by kernel_rfl) (by kernel_rfl) ?_
    have HSS : Ext w (w.alloc (.cells #[.int .i64 0,.int .i64 0,.int .i64 0,.int .i64 0,.bool false,.bool false] 101 (0,0))).drew ∧ (w.alloc (.cells #[.int .i64 0,.int .i64 0,.int .i64 0,.int .i64 0,.bool false,.bool false] 101 (0,0))).drew.heap[w.heap.size]? = some (.cells #[.int .i64 0,.int .i64 0,.int .i64 0,.int .i64 0,.bool false,.bool false] 101 (0,0)) :=
      ⟨Ext.drew (Ext.alloc (Ext.refl w) _),heap_alloc_new w _⟩
    generalize (w.alloc (.cells #[.int .i64 0,.int .i64 0,.int .i64 0,.int .i64 0,.bool false,.bool false] 101 (0,0))).drew = w1 at *
    refine wpT_tk 0 HSS ?_ (hy := by intro u hu; obtain ⟨hxu,-⟩ := hu; have k0 := hxu.cell c0; have k1 := hxu.cell c1; have k2 := hxu.cell c2; go_simp; first | done | (with_reducible rfl)); (try simp only [nrm])
    refine wpT_tk 1 HSS ?_ (hy := by intro u hu; obtain ⟨hxu,-⟩ := hu; have k0 := hxu.cell c0; have k1 := hxu.cell c1; have k2 := hxu.cell c2; go_simp; first | done | (with_reducible rfl)); (try simp only [nrm])
    refine wpT_tk 2 HSS ?_ (hy := by intro u hu; obtain ⟨hxu,-⟩ := hu; have k0 := hxu.cell c0; have k1 := hxu.cell c1; have k2 := hxu.cell c2; go_simp; first | done | (with_reducible rfl)); (try simp only [nrm])
    refine wpT_tk 3 HSS ?_ (hy := by intro u hu; obtain ⟨hxu,-⟩ := hu; have k0 := hxu.cell c0; have k1 := hxu.cell c1; have k2 := hxu.cell c2; go_simp; first | done | (with_reducible rfl)); (try simp only [nrm])
    refine wpT_tk 4 HSS ?_ (hy := by intro u hu; obtain ⟨hxu,-⟩ := hu; have k0 := hxu.cell c0; have k1 := hxu.cell c1; have k2 := hxu.cell c2; go_simp; first | done | (with_reducible rfl)); (try simp only [nrm])
    refine wpT_tk 5 HSS ?_ (hy := by intro u hu; obtain ⟨hxu,-⟩ := hu; have k0 := hxu.cell c0; have k1 := hxu.cell c1; have k2 := hxu.cell c2; go_simp; first | done | (with_reducible rfl)); (try simp only [nrm])
    refine wpT_tk 6 HSS ?_ (hy := by intro u hu; obtain ⟨hxu,-⟩ := hu; have k0 := hxu.cell c0; have k1 := hxu.cell c1; have k2 := hxu.cell c2; go_simp; first | done | (with_reducible rfl)); (try simp only [nrm])
    refine wpT_tk 7 HSS ?_ (hy := by intro u hu; obtain ⟨hxu,-⟩ := hu; have k0 := hxu.cell c0; have k1 := hxu.cell c1; have k2 := hxu.cell c2; go_simp; first | done | (with_reducible rfl)); (try simp only [nrm])
    refine wpT_tk 8 HSS ?_ (hy := by intro u hu; obtain ⟨hxu,-⟩ := hu; have k0 := hxu.cell c0; have k1 := hxu.cell c1; have k2 := hxu.cell c2; go_simp; first | done | (with_reducible rfl)); (try simp only [nrm])
    refine wpT_tk 9 HSS ?_ (hy := by intro u hu; obtain ⟨hxu,-⟩ := hu; have k0 := hxu.cell c0; have k1 := hxu.cell c1; have k2 := hxu.cell c2; go_simp; first | done | (with_reducible rfl)); (try simp only [nrm])
    refine wpT_tk 11 HSS ?_ (hy := by intro u hu; obtain ⟨hxu,-⟩ := hu; have k0 := hxu.cell c0; have k1 := hxu.cell c1; have k2 := hxu.cell c2; go_simp; first | done | (with_reducible rfl)); (try simp only [nrm])
    refine wpT_tk 12 HSS ?_ (hy := by intro u hu; obtain ⟨hxu,-⟩ := hu; have k0 := hxu.cell c0; have k1 := hxu.cell c1; have k2 := hxu.cell c2; go_simp; first | done | (with_reducible rfl)); (try simp only [nrm])
    refine wpT_tk 13 HSS ?_ (hy := by intro u hu; obtain ⟨hxu,-⟩ := hu; have k0 := hxu.cell c0; have k1 := hxu.cell c1; have k2 := hxu.cell c2; go_simp; first | done | (with_reducible rfl)); (try simp only [nrm])
    refine wpT_tk 14 HSS ?_ (hy := by intro u hu; obtain ⟨hxu,-⟩ := hu; have k0 := hxu.cell c0; have k1 := hxu.cell c1; have k2 := hxu.cell c2; go_simp; first | done | (with_reducible rfl)); (try simp only [nrm])
    refine wpT_tk 15 HSS ?_ (hy := by intro u hu; obtain ⟨hxu,-⟩ := hu; have k0 := hxu.cell c0; have k1 := hxu.cell c1; have k2 := hxu.cell c2; go_simp; first | done | (with_reducible rfl)); (try simp only [nrm])
    refine wpT_on 10 (fun K' hK => ?_); go_simp
    (with_reducible refine (HP.out _ HSS.1).mono ?_)
    rintro e w2 ⟨rfl,hx⟩
    have HSS2 : Ext w w2 ∧ w2.heap[w.heap.size]? = some (.cells #[.int .i64 0,.int .i64 0,.int .i64 0,.int .i64 0,.bool false,.bool false] 101 (0,0)) := ⟨HSS.1.trans hx,block_ext' hx HSS.2⟩
    refine hK.out _ _ HSS2 ?_
    clear HSS hK K' hx
    have HSS := HSS2
    clear HSS2
    (try simp only [nrm])
    refine wpT_on 16 (fun K' hK => ?_); go_simp
    (with_reducible refine (HR.out _ HSS.1).mono ?_)
    rintro e w3 ⟨rfl,hx⟩
    have HSS2 : Ext w w3 ∧ w3.heap[w.heap.size]? = some (.cells #[.int .i64 0,.int .i64 0,.int .i64 0,.int .i64 0,.bool false,.bool false] 101 (0,0)) := ⟨HSS.1.trans hx,block_ext' hx HSS.2⟩
    refine hK.out _ _ HSS2 ?_
    clear HSS hK K' hx
    (try simp only [nrm])
    refine wpT_done (by kernel_rfl) ?_
    refine wpAny_tk 17 ?_; (try simp only [nrm])
    have m0 : w3.cell? ⟨w.heap.size,0,none⟩ = some (.int .i64 0) := by simp [World.cell?,HSS2.2]
    have m1 : w3.cell? ⟨w.heap.size,1,none⟩ = some (.int .i64 0) := by simp [World.cell?,HSS2.2]
    have m2 : w3.cell? ⟨w.heap.size,2,none⟩ = some (.int .i64 0) := by simp [World.cell?,HSS2.2]
    have m3 : w3.cell? ⟨w.heap.size,3,none⟩ = some (.int .i64 0) := by simp [World.cell?,HSS2.2]
    have m4 : w3.cell? ⟨w.heap.size,4,none⟩ = some (.bool false) := by simp [World.cell?,HSS2.2]
    have m5 : w3.cell? ⟨w.heap.size,5,none⟩ = some (.bool false) := by simp [World.cell?,HSS2.2]
    have fz : ∀ j,w3.frozen? ⟨w.heap.size,j,none⟩ = false := fun j => by simp [World.frozen?,HSS2.2]
    have hx3 := HSS2.1
    have hb4 := six_set HSS2.2 (.int .i64 n.id) (.int .i64 n.par) (.int .i64 n.wt) (.int .i64 n.pass) (.bool n.thr) (.bool n.rdy)
    clear HSS2
    refine wpAny_on 18 (fun K' hK => ?_); go_simp
    refine hK.out _ _ ?_
    (try simp only [nrm])
    refine wpAny_done (by kernel_rfl) ?_ _
    clear hK K' m0 m1 m2 m3 m4 m5 fz
    have hx4 : Ext w ((((((w3.setCell ⟨w.heap.size,0,none⟩ (.int .i64 n.id)).setCell ⟨w.heap.size,1,none⟩ (.int .i64 n.par)).setCell ⟨w.heap.size,2,none⟩ (.int .i64 n.wt)).setCell ⟨w.heap.size,3,none⟩ (.int .i64 n.pass)).setCell ⟨w.heap.size,4,none⟩ (.bool n.thr)).setCell ⟨w.heap.size,5,none⟩ (.bool n.rdy)) := six_ext hx3 _ _ _ _ _ _
    generalize ((((((w3.setCell ⟨w.heap.size,0,none⟩ (.int .i64 n.id)).setCell ⟨w.heap.size,1,none⟩ (.int .i64 n.par)).setCell ⟨w.heap.size,2,none⟩ (.int .i64 n.wt)).setCell ⟨w.heap.size,3,none⟩ (.int .i64 n.pass)).setCell ⟨w.heap.size,4,none⟩ (.bool n.thr)).setCell ⟨w.heap.size,5,none⟩ (.bool n.rdy)) = w4 at *
    have m0 : w4.cell? ⟨w.heap.size,0,none⟩ = some (.int .i64 n.id) := by simp [World.cell?,hb4]
    have m1 : w4.cell? ⟨w.heap.size,1,none⟩ = some (.int .i64 n.par) := by simp [World.cell?,hb4]
    have m2 : w4.cell? ⟨w.heap.size,2,none⟩ = some (.int .i64 n.wt) := by simp [World.cell?,hb4]
    have m3 : w4.cell? ⟨w.heap.size,3,none⟩ = some (.int .i64 n.pass) := by simp [World.cell?,hb4]
    have m4 : w4.cell? ⟨w.heap.size,4,none⟩ = some (.bool n.thr) := by simp [World.cell?,hb4]
    have m5 : w4.cell? ⟨w.heap.size,5,none⟩ = some (.bool n.rdy) := by simp [World.cell?,hb4]
    go_wp2
    exact bodyPost_ret (v := nnV n.nn) (by rw [HV.out]; simp [results,Tryz.results86,go_sem,m0,m1,m2,m3,m4,m5]) rfl ⟨by rw [HV.out],hx4⟩
end
end Go.Proofs.YtocicffmajbecaaGreatDoor
