/- The program's own tree: a thread made ready, and the groups around it. -/
import Derived.Test.YtocicffmajbecaaGreatDoorPt3
import Derived.Test.YtocicffmajbecaaGreatDoorTail
namespace Go.Proofs.YtocicffmajbecaaGreatDoor
open Go.RowKit
set_option linter.unusedSimpArgs false
def Clo (l : List Nd) : Prop := ∀ n ∈ l,0 ≤ n.id ∧ (n.par < 0 → n.thr = false) ∧ (0 ≤ n.par → ∃ p ∈ l,p.id = n.par ∧ p.thr = false)
def Chain (l : List Nd) : Nat → Int → Prop
  | 0,_ => False
  | f + 1,id => ∃ n ∈ l,n.id = id ∧ (n.par < 0 ∨ Chain l f n.par)
section
variable {l : List Nd} {id : Int} {f : Nd → Nd}
theorem Clo.upd (h : Clo l) (hf : ∀ m,(f m).id = m.id ∧ (f m).par = m.par ∧ (f m).thr = m.thr) : Clo (upd id f l) := by
  intro n' hn'
  obtain ⟨n,hn,rfl⟩ := mem_upd.1 hn'
  have hi : ∀ m : Nd,(if m.id = id then f m else m).id = m.id := fun m => by split <;> simp [hf]
  have ht : ∀ m : Nd,(if m.id = id then f m else m).thr = m.thr := fun m => by split <;> simp [hf]
  have hpp : ∀ m : Nd,(if m.id = id then f m else m).par = m.par := fun m => by split <;> simp [hf]
  rw [ht,hpp,hi]
  refine ⟨(h n hn).1,(h n hn).2.1,fun h0 => ?_⟩
  obtain ⟨p,hp,e,t⟩ := (h n hn).2.2 h0
  exact ⟨_,mem_upd.2 ⟨p,hp,rfl⟩,by rw [hi]; exact e,by rw [ht]; exact t⟩
theorem Chain.upd (hf : ∀ m,(f m).id = m.id ∧ (f m).par = m.par ∧ (f m).thr = m.thr) : ∀ (k : Nat) (j : Int),Chain l k j → Chain (upd id f l) k j
  | 0,_,h => h
  | k + 1,j,h => by
    obtain ⟨n,hn,e,h⟩ := h
    have hi : ∀ m : Nd,(if m.id = id then f m else m).id = m.id := fun m => by split <;> simp [hf]
    have hpp : ∀ m : Nd,(if m.id = id then f m else m).par = m.par := fun m => by split <;> simp [hf]
    refine ⟨_,mem_upd.2 ⟨n,hn,rfl⟩,by rw [hi]; exact e,?_⟩
    rw [hpp]
    exact h.imp (fun x => x) (Chain.upd hf k n.par)
theorem Bdd.upd (h : Bdd l) (hf : ∀ m ∈ l,m.id = id → (0 ≤ (f m).pass ∧ (f m).pass ≤ 1099511627776) ∧ 0 ≤ (f m).now ∧ (f m).now ≤ 1099511627776) : Bdd (upd id f l) := by
  intro n' hn'
  obtain ⟨n,hn,rfl⟩ := mem_upd.1 hn'
  by_cases e : n.id = id
  · rw [if_pos e]; exact hf n hn e
  · rw [if_neg e]; exact h n hn
end
def PGo (base : Nat) (x : Site) (W : Wit) (l l' : List Nd) (w w' : World) : Prop :=
  ∃ W',Pt base x W' l' w' ∧ QOk W' l' ∧ Fr (Own x W l) (Own x W' l') w w' ∧ W'.v = W.v ∧ W'.nb = W.nb ∧ W'.qb = W.qb
theorem PGo.trans {base : Nat} {x : Site} {W W1 : Wit} {l l1 l2 : List Nd} {w w1 w2 : World} (h : Fr (Own x W l) (Own x W1 l1) w w1) (h1 : W1.v = W.v) (h2 : W1.nb = W.nb) (h3 : W1.qb = W.qb) (k : PGo base x W1 l1 l2 w1 w2) : PGo base x W l l2 w w2 := by
  obtain ⟨W',a,b,c,d,e,f⟩ := k
  exact ⟨W',a,b,h.trans c,d.trans h1,e.trans h2,f.trans h3⟩
theorem PGo.ext {base : Nat} {x : Site} {W : Wit} {l l' : List Nd} {w w' w'' : World} (h : PGo base x W l l' w w') (k : Ext w' w'') : PGo base x W l l' w w'' := by
  obtain ⟨W',a,b,c,d⟩ := h
  exact ⟨W',a.ext k,b,c.ext k,d⟩
theorem fr_upd {x : Site} {W : Wit} {l : List Nd} {id : Int} {f : Nd → Nd} {S : Nat → Prop} {w w' : World} (hf : ∀ n,(f n).id = n.id ∧ (f n).par = n.par ∧ (f n).thr = n.thr) (h : Fr S (Own x W l) w w') : Fr S (Own x W (upd id f l)) w w' := h.to fun i hi => (own_upd hf i).1 hi
section
variable {base : Nat} {x : Site} {W : Wit} {l : List Nd} {w : World}
theorem rdyF_same (now : Int) : ∀ n,(rdyF now n).id = n.id ∧ (rdyF now n).par = n.par ∧ (rdyF now n).thr = n.thr := fun _ => ⟨rfl,rfl,rfl⟩
theorem onF_same : ∀ n,(onF n).id = n.id ∧ (onF n).par = n.par ∧ (onF n).thr = n.thr := fun _ => ⟨rfl,rfl,rfl⟩
theorem offF_same : ∀ n,(offF n).id = n.id ∧ (offF n).par = n.par ∧ (offF n).thr = n.thr := fun _ => ⟨rfl,rfl,rfl⟩
theorem wakeU_rdy {f : Nat} (hs : Ids l) {n : Nd} (hn : n ∈ l) (hr : n.rdy = true) : wakeU f l n.id = l := by
  cases f with
  | zero => rfl
  | succ f => simp only [wakeU,getU_of hs hn,hr,if_true]
theorem wakeU_top {f : Nat} (hs : Ids l) {n : Nd} (hn : n ∈ l) (hp : n.par < 0) : wakeU (f + 1) l n.id = upd n.id onF l := by
  simp only [wakeU,getU_of hs hn]
  by_cases hr : n.rdy = true
  · rw [if_pos hr,upd_same]
    intro m hm e
    rw [uniqU hs hm hn e]
    cases n
    simp only at hr
    subst hr
    rfl
  · rw [if_neg hr,if_pos hp]
theorem wakeU_on {f : Nat} (hs : Ids l) {n p : Nd} (hn : n ∈ l) (hr : n.rdy = false) (hp : 0 ≤ n.par) (hpl : p ∈ l) (he : p.id = n.par) : wakeU (f + 1) l n.id = wakeU f (upd n.id (rdyF p.now) l) p.id := by
  simp only [wakeU,getU_of hs hn]
  rw [if_neg (by rw [hr]; simp),if_neg (by omega),← he,nowU_of hs hpl]
theorem readyQ_at {n : Nd} (h : Pt base x W l w) (hq : QOk W l) (hs : Ids l) (hc : Clo l) (hl : l.length ≤ 60) (hn : n ∈ l) (h0 : ¬ n.par < 0) :
    Calls Tryz.prog 103 #[.pointer (some ⟨W.nb n.id,0,none⟩)] w (Yields w (.bool n.rdy)) := by
  obtain ⟨p,hp,he,ht⟩ := (hc n hn).2.2 (by omega)
  have hlen := Nat.le_trans (hq.len hs hp ht) hl
  rw [← hq.rdyP hs hn hp ht he (by omega)]
  refine ready_up h hn (by omega) hp he ht (by omega)
def WakeJ (base : Nat) (x : Site) (W : Wit) (l : List Nd) (w0 : World) (L : List Nd) (f : Nat) (a : Act) (wc : World) : Prop :=
  ∃ (W1 : Wit) (lc : List Nd) (n : Nd) (u1 u2 u3 u4 u5 u6 u7 u8 u9 u10 u11 u12 u13 u14 u15 u16 u17 u18 u19 u20 u21 u22 u23 u24 u25 u26 u27 u28 u29 u30 u31 u32 u33 u34 u35 u36 u37 u38 u39 u40 u41 : Value),a = { tmps := #[.pointer (some ⟨W1.nb n.id,0,none⟩),u1,u2,u3,u4,u5,u6,u7,u8,u9,u10,u11,u12,u13,u14,u15,u16,u17,u18,u19,u20,u21,u22,u23,u24,u25,u26,u27,u28,u29,u30,u31,u32,u33,u34,u35,u36,u37,u38,u39,u40,u41],defers := [] } ∧ Pt base x W1 lc wc ∧ QOk W1 lc ∧ Ids lc ∧ Clo lc ∧ Bdd lc ∧ lc.length ≤ 60 ∧ n ∈ lc ∧ Chain lc f n.id ∧
    Fr (Own x W l) (Own x W1 lc) w0 wc ∧ (W1.v = W.v ∧ W1.nb = W.nb ∧ W1.qb = W.qb) ∧ Hid (wakeU f lc n.id = L)
set_option maxRecDepth 100000 in
set_option maxHeartbeats 4000000 in
theorem wake_any (h : Pt base x W l w) (hq : QOk W l) (hs : Ids l) (hc : Clo l) (hb : Bdd l) (hl : l.length ≤ 60) {n : Nd} (hn : n ∈ l) (f : Nat) (hch : Chain l f n.id) :
    Calls Tryz.prog 80 #[.pointer (some ⟨W.nb n.id,0,none⟩)] w fun e w' => e = .returned (.tuple #[]) ∧ PGo base x W l (wakeU f l n.id) w w' := by
  generalize hLL : wakeU f l n.id = L
  have start : ∀ (u1 u2 u3 u4 u5 u6 u7 u8 u9 u10 u11 u12 u13 u14 u15 u16 u17 u18 u19 u20 u21 u22 u23 u24 u25 u26 u27 u28 u29 u30 u31 u32 u33 u34 u35 u36 u37 u38 u39 u40 u41 : Value),WakeJ base x W l w L f { tmps := #[.pointer (some ⟨W.nb n.id,0,none⟩),u1,u2,u3,u4,u5,u6,u7,u8,u9,u10,u11,u12,u13,u14,u15,u16,u17,u18,u19,u20,u21,u22,u23,u24,u25,u26,u27,u28,u29,u30,u31,u32,u33,u34,u35,u36,u37,u38,u39,u40,u41],defers := [] } w := fun u1 u2 u3 u4 u5 u6 u7 u8 u9 u10 u11 u12 u13 u14 u15 u16 u17 u18 u19 u20 u21 u22 u23 u24 u25 u26 u27 u28 u29 u30 u31 u32 u33 u34 u35 u36 u37 u38 u39 u40 u41 =>
    ⟨W,l,n,_,_,_,_,_,_,_,_,_,_,_,_,_,_,_,_,_,_,_,_,_,_,_,_,_,_,_,_,_,_,_,_,_,_,_,_,_,_,_,_,_,rfl,h,hq,hs,hc,hb,hl,hn,hch,Fr.refl _ _,⟨rfl,rfl,rfl⟩,hLL⟩
  have ST := hid start
  clear start h hq hs hc hb hl hch hLL hn
  go_enter Tryz.func80,Tryz.ntmps80
  go_wp2_with fail
  refine wp_up 0 (WakeJ base x W l w L) rfl ⟨f,by apply ST.out⟩ ?_
  clear ST
  refine fun f a wc => ex_elim fun W1 => ex_elim fun lc => ex_elim fun n => ex8 fun u1 u2 u3 u4 u5 u6 u7 u8 => ex8 fun u9 u10 u11 u12 u13 u14 u15 u16 => ex8 fun u17 u18 u19 u20 u21 u22 u23 u24 => ex8 fun u25 u26 u27 u28 u29 u30 u31 u32 => ex8 fun u33 u34 u35 u36 u37 u38 u39 u40 => ex_elim fun u41 => ?_
  rintro ⟨rfl,h,hq,hs,hc,hb,hl,hn,hch,hF,hW,hL⟩
  obtain ⟨f,rfl⟩ : ∃ f',f = f' + 1 := by
    cases f with
    | zero => exact hch.elim
    | succ f => exact ⟨f,rfl⟩
  obtain ⟨c0,-,-,c3,c4,-⟩ := h.cells hn
  have fz := h.free hn 4
  have hbl := h.nlt hn
  have H := hid h
  have HQ := hid hq
  have HS := hid hs
  have HC := hid hc
  have HB := hid hb
  have HL := hid hl
  have HN := hid hn
  have HCH := hid hch
  have HF := hid hF
  have HW := hid hW
  clear h hq hs hc hb hl hn hch hF hW
  by_cases h0 : n.par < 0
  · have HE : Hid (PGo base x W l L w wc) := by
      have e := wakeU_top (f := f) HS.out HN.out h0
      rw [← hL.out,e]
      refine ⟨W1,H.out.setRdy HS.out n.id onF fun _ => ⟨rfl,rfl,rfl,rfl,rfl,rfl⟩,HQ.out.quiet HS.out HN.out onF onF_same ?_,fr_upd onF_same HF.out,HW.out⟩
      rintro ⟨g,hg,e⟩
      have := (HC.out g hg).1
      omega
    rw [grp_top h0] at c3
    generalize W1.nb n.id = b at *
    go_wp2
    simp only [Exit.jump]
    go_returns
    exact ⟨rfl,HE.out⟩
  · obtain ⟨p,hp,he,ht⟩ := (HC.out n HN.out).2.2 (by omega)
    rw [grp_up h0] at c3
    have hlen : ∀ g ∈ lc,g.thr = false → (W1.rw g.id).length ≤ 60 := fun g hg hgt => Nat.le_trans (HQ.out.len HS.out hg hgt) HL.out
    have hrd := HQ.out.rdyP HS.out HN.out hp ht he (by omega)
    have hcall := hid (readyQ_at H.out HQ.out HS.out HC.out HL.out HN.out h0)
    cases hr : n.rdy with
    | true =>
      have HE : Hid (PGo base x W l L w wc) := by
        rw [← hL.out,wakeU_rdy HS.out HN.out hr]
        exact ⟨W1,H.out,HQ.out,HF.out,HW.out⟩
      rw [hr] at hcall
      clear hlen hrd hr hp he ht h0
      go_wp2_with (go_at_call 103; (with_reducible refine hcall.out.yields ?_); intro p0)
      simp only [Exit.jump]
      go_returns
      exact ⟨rfl,HE.out.ext ext_by⟩
    | false =>
      rw [hr] at hcall
      have HEN := hid (wakeU_on (f := f) HS.out HN.out hr (by omega) hp he)
      rw [hL.out] at HEN
      have HR := hid hr
      have HP := hid hp
      have HT := hid ht
      have HI := hid he
      have H0 := hid h0
      have HLN := hid (hlen p hp ht)
      have hchn : Chain lc f p.id := by
        obtain ⟨m,hm,e,h⟩ := HCH.out
        rw [uniqU HS.out hm HN.out e] at h
        rw [he]
        rcases h with h | h
        · exact absurd h h0
        · exact h
      have HCN := hid hchn
      clear hlen hrd hr hp ht he h0 hchn HCH
      go_wp2_with fail
      (with_reducible refine hcall.out.mono ?_)
      rintro e w1 ⟨rfl,hx⟩
      have H1 := hid (H.out.ext hx)
      have HF1 := hid (HF.out.ext hx)
      have d3 := hx.cell c3
      have d4 := hx.cell c4
      have fz1 := H1.out.free HN.out 4
      have hbl1 : W1.nb n.id < w1.heap.size := Nat.lt_of_lt_of_le hbl hx.size
      clear c0 c3 c4 fz hbl hx hcall
      have hbn := HB.out n HN.out
      have hbp := HB.out p HP.out
      have hmx := run_max_neg (P := Tryz.prog) (d := n.pass - p.now) (by omega)
      have hsm := fun t w => run_complex_sum (P := Tryz.prog) w .add (.inl rfl) t .f64 (Fz n.pass) (Fz n.now) (Fz (max 0 (-(n.pass - p.now)))) (Fz 0) _ _ (sum_Fz (by omega) (by omega) (by omega) (by decide))
      rw [zero_Fz,show n.pass + max 0 (-(n.pass - p.now)) = max n.pass p.now by omega,Int.add_zero] at hsm
      have HBN := hid hbn
      have HBP := hid hbp
      clear hbn hbp
      go_wp2_with fail
      refine wp_region_T 10 3 (fun u => u.cell? ⟨W1.nb n.id,4,none⟩ = some (.complex .f64 (Fz n.pass) (Fz n.now))) (by kernel_rfl) (by kernel_rfl) ?_
      have H2 := hid (H1.out.ext (Ext.drew (Ext.refl w1)))
      have HF2 := hid (HF1.out.ext (Ext.drew (Ext.refl w1)))
      have HSS : w1.drew.cell? ⟨W1.nb n.id,4,none⟩ = some (.complex .f64 (Fz n.pass) (Fz n.now)) := d4
      clear H1 HF1 d3 d4 fz1 hbl1
      generalize w1.drew = w2 at *
      have hah := hid (ahead_at H2.out HB.out HN.out HP.out HI.out (by have := H0.out; omega))
      refine wpT_tk 0 HSS ?_; (try simp only [nrm])
      refine wpT_tk 1 HSS ?_; (try simp only [nrm])
      refine wpT_tk 2 HSS ?_; (try simp only [nrm])
      refine wpT_tk 3 HSS ?_; (try simp only [nrm])
      refine wpT_tk 4 HSS ?_; (try simp only [nrm])
      refine wpT_on 5 (fun K' hK => ?_); go_simp
      (with_reducible refine hah.out.mono ?_)
      rintro e w3 ⟨rfl,hx⟩
      have H3 := hid (H2.out.ext hx)
      have HF3 := hid (HF2.out.ext hx)
      have HSS2 := hx.cell HSS
      refine hK.out _ _ HSS2 ?_
      clear HSS hK K' H2 HF2 hx hah
      have HSS := HSS2
      (try simp only [nrm])
      refine wpT_tk 6 HSS ?_; (try simp only [nrm])
      refine wpT_tk 7 HSS ?_; (try simp only [nrm])
      refine wpT_tk 8 HSS ?_; (try simp only [nrm])
      refine wpT_tk 9 HSS ?_; (try simp only [nrm])
      refine wpT_done (by kernel_rfl) ?_
      refine wpAny_tk 10 ?_; (try simp only [nrm])
      refine wpAny_tk 11 ?_; (try simp only [nrm])
      have fz3 := H3.out.free HN.out 4
      refine wpAny_on 12 (fun K' hK => ?_); go_simp
      refine hK.out _ _ ?_
      (try simp only [nrm])
      refine wpAny_done (by kernel_rfl) ?_ _
      clear hK K' HSS HSS2 hmx hsm fz3
      have H4 := hid (H3.out.setAt HN.out HS.out (rdyF p.now) fun _ => ⟨rfl,rfl,rfl,rfl⟩)
      have HF4 : Hid (Fr (Own x W l) (Own x W1 (upd n.id (rdyF p.now) lc)) w _) := fr_upd (rdyF_same p.now) (HF3.out.trans (Fr.set (.inr (.inr ⟨n,HN.out,.inl rfl⟩)) 4 (.complex .f64 (Fz (max n.pass p.now)) (Fz n.now))))
      clear H3 HF3
      rw [show (rdyF p.now n).pass = max n.pass p.now from rfl,show (rdyF p.now n).now = n.now from rfl] at H4
      generalize w3.setCell ⟨W1.nb n.id,4,none⟩ (.complex .f64 (Fz (max n.pass p.now)) (Fz n.now)) = w4 at *
      have hn2 : rdyF p.now n ∈ upd n.id (rdyF p.now) lc := mem_upd.2 ⟨n,HN.out,by rw [if_pos rfl]⟩
      obtain ⟨p2,hp2,e2,t2⟩ : ∃ p2 ∈ upd n.id (rdyF p.now) lc,p2.id = p.id ∧ p2.thr = false := ⟨_,mem_upd.2 ⟨p,HP.out,rfl⟩,by split <;> rfl,by split <;> exact HT.out⟩
      have HB4 : Hid (Bdd (upd n.id (rdyF p.now) lc)) := Bdd.upd HB.out fun m hm e => by
        have h1 := HB.out m hm
        have h2 := HBP.out
        simp only [rdyF]
        omega
      have d0 : w4.cell? ⟨W1.nb n.id,0,none⟩ = some (.int .i64 n.id) := (H4.out.cells hn2).1
      have d3 : w4.cell? ⟨W1.nb n.id,3,none⟩ = some (.pointer (some ⟨W1.nb n.par,0,none⟩)) := by
        have := (H4.out.cells hn2).2.2.2.1
        rwa [grp_up (n := rdyF p.now n) (by have := H0.out; show ¬ n.par < 0; omega)] at this
      have d5 : w4.cell? ⟨W1.nb n.par,5,none⟩ = some (.pointer (some ⟨W1.qb n.par,0,none⟩)) := by
        have := (H4.out.cells hp2).2.2.2.2.2
        rwa [que_of t2,e2,HI.out] at this
      have hpc : Calls Tryz.prog 98 #[.pointer (some ⟨W1.nb n.id,0,none⟩)] w4.drew (Yields w4.drew (.int .i64 (max n.pass p.now))) := pass_at (H4.out.ext (Ext.drew (Ext.refl _))) HB4.out hn2
      have hix := (H4.out.idx p2 hp2 t2)
      rw [e2,HI.out] at hix
      have HIX := hid hix
      have HN2 := hid hn2
      have HP2 := hid hp2
      have HE2 := hid e2
      have HT2 := hid t2
      have HPC := hid hpc
      clear hn2 hp2 e2 t2 hix hpc
      go_wp2_with fail
      refine wp_region_T 13 1 (fun u => u.cell? ⟨W1.nb n.id,0,none⟩ = some (.int .i64 n.id) ∧ u.cell? ⟨W1.nb n.id,3,none⟩ = some (.pointer (some ⟨W1.nb n.par,0,none⟩)) ∧ u.cell? ⟨W1.nb n.par,5,none⟩ = some (.pointer (some ⟨W1.qb n.par,0,none⟩))) (by kernel_rfl) (by kernel_rfl) ?_
      have HSS : w4.drew.cell? ⟨W1.nb n.id,0,none⟩ = some (.int .i64 n.id) ∧ w4.drew.cell? ⟨W1.nb n.id,3,none⟩ = some (.pointer (some ⟨W1.nb n.par,0,none⟩)) ∧ w4.drew.cell? ⟨W1.nb n.par,5,none⟩ = some (.pointer (some ⟨W1.qb n.par,0,none⟩)) := ⟨d0,d3,d5⟩
      have hx5 : Ext w4 w4.drew := Ext.drew (Ext.refl _)
      clear d0 d3 d5
      generalize w4.drew = w5 at *
      refine wpT_tk 0 HSS ?_; (try simp only [nrm])
      refine wpT_tk 1 HSS ?_; (try simp only [nrm])
      refine wpT_tk 2 HSS ?_; (try simp only [nrm])
      refine wpT_tk 3 HSS ?_; (try simp only [nrm])
      refine wpT_tk 4 HSS ?_; (try simp only [nrm])
      refine wpT_tk 5 HSS ?_; (try simp only [nrm])
      refine wpT_tk 6 HSS ?_; (try simp only [nrm])
      refine wpT_tk 7 HSS ?_; (try simp only [nrm])
      refine wpT_tk 9 HSS ?_; (try simp only [nrm])
      refine wpT_tk 10 HSS ?_; (try simp only [nrm])
      refine wpT_tk 11 HSS ?_; (try simp only [nrm])
      refine wpT_tk 12 HSS ?_; (try simp only [nrm])
      refine wpT_on 8 (fun K' hK => ?_); go_simp
      (with_reducible refine HPC.out.mono ?_)
      rintro e w6 ⟨rfl,hx6⟩
      refine hK.out _ _ ⟨hx6.cell HSS.1,hx6.cell HSS.2.1,hx6.cell HSS.2.2⟩ ?_
      clear HSS hK K' HPC
      have H6 := hid (H4.out.ext (hx5.trans hx6))
      have HF6 := hid (HF4.out.ext (hx5.trans hx6))
      have HIX6 := hid (HIX.out.1.ext (hx5.trans hx6))
      clear H4 HF4 hx5 hx6
      (try simp only [nrm])
      refine wpT_done (by kernel_rfl) ?_
      refine wpAny_on 13 (fun K' hK => ?_); go_simp
      have hno : ¬ idAt (W1.rw n.par) n.id < (W1.rw n.par).length := fun h => by
        have := (HQ.out.has HS.out HN.out HP.out HT.out HI.out).1 (by rw [HI.out]; exact h)
        rw [HR.out] at this; cases this
      have hroom : ((W1.rw n.par).length : Int) < 60 := by
        have := HQ.out.room HS.out HN.out HP.out HT.out HR.out
        rw [HI.out] at this
        have := HL.out
        omega
      (with_reducible refine (put_yes _ _ _ _ _ _ _ _ HIX6.out HIX.out.2 (by omega) (formedB_iff.2 ?_) hno hroom).mono ?_)
      · have h1 := HBN.out
        have h2 := HBP.out
        have h3 := (HC.out n HN.out).1
        omega
      rintro e w7 ⟨rfl,hwt⟩
      refine hK.out _ _ ?_
      clear hK K' hno hroom HIX6 HIX
      rw [← HI.out,← HE2.out] at hwt
      obtain ⟨v',h7,hf7⟩ := H6.out.setIdx HP2.out HT2.out hwt
      rw [HE2.out] at h7 hf7
      have HQ7 := hid (HQ.out.put HS.out HN.out HP.out HT.out HI.out HR.out (rdyF p.now) (rdyF_same _) rfl v')
      have d3 : w7.cell? ⟨W1.nb n.id,3,none⟩ = some (.pointer (some ⟨W1.nb n.par,0,none⟩)) := by
        have := (h7.cells HN2.out).2.2.2.1
        rwa [grp_up (n := rdyF p.now n) (by have := H0.out; show ¬ n.par < 0; omega)] at this
      have H7 := hid h7
      have HF7 := hid (HF6.out.trans hf7)
      clear h7 hf7 hwt H6 HF6
      (try simp only [nrm])
      refine wpAny_done (by kernel_rfl) ?_ _
      go_wp2
      have e9 : (W1.setQ p.id v' (ins ((rdyF p.now n).pass,n.id) (W1.rw p.id))).nb p2.id = W1.nb n.par := by show W1.nb p2.id = _; rw [HE2.out,HI.out]
      refine Go.wp_goto ?_
      refine ⟨rfl,f,Nat.lt_succ_self f,W1.setQ p.id v' (ins ((rdyF p.now n).pass,n.id) (W1.rw p.id)),upd n.id (rdyF p.now) lc,p2,_,_,_,_,_,_,_,_,_,_,_,_,_,_,_,_,_,_,_,_,_,_,_,_,_,_,_,_,_,_,_,_,_,_,_,_,_,_,_,_,_,by rw [e9],H7.out,HQ7.out,ids_upd (fun _ => rfl) HS.out,Clo.upd HC.out (rdyF_same _),HB4.out,by rw [upd_length]; exact HL.out,HP2.out,by rw [HE2.out]; exact Chain.upd (rdyF_same _) f p.id HCN.out,HF7.out,HW.out,by rw [HE2.out]; exact HEN.out.symm⟩
end
end Go.Proofs.YtocicffmajbecaaGreatDoor
