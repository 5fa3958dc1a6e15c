/- The program's own tree: a thread made not ready, and the groups around it that have nobody ready left. -/
import Derived.Test.YtocicffmajbecaaGreatDoorPt4
namespace Go.Proofs.YtocicffmajbecaaGreatDoor
open Go.RowKit
set_option linter.unusedSimpArgs false
section
variable {base : Nat} {x : Site} {W : Wit} {l : List Nd} {w : World}
theorem restU_no {f : Nat} (hs : Ids l) {n : Nd} (hn : n ∈ l) (hr : n.rdy = false) : restU f l n.id = l := by
  cases f with
  | zero => rfl
  | succ f => simp only [restU,getU_of hs hn,hr,if_true]
theorem restU_top {f : Nat} (hs : Ids l) {n : Nd} (hn : n ∈ l) (hp : n.par < 0) : restU (f + 1) l n.id = upd n.id offF l := by
  simp only [restU,getU_of hs hn]
  by_cases hr : n.rdy = false
  · rw [if_pos hr,upd_same]
    intro m hm e
    rw [uniqU hs hm hn e]
    cases n
    simp only at hr
    subst hr
    rfl
  · rw [if_neg hr,if_pos (.inl hp)]
theorem restU_stop {f : Nat} (hs : Ids l) {n : Nd} (hn : n ∈ l) (hr : n.rdy = true) (h : someT (upd n.id offF l) n.par = true) : restU (f + 1) l n.id = upd n.id offF l := by
  simp only [restU,getU_of hs hn]
  rw [if_neg (by rw [hr]; simp),if_pos (.inr h)]
theorem restU_on {f : Nat} (hs : Ids l) {n : Nd} (hn : n ∈ l) (hr : n.rdy = true) (hp : 0 ≤ n.par) (h : someT (upd n.id offF l) n.par = false) : restU (f + 1) l n.id = restU f (upd n.id offF l) n.par := by
  simp only [restU,getU_of hs hn]
  rw [if_neg (by rw [hr]; simp),if_neg]
  rintro (h' | h')
  · omega
  · rw [h] at h'; cases h'
def RestJ (base : Nat) (x : Site) (W : Wit) (l : List Nd) (w0 : World) (L : List Nd) (f : Nat) (a : Act) (wc : World) : Prop :=
  ∃ (W1 : Wit) (lc : List Nd) (n : Nd) (u1 u2 u3 u4 u5 u6 u7 u8 u9 u10 u11 u12 u13 u14 u15 u16 u17 u18 u19 u20 u21 u22 u23 u24 u25 u26 u27 u28 u29 u30 u31 u32 u33 u34 u35 u36 : Value),a = { tmps := #[.pointer (some ⟨W1.nb n.id,0,none⟩),u1,u2,u3,u4,u5,u6,u7,u8,u9,u10,u11,u12,u13,u14,u15,u16,u17,u18,u19,u20,u21,u22,u23,u24,u25,u26,u27,u28,u29,u30,u31,u32,u33,u34,u35,u36],defers := [] } ∧ Pt base x W1 lc wc ∧ QOk W1 lc ∧ Ids lc ∧ Clo lc ∧ lc.length ≤ 60 ∧ n ∈ lc ∧ Chain lc f n.id ∧
    Fr (Own x W l) (Own x W1 lc) w0 wc ∧ (W1.v = W.v ∧ W1.nb = W.nb ∧ W1.qb = W.qb) ∧ Hid (restU f lc n.id = L)
set_option maxRecDepth 100000 in
set_option maxHeartbeats 4000000 in
theorem rest_any (h : Pt base x W l w) (hq : QOk W l) (hs : Ids l) (hc : Clo l) (hl : l.length ≤ 60) {n : Nd} (hn : n ∈ l) (f : Nat) (hch : Chain l f n.id) :
    Calls Tryz.prog 81 #[.pointer (some ⟨W.nb n.id,0,none⟩)] w fun e w' => e = .returned (.tuple #[]) ∧ PGo base x W l (restU f l n.id) w w' := by
  generalize hLL : restU f l n.id = L
  have start : ∀ (u1 u2 u3 u4 u5 u6 u7 u8 u9 u10 u11 u12 u13 u14 u15 u16 u17 u18 u19 u20 u21 u22 u23 u24 u25 u26 u27 u28 u29 u30 u31 u32 u33 u34 u35 u36 : Value),RestJ base x W l w L f { tmps := #[.pointer (some ⟨W.nb n.id,0,none⟩),u1,u2,u3,u4,u5,u6,u7,u8,u9,u10,u11,u12,u13,u14,u15,u16,u17,u18,u19,u20,u21,u22,u23,u24,u25,u26,u27,u28,u29,u30,u31,u32,u33,u34,u35,u36],defers := [] } w := fun u1 u2 u3 u4 u5 u6 u7 u8 u9 u10 u11 u12 u13 u14 u15 u16 u17 u18 u19 u20 u21 u22 u23 u24 u25 u26 u27 u28 u29 u30 u31 u32 u33 u34 u35 u36 =>
    ⟨W,l,n,_,_,_,_,_,_,_,_,_,_,_,_,_,_,_,_,_,_,_,_,_,_,_,_,_,_,_,_,_,_,_,_,_,_,_,_,rfl,h,hq,hs,hc,hl,hn,hch,Fr.refl _ _,⟨rfl,rfl,rfl⟩,hLL⟩
  have ST := hid start
  clear start h hq hs hc hl hch hLL hn
  go_enter Tryz.func81,Tryz.ntmps81
  go_wp2_with fail
  refine wp_up 0 (RestJ base x W l w L) rfl ⟨f,by apply ST.out⟩ ?_
  clear ST
  refine fun f a wc => ex_elim fun W1 => ex_elim fun lc => ex_elim fun n => ex8 fun u1 u2 u3 u4 u5 u6 u7 u8 => ex8 fun u9 u10 u11 u12 u13 u14 u15 u16 => ex8 fun u17 u18 u19 u20 u21 u22 u23 u24 => ex8 fun u25 u26 u27 u28 u29 u30 u31 u32 => ex4 fun u33 u34 u35 u36 => ?_
  rintro ⟨rfl,h,hq,hs,hc,hl,hn,hch,hF,hW,hL⟩
  obtain ⟨f,rfl⟩ : ∃ f',f = f' + 1 := by
    cases f with
    | zero => exact hch.elim
    | succ f => exact ⟨f,rfl⟩
  obtain ⟨c0,-,-,c3,-,-⟩ := h.cells hn
  have hbl := h.nlt hn
  have H := hid h
  have HQ := hid hq
  have HS := hid hs
  have HC := hid hc
  have HL := hid hl
  have HN := hid hn
  have HCH := hid hch
  have HF := hid hF
  have HW := hid hW
  clear h hq hs hc hl hn hch hF hW
  by_cases h0 : n.par < 0
  · have HE : Hid (PGo base x W l L w wc) := by
      have e := restU_top (f := f) HS.out HN.out h0
      rw [← hL.out,e]
      refine ⟨W1,H.out.setRdy HS.out n.id offF fun _ => ⟨rfl,rfl,rfl,rfl,rfl,rfl⟩,HQ.out.quiet HS.out HN.out offF offF_same ?_,fr_upd offF_same HF.out,HW.out⟩
      rintro ⟨g,hg,e⟩
      have := (HC.out g hg).1
      omega
    rw [grp_top h0] at c3
    generalize W1.nb n.id = b at *
    go_wp2
    ((first | refine wp_region_more (by kernel_rfl) (by kernel_rfl) ?_ | refine wp_region_ext (by kernel_rfl) (by kernel_rfl) ?_); (try dsimp only [append_cons',append_nil']); (repeat (go_big_quiet_step ((fail)))); refine wpQuiet_nil ?_; rintro _ ⟨pq,rfl⟩)
    go_wp2
    simp only [Exit.jump]
    go_returns
    exact ⟨rfl,HE.out.ext ext_by⟩
  · obtain ⟨p,hp,he,ht⟩ := (HC.out n HN.out).2.2 (by omega)
    rw [grp_up h0] at c3
    have hix := (H.out.idx p hp ht)
    have d5 := (H.out.cells hp).2.2.2.2.2
    rw [que_of ht] at d5
    have hlen : (W1.rw p.id).length ≤ 60 := Nat.le_trans (HQ.out.len HS.out hp ht) HL.out
    have hhas := HQ.out.has HS.out HN.out hp ht he
    have hgl := H.out.nlt hp
    rw [he] at hix d5 hlen hhas hgl
    have HIX := hid hix
    have HLN := hid hlen
    cases hr : n.rdy with
    | false =>
      have HE : Hid (PGo base x W l L w wc) := by
        rw [← hL.out,restU_no HS.out HN.out hr]
        exact ⟨W1,H.out,HQ.out,HF.out,HW.out⟩
      have hno : Hid (¬ idAt (W1.rw n.par) n.id < (W1.rw n.par).length) := fun h => by
        rw [hhas,hr] at h; cases h
      have hen := fun t v w => run_eql_held_nil (P := Tryz.prog) w 31 t v Tryz.underlying31
      clear hix hlen hhas hr hp he ht h0
      have HD : Hid (∀ w',Ext wc w' → Calls Tryz.prog 112 #[.pointer (some ⟨W1.qb n.par,0,none⟩),.int .i64 n.id] w' (Yields w' (errV 13))) := fun w' hx => drop_no _ _ _ _ _ _ _ (HIX.out.1.ext hx) (by have := HLN.out; omega) hno.out
      rw [errV_pos (by decide)] at HD
      generalize W1.nb n.id = b at *
      generalize W1.nb n.par = g at *
      generalize W1.qb n.par = q at *
      go_wp2
      ((first | refine wp_region_more (by kernel_rfl) (by kernel_rfl) ?_ | refine wp_region_ext (by kernel_rfl) (by kernel_rfl) ?_); (try dsimp only [append_cons',append_nil']); (repeat (go_big_quiet_step ((go_at_call 112; with_reducible refine Calls.more_of (HD.out _ (ext_more _ _)))))); refine wpQuiet_nil ?_; rintro _ ⟨pq,rfl⟩)
      go_wp2
      simp only [Exit.jump]
      go_returns
      exact ⟨rfl,HE.out.ext ext_by⟩
    | true =>
      have hyes : idAt (W1.rw n.par) n.id < (W1.rw n.par).length := hhas.2 hr
      have hn2 : offF n ∈ upd n.id offF lc := mem_upd.2 ⟨n,HN.out,by rw [if_pos rfl]⟩
      obtain ⟨p2,hp2,e2,t2⟩ : ∃ p2 ∈ upd n.id offF lc,p2.id = p.id ∧ p2.thr = false := ⟨_,mem_upd.2 ⟨p,hp,rfl⟩,by split <;> rfl,by split <;> exact ht⟩
      have HQ7 : Hid (∀ v,QOk (W1.setQ p.id v ((W1.rw p.id).eraseIdx (idAt (W1.rw p.id) n.id))) (upd n.id offF lc)) := fun v => HQ.out.drop HS.out HN.out hp ht he hr offF offF_same rfl v
      have hnil : ((W1.rw n.par).eraseIdx (idAt (W1.rw n.par) n.id)).length = 0 ↔ someT (upd n.id offF lc) n.par = false := by
        have := (HQ7.out (.pointer none)).nil hp2 t2
        simp only [Wit.setQ,e2,if_true,he] at this
        rw [← this,List.length_eq_zero_iff]
      have hrows : (((W1.rw n.par).eraseIdx (idAt (W1.rw n.par) n.id)).length : Int) ≤ 1000 := by
        have := List.length_eraseIdx_le (W1.rw n.par) (idAt (W1.rw n.par) n.id)
        omega
      have HPR : Hid (0 ≤ n.par) := by unfold Hid; omega
      have HSTOP : Hid (someT (upd n.id offF lc) n.par = true → upd n.id offF lc = L) := fun h => by rw [← hL.out,restU_stop HS.out HN.out hr h]
      have HON : Hid (someT (upd n.id offF lc) n.par = false → restU f (upd n.id offF lc) n.par = L) := fun h => by rw [← hL.out,restU_on HS.out HN.out hr HPR.out h]
      have H5 := hid (H.out.setRdy HS.out n.id offF fun _ => ⟨rfl,rfl,rfl,rfl,rfl,rfl⟩)
      have HF5 : Hid (Fr (Own x W l) (Own x W1 (upd n.id offF lc)) w wc) := fr_upd offF_same HF.out
      have hchn : Chain lc f n.par := by
        obtain ⟨m,hm,e,h⟩ := HCH.out
        rw [uniqU HS.out hm HN.out e] at h
        rcases h with h | h
        · exact absurd h h0
        · exact h
      have HCN := hid hchn
      have HYES := hid hyes
      have HNIL := hid hnil
      have HN2 := hid hn2
      have HP2 := hid hp2
      have HE2 := hid e2
      have HT2 := hid t2
      have HI := hid he
      have hen := fun w => run_eql_nil_nil (P := Tryz.prog) w 31 Tryz.underlying31
      clear hix hlen hhas hr hp he ht h0 hchn HCH hyes hnil hn2 hp2 e2 t2 hL H HF
      go_wp2_with fail
      refine wp_region_T 17 14 (fun u => u.cell? ⟨W1.nb n.id,0,none⟩ = some (.int .i64 n.id) ∧ u.cell? ⟨W1.nb n.id,3,none⟩ = some (.pointer (some ⟨W1.nb n.par,0,none⟩)) ∧ u.cell? ⟨W1.nb n.par,5,none⟩ = some (.pointer (some ⟨W1.qb n.par,0,none⟩))) (by kernel_rfl) (by kernel_rfl) ?_
      have HSS : wc.drew.cell? ⟨W1.nb n.id,0,none⟩ = some (.int .i64 n.id) ∧ wc.drew.cell? ⟨W1.nb n.id,3,none⟩ = some (.pointer (some ⟨W1.nb n.par,0,none⟩)) ∧ wc.drew.cell? ⟨W1.nb n.par,5,none⟩ = some (.pointer (some ⟨W1.qb n.par,0,none⟩)) := ⟨c0,c3,d5⟩
      have hx5 : Ext wc wc.drew := Ext.drew (Ext.refl _)
      have H6 := hid (H5.out.ext hx5)
      have HF6 := hid (HF5.out.ext hx5)
      have HIX6 := hid (HIX.out.1.ext hx5)
      clear c0 c3 d5 H5 HF5 hx5
      generalize wc.drew = w5 at *
      refine wpT_tk 0 HSS ?_; (try simp only [nrm])
      refine wpT_tk 1 HSS ?_; (try simp only [nrm])
      refine wpT_tk 2 HSS ?_; (try simp only [nrm])
      refine wpT_tk 3 HSS ?_; (try simp only [nrm])
      refine wpT_tk 4 HSS ?_; (try simp only [nrm])
      refine wpT_tk 5 HSS ?_; (try simp only [nrm])
      refine wpT_tk 6 HSS ?_; (try simp only [nrm])
      refine wpT_tk 7 HSS ?_; (try simp only [nrm])
      refine wpT_tk 8 HSS ?_; (try simp only [nrm])
      refine wpT_tk 9 HSS ?_; (try simp only [nrm])
      refine wpT_tk 10 HSS ?_; (try simp only [nrm])
      refine wpT_tk 11 HSS ?_; (try simp only [nrm])
      refine wpT_tk 12 HSS ?_; (try simp only [nrm])
      refine wpT_tk 13 HSS ?_; (try simp only [nrm])
      refine wpT_tk 14 HSS ?_; (try simp only [nrm])
      refine wpT_tk 15 HSS ?_; (try simp only [nrm])
      refine wpT_tk 16 HSS ?_; (try simp only [nrm])
      refine wpT_done (by kernel_rfl) ?_
      refine wpAny_on 17 (fun K' hK => ?_); go_simp
      (with_reducible refine (drop_yes _ _ _ _ _ _ _ HIX6.out (by have := HLN.out; omega) HYES.out).mono ?_)
      rintro e w7 ⟨rfl,hwt⟩
      refine hK.out _ _ ?_
      clear hK K' HIX6 HIX HSS
      rw [← HI.out,← HE2.out] at hwt
      obtain ⟨v',h7,hf7⟩ := H6.out.setIdx HP2.out HT2.out hwt
      rw [HE2.out] at h7 hf7
      have d3 : w7.cell? ⟨W1.nb n.id,3,none⟩ = some (.pointer (some ⟨W1.nb n.par,0,none⟩)) := by
        have := (h7.cells HN2.out).2.2.2.1
        rwa [grp_up (n := offF n) (by have := HPR.out; show ¬ n.par < 0; omega)] at this
      have d5 : w7.cell? ⟨W1.nb n.par,5,none⟩ = some (.pointer (some ⟨W1.qb n.par,0,none⟩)) := by
        have := (h7.cells HP2.out).2.2.2.2.2
        rwa [que_of HT2.out,HE2.out,HI.out] at this
      have hix7 := (h7.idx p2 HP2.out HT2.out).1
      simp only [Wit.setQ,HE2.out,if_true] at hix7
      rw [HI.out] at hix7
      have HLC := hid (len_any _ _ _ _ _ _ hix7)
      have H7 := hid h7
      have HF7 := hid (HF6.out.trans hf7)
      have HQ8 := hid (HQ7.out v')
      clear h7 hf7 hwt hix7 H6 HF6 HQ7
      generalize hKK : ((W1.rw n.par).eraseIdx (idAt (W1.rw n.par) n.id)).length = K at *
      (try simp only [nrm])
      refine wpAny_tk 18 ?_; (try simp only [nrm])
      refine wpAny_tk 19 ?_; (try simp only [nrm])
      refine wpAny_tk 20 ?_; (try simp only [nrm])
      refine wpAny_tk 21 ?_; (try simp only [nrm])
      refine wpAny_tk 22 ?_; (try simp only [nrm])
      refine wpAny_tk 23 ?_; (try simp only [nrm])
      refine wpAny_on 24 (fun K' hK => ?_); go_simp
      refine hK.out _ _ ?_
      clear hK K'
      (try simp only [nrm])
      refine wpAny_tk 25 ?_; (try simp only [nrm])
      refine wpAny_tk 26 ?_; (try simp only [nrm])
      refine wpAny_on 27 (fun K' hK => ?_); go_simp
      refine hK.out _ _ ?_
      clear hK K'
      (try simp only [nrm])
      refine wpAny_on 28 (fun K' hK => ?_); go_simp
      (with_reducible refine HLC.out.mono ?_)
      rintro e w8 ⟨rfl,hw8⟩
      rw [hw8]
      clear hw8 w8
      refine hK.out _ _ ?_
      clear hK K'
      (try simp only [nrm])
      cases hsm : someT (upd n.id offF lc) n.par with
      | true =>
        have hk : ((K : Int) == 0) = false := by
          rw [beq_eq_false_iff_ne]
          intro e
          have := HNIL.out.1 (by omega)
          rw [hsm] at this; cases this
        have HE : Hid (PGo base x W l L w w7) := by
          rw [← HSTOP.out hsm]
          exact ⟨_,H7.out,HQ8.out,HF7.out,HW.out⟩
        refine wpAny_tk 29 ?_; (try simp only [nrm])
        refine wpAny_tk 30 ?_; (try simp only [nrm])
        refine wpAny_done (by kernel_rfl) ?_ _
        go_wp2
        simp only [Exit.jump]
        go_returns
        exact ⟨rfl,HE.out⟩
      | false =>
        have hk : K = 0 := HNIL.out.2 hsm
        subst hk
        have HE := hid (HON.out hsm)
        refine wpAny_tk 29 ?_; (try simp only [nrm])
        refine wpAny_tk 30 ?_; (try simp only [nrm])
        refine wpAny_done (by kernel_rfl) ?_ _
        go_wp2
        have e9 : (W1.setQ p.id v' ((W1.rw p.id).eraseIdx (idAt (W1.rw p.id) n.id))).nb p2.id = W1.nb n.par := by show W1.nb p2.id = _; rw [HE2.out,HI.out]
        refine Go.wp_goto ?_
        exact ⟨rfl,f,Nat.lt_succ_self f,W1.setQ p.id v' ((W1.rw p.id).eraseIdx (idAt (W1.rw p.id) n.id)),upd n.id offF lc,p2,_,_,_,_,_,_,_,_,_,_,_,_,_,_,_,_,_,_,_,_,_,_,_,_,_,_,_,_,_,_,_,_,_,_,_,_,by rw [e9],H7.out,HQ8.out,ids_upd (fun _ => rfl) HS.out,Clo.upd HC.out offF_same,by rw [upd_length]; exact HL.out,HP2.out,by rw [HE2.out,HI.out]; exact Chain.upd offF_same f n.par HCN.out,HF7.out,HW.out,by rw [HE2.out,HI.out]; exact HE.out⟩
end
end Go.Proofs.YtocicffmajbecaaGreatDoor
