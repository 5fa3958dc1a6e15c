/- The document's counts (tontineref11.Counts). -/
import Derived.Test.YtfjhcmpcnnjodaaRs0
import Derived.Laws.MakeOwn
import Derived.Test.YtfjhcmpcnnjodaaTail
import Derived.Test.YtfjhcmpcnnjodaaPiece
namespace Go.Proofs.Ytfjhcmpcnnjodaa
open Go.RowKit

theorem rcounts_none {f : Int} {l : List Int} {v : Value} {w : World} (h : Ints w v l) (hm : mayS f l = false) : Calls Try.prog 29 #[.int .i64 f, v] w (Yields w (.slice none 0 0)) := by
  have H := hid h
  have HM := hid hm
  clear h hm
  go_enter Try.func29, Try.ntmps29
  go_wp2_with (go_at_call 41; refine (mayR_to H.out HM.out).yields ?_; intro p)
  go_returns
  exact ⟨by simp, ext_by⟩

theorem stepR_mem {P : List Pr} (hm : am (rs P) < P.length) {m : Int} (h : ∀ p ∈ P, 0 ≤ p.1 ∧ p.1 ≤ m ∧ -1 ≤ p.2 ∧ p.2 ≤ 6000) : ∀ p ∈ stepR P, 0 ≤ p.1 ∧ p.1 ≤ m + 1 ∧ -1 ≤ p.2 ∧ p.2 ≤ 6000 := by
  intro p hp
  unfold stepR at hp
  rw [getD_of hm] at hp
  rcases List.mem_or_eq_of_mem_set hp with h1 | rfl
  · have := h p h1; omega
  · have := h _ (List.getElem_mem hm); simp only; omega
theorem amTo_one (R : List Int) : amTo R 1 = 0 := by simp [amTo]
/-- Two rows of the call's own beside one another: the counts, the rests. -/
structure Two (w : World) (a b : Nat) (P : List Pr) (wr : World) : Prop where
  ext : Ext w wr
  out : Iz wr a (cs P)
  rest : Iz wr b (rs P)

theorem Two.more {w wr u : World} {a b : Nat} {P : List Pr} (h : Two w a b P wr) (k : Ext wr u) : Two w a b P u := ⟨h.ext.trans k, h.out.ext k, h.rest.ext k⟩
theorem cs_at (P : List Pr) {i : Nat} (h : i < (cs P).length) : (cs P)[i] = (P[i]'(by rwa [cs_length] at h)).1 := by simp [cs]
theorem rs_at (P : List Pr) {i : Nat} (h : i < (rs P).length) : (rs P)[i] = (P[i]'(by rwa [rs_length] at h)).2 := by simp [rs]

set_option maxRecDepth 100000 in
set_option maxHeartbeats 4000000 in
theorem rcounts_any {f : Int} {l : List Int} {v : Value} {w : World} (hm : mayS f l = true) (h : Ints w v l) : Calls Try.prog 29 #[.int .i64 f, v] w fun e w' => ∃ g, e = .returned (.slice (some ⟨g, 0, none⟩) l.length l.length) ∧ w.heap.size ≤ g ∧ Ext w w' ∧ Iz w' g (countsL f l) := by
  have hM := May.of hm
  obtain ⟨pa, ca, rfl, hca, hma⟩ := h.shape
  unfold maxLen at hma
  have H := hid h
  have HM := hid hM
  have Hm := hid hm
  have hf1 := hM.f1
  have hf2 := hM.f64
  have hn := hM.len
  have hS1 := hM.S1
  have hS6 := hM.S6
  have hl0 := left_nonneg hM
  have hl64 := left_le hM
  have HBD : Hid (∀ x ∈ l, -100000 ≤ x ∧ x ≤ 100000) := hid fun x hx => by have := hM.lo x hx; have := hM.hi x hx; omega
  have hmk := run_makeI l.length hn
  clear h hm hM
  go_enter Try.func29, Try.ntmps29
  go_upto_region 4 with (first
    | (go_at_call 41; refine (mayR_to H.out Hm.out).yields ?_; intro p)
    | (go_at_call 40; refine (total_any (H.out.ext (ext_more _ _)) HBD.out (by omega)).yields ?_; intro p))
  refine wp_forget (fun u => Ext w u) ext_by ?_
  intro w1 hx1
  go_cut [6, 7] from 18 to 24 (fun s6 s7 wx => ∃ a b : Nat, s6 = .slice (some ⟨a, 0, none⟩) l.length l.length ∧ s7 = .slice (some ⟨b, 0, none⟩) l.length l.length ∧ a ≠ b ∧ w.heap.size ≤ a ∧ w.heap.size ≤ b ∧ Ext w wx ∧ Hid (Blk wx a 3 (List.replicate l.length (Value.int .i64 0))) ∧ Hid (Blk wx b 3 (List.replicate l.length (Value.int .i64 0))))
  case first =>
    refine wp_region_T 7 1 (fun u => Ext w u) (by kernel_rfl) (by kernel_rfl) ?_
    have HSS : Ext w w1.drew := hx1.drew
    generalize w1.drew = w2 at *
    refine wpT_tk 0 HSS ?_; (try simp only [nrm])
    refine wpT_tk 1 HSS ?_; (try simp only [nrm])
    refine wpT_tk 3 HSS ?_; (try simp only [nrm])
    refine wpT_tk 4 HSS ?_; (try simp only [nrm])
    refine wpT_two 2 5 rfl rfl (by kernel_rfl) (by rfl) (by rfl) (fun K' hK => ?_) (fun K' hK => ?_)
    · go_simp
      have HSS2 : Ext w (w2.alloc (.cells (Array.replicate l.length (Value.int .i64 0)) 3 (0, 0))) := HSS.alloc _
      have B1 : Hid (Blk (w2.alloc (.cells (Array.replicate l.length (Value.int .i64 0)) 3 (0, 0))) w2.heap.size 3 (List.replicate l.length (Value.int .i64 0))) := hid (by have := Blk.new w2 3 (List.replicate l.length (Value.int .i64 0)); simpa using this)
      have hs1 : w.heap.size ≤ w2.heap.size := HSS.size
      refine hK.out _ _ HSS2 ?_
      (try simp only [nrm])
      clear hK K' HSS
      have HSS := HSS2
      clear HSS2
      generalize w2.alloc (.cells (Array.replicate l.length (Value.int .i64 0)) 3 (0, 0)) = w3 at *
      generalize w2.heap.size = A at *
      clear w2
      refine wpT_tk 6 HSS ?_; (try simp only [nrm])
      refine wpT_on 5 (fun K' hK => ?_); go_simp
      have HSS2 : Ext w (w3.alloc (.cells (Array.replicate l.length (Value.int .i64 0)) 3 (0, 0))) := HSS.alloc _
      have B2 : Hid (Blk (w3.alloc (.cells (Array.replicate l.length (Value.int .i64 0)) 3 (0, 0))) w3.heap.size 3 (List.replicate l.length (Value.int .i64 0))) := hid (by have := Blk.new w3 3 (List.replicate l.length (Value.int .i64 0)); simpa using this)
      have B3 : Hid (Blk (w3.alloc (.cells (Array.replicate l.length (Value.int .i64 0)) 3 (0, 0))) A 3 (List.replicate l.length (Value.int .i64 0))) := hid (B1.out.ext (Ext.alloc (Ext.refl _) _))
      have hs2 : w.heap.size ≤ w3.heap.size := HSS.size
      have hs3 : A < w3.heap.size := B1.out.lt
      refine hK.out _ _ HSS2 ?_
      (try simp only [nrm])
      clear hK K' HSS B1
      have HSS := HSS2
      clear HSS2
      generalize w3.alloc (.cells (Array.replicate l.length (Value.int .i64 0)) 3 (0, 0)) = w4 at *
      generalize w3.heap.size = B at *
      clear w3
      refine wpT_done (by kernel_rfl) ?_
      refine wpAny_tk 7 ?_; (try simp only [nrm])
      refine wpAny_done (by kernel_rfl) ?_ _
      go_wp2
      go_meet
      case rel => exact ⟨_, _, rfl, rfl, by omega, by omega, by omega, HSS, B3, B2⟩
    · go_simp
      have HSS2 : Ext w (w2.alloc (.cells (Array.replicate l.length (Value.int .i64 0)) 3 (0, 0))) := HSS.alloc _
      have B1 : Hid (Blk (w2.alloc (.cells (Array.replicate l.length (Value.int .i64 0)) 3 (0, 0))) w2.heap.size 3 (List.replicate l.length (Value.int .i64 0))) := hid (by have := Blk.new w2 3 (List.replicate l.length (Value.int .i64 0)); simpa using this)
      have hs1 : w.heap.size ≤ w2.heap.size := HSS.size
      refine hK.out _ _ HSS2 ?_
      (try simp only [nrm])
      clear hK K' HSS
      have HSS := HSS2
      clear HSS2
      generalize w2.alloc (.cells (Array.replicate l.length (Value.int .i64 0)) 3 (0, 0)) = w3 at *
      generalize w2.heap.size = A at *
      clear w2
      refine wpT_on 2 (fun K' hK => ?_); go_simp
      have HSS2 : Ext w (w3.alloc (.cells (Array.replicate l.length (Value.int .i64 0)) 3 (0, 0))) := HSS.alloc _
      have B2 : Hid (Blk (w3.alloc (.cells (Array.replicate l.length (Value.int .i64 0)) 3 (0, 0))) w3.heap.size 3 (List.replicate l.length (Value.int .i64 0))) := hid (by have := Blk.new w3 3 (List.replicate l.length (Value.int .i64 0)); simpa using this)
      have B3 : Hid (Blk (w3.alloc (.cells (Array.replicate l.length (Value.int .i64 0)) 3 (0, 0))) A 3 (List.replicate l.length (Value.int .i64 0))) := hid (B1.out.ext (Ext.alloc (Ext.refl _) _))
      have hs2 : w.heap.size ≤ w3.heap.size := HSS.size
      have hs3 : A < w3.heap.size := B1.out.lt
      refine hK.out _ _ HSS2 ?_
      (try simp only [nrm])
      clear hK K' HSS B1
      have HSS := HSS2
      clear HSS2
      generalize w3.alloc (.cells (Array.replicate l.length (Value.int .i64 0)) 3 (0, 0)) = w4 at *
      generalize w3.heap.size = B at *
      clear w3
      refine wpT_tk 6 HSS ?_; (try simp only [nrm])
      refine wpT_done (by kernel_rfl) ?_
      refine wpAny_tk 7 ?_; (try simp only [nrm])
      refine wpAny_done (by kernel_rfl) ?_ _
      go_wp2
      go_meet
      case rel => exact ⟨_, _, rfl, rfl, by omega, by omega, by omega, HSS, B2, B3⟩
  case rest =>
    obtain ⟨a, b, rfl, rfl, hab, ha, hb, hx2, hA, hB⟩ := hcut
    have hA2 : Hid (Iz wc a (List.replicate l.length 0)) := hid (by have := hA.out; unfold Iz; rw [List.map_replicate]; exact this)
    have hB2 : Hid (Iz wc b (List.replicate l.length 0)) := hid (by have := hB.out; unfold Iz; rw [List.map_replicate]; exact this)
    clear hA hB
    have hz : (tot l == 0) = false := by rw [beq_eq_false_iff_ne]; omega
    go_wp2
    go_loopw [8] (fun v8 wr => Ext w wr ∧ ∃ (k : Nat) (c r : List Int), v8 = .int .i64 k ∧ k ≤ l.length ∧ c.length = l.length ∧ r.length = l.length ∧ Hid (Iz wr a c ∧ Iz wr b r) ∧ Hid (c.take k = (cs (low f (tot l) l)).take k ∧ r.take k = (rs (low f (tot l) l)).take k)) (fun v8 _ => (l.length - intOf v8).toNat)
    case atStart => exact ⟨hx2, 0, _, _, rfl, by omega, by simp, by simp, hid ⟨hA2.out, hB2.out⟩, hid (by simp)⟩
    case round =>
      obtain ⟨hx, k, c, r, rfl, hk, hlc, hlr, hI, hT⟩ := hrel
      by_cases hlt : k < l.length
      · obtain ⟨ba, oa, rfl, a0⟩ := H.out.at k hlt
        have m0 := hx.cell a0
        simp only [Nat.mul_one] at m0
        have x1 := HM.out.lo _ (List.getElem_mem hlt)
        have x2 := HM.out.hi _ (List.getElem_mem hlt)
        have y0 := prod_bounds hf1 hf2 x1 x2
        have hrb := rem_bounds HM.out (List.getElem_mem hlt)
        have e1 : Int.tdiv (f * l[k]) (tot l) = f * l[k] / tot l := Int.tdiv_eq_ediv_of_nonneg y0.1
        have e2 : Int.tmod (f * l[k]) (tot l) = f * l[k] % tot l := Int.tmod_eq_emod_of_nonneg y0.1
        have hkc : k < c.length := by omega
        have hkr : k < r.length := by omega
        have ckf := hI.out.1.frozen k
        have rkf := hI.out.2.frozen k
        have ck0 := hI.out.1.at hkc
        have rk0 := hI.out.2.at hkr
        have al := hI.out.1.lt
        have bl := hI.out.2.lt
        have hbw := World.block_lt_of_cell? _ _ a0
        simp only at hbw
        have hcs : Hid ((c.set k (Int.tdiv (f * l[k]) (tot l))).take (k + 1) = (cs (low f (tot l) l)).take (k + 1)) := hid (by
          rw [take_set_succ hkc, hT.out.1, e1, List.take_succ_eq_append_getElem (show k < (cs (low f (tot l) l)).length by rw [cs_length, low_length]; exact hlt)]
          simp [cs, low])
        have hrs : Hid ((r.set k (Int.tmod (f * l[k]) (tot l))).take (k + 1) = (rs (low f (tot l) l)).take (k + 1)) := hid (by
          rw [take_set_succ hkr, hT.out.2, e2, List.take_succ_eq_append_getElem (show k < (rs (low f (tot l) l)).length by rw [rs_length, low_length]; exact hlt)]
          simp [rs, low])
        have q1 : 0 ≤ Int.tdiv (f * l[k]) (tot l) := by omega
        have q2 : Int.tdiv (f * l[k]) (tot l) ≤ 64 := by omega
        have r1 : 0 ≤ Int.tmod (f * l[k]) (tot l) := by omega
        have r2 : Int.tmod (f * l[k]) (tot l) ≤ 6000 := by omega
        clear e1 e2 hrb hT a0
        generalize l[k] = x at *
        have i1 : (k : Int) < l.length := by omega
        have hz2 : (tot l = 0) = False := eq_false (by omega)
        have w1' : IntKind.i64.wrap (f * x) = f * x := by rw [IntKind.wrap_i64]; omega
        have w2' : IntKind.i64.wrap ((f * x).tdiv (tot l)) = (f * x).tdiv (tot l) := by rw [IntKind.wrap_i64]; omega
        have hab2 : ¬ a = ba := by omega
        have hbb2 : ¬ b = ba := by omega
        go_upto_region 8 with (fail)
        refine wp_region_T 23 1 (fun u => u.cell? ⟨ba, oa + k, none⟩ = some (.int .i64 x)) (by kernel_rfl) (by kernel_rfl) ?_
        have hx3 : Ext w wr.drew := hx.drew
        have HSS : wr.drew.cell? ⟨ba, oa + k, none⟩ = some (.int .i64 x) := m0
        have hI3 : Hid (Iz wr.drew a c ∧ Iz wr.drew b r) := hid ⟨hI.out.1.ext (Ext.drew (Ext.refl _)), hI.out.2.ext (Ext.drew (Ext.refl _))⟩
        clear hx m0 hI ckf rkf ck0 rk0 al bl
        generalize wr.drew = w5 at *
        refine wpT_tk 0 HSS ?_; (try simp only [nrm])
        refine wpT_tk 1 HSS ?_; (try simp only [nrm])
        refine wpT_tk 2 HSS ?_; (try simp only [nrm])
        refine wpT_tk 3 HSS ?_; (try simp only [nrm])
        refine wpT_tk 4 HSS ?_; (try simp only [nrm])
        refine wpT_tk 5 HSS ?_; (try simp only [nrm])
        refine wpT_tk 6 HSS ?_; (try simp only [nrm])
        refine wpT_tk 7 HSS ?_; (try simp only [nrm])
        refine wpT_tk 8 HSS ?_; (try simp only [nrm])
        refine wpT_tk 9 HSS ?_; (try simp only [nrm])
        refine wpT_tk 10 HSS ?_; (try simp only [nrm])
        refine wpT_tk 11 HSS ?_; (try simp only [nrm])
        refine wpT_tk 12 HSS ?_; (try simp only [nrm])
        refine wpT_tk 13 HSS ?_; (try simp only [nrm])
        refine wpT_tk 14 HSS ?_; (try simp only [nrm])
        refine wpT_tk 15 HSS ?_; (try simp only [nrm])
        refine wpT_tk 16 HSS ?_; (try simp only [nrm])
        refine wpT_tk 17 HSS ?_; (try simp only [nrm])
        refine wpT_tk 18 HSS ?_; (try simp only [nrm])
        refine wpT_tk 19 HSS ?_; (try simp only [nrm])
        refine wpT_tk 20 HSS ?_; (try simp only [nrm])
        have ckf := hI3.out.1.frozen k
        have ck0 := hI3.out.1.at hkc
        have al := hI3.out.1.lt
        refine wpT_on 21 (fun K' hK => ?_); go_simp
        have HSS2 : (w5.setCell ⟨a, k, none⟩ (.int .i64 ((f * x).tdiv (tot l)))).cell? ⟨ba, oa + k, none⟩ = some (.int .i64 x) := by
          rw [World.cell?_setCell_far _ _ _ _ (by simpa using hab2)]; exact HSS
        have hA6 : Hid (Iz (w5.setCell ⟨a, k, none⟩ (.int .i64 ((f * x).tdiv (tot l)))) a (c.set k ((f * x).tdiv (tot l)))) := hid (by have := hI3.out.1.set k (.int .i64 ((f * x).tdiv (tot l))); unfold Iz; rw [List.map_set]; exact this)
        have hB6 : Hid (Iz (w5.setCell ⟨a, k, none⟩ (.int .i64 ((f * x).tdiv (tot l)))) b r) := hid (hI3.out.2.other (fun e => hab e.symm) k _)
        have hx6 : Ext w (w5.setCell ⟨a, k, none⟩ (.int .i64 ((f * x).tdiv (tot l)))) := ext_by
        refine hK.out _ _ HSS2 ?_
        (try simp only [nrm])
        clear hK K' HSS hI3 ckf ck0 al hx3
        have HSS := HSS2
        clear HSS2
        generalize w5.setCell ⟨a, k, none⟩ (.int .i64 ((f * x).tdiv (tot l))) = w6 at *
        clear w5
        refine wpT_tk 22 HSS ?_; (try simp only [nrm])
        refine wpT_done (by kernel_rfl) ?_
        have rkf := hB6.out.frozen k
        have rk0 := hB6.out.at hkr
        have bl := hB6.out.lt
        refine wpAny_on 23 (fun K' hK => ?_); go_simp
        refine hK.out _ _ ?_
        (try simp only [nrm])
        refine wpAny_done (by kernel_rfl) ?_ _
        have hA7 : Hid (Iz (w6.setCell ⟨b, k, none⟩ (.int .i64 ((f * x).tmod (tot l)))) a (c.set k ((f * x).tdiv (tot l)))) := hid (hA6.out.other hab k _)
        have hB7 : Hid (Iz (w6.setCell ⟨b, k, none⟩ (.int .i64 ((f * x).tmod (tot l)))) b (r.set k ((f * x).tmod (tot l)))) := hid (by have := hB6.out.set k (.int .i64 ((f * x).tmod (tot l))); unfold Iz; rw [List.map_set]; exact this)
        have hx7 : Ext w (w6.setCell ⟨b, k, none⟩ (.int .i64 ((f * x).tmod (tot l)))) := ext_by
        clear hK K' HSS hA6 hB6 rkf rk0 bl hx6
        generalize w6.setCell ⟨b, k, none⟩ (.int .i64 ((f * x).tmod (tot l))) = w7 at *
        go_wp2
        all_goals
          go_roundw
          case rel => exact ⟨hx7, k + 1, _, _, by go_num, by omega, by rw [List.length_set]; exact hlc, by rw [List.length_set]; exact hlr, hid ⟨hA7.out, hB7.out⟩, hid ⟨hcs.out, hrs.out⟩⟩
          case measure => simp [intOf]; omega
      · obtain rfl : k = l.length := by omega
        have hc0 := hT.out.1
        have hr0 := hT.out.2
        rw [List.take_of_length_le (by omega), List.take_of_length_le (by rw [cs_length, low_length]; omega)] at hc0
        rw [List.take_of_length_le (by omega), List.take_of_length_le (by rw [rs_length, low_length]; omega)] at hr0
        subst hc0 hr0
        have hcb : Hid (∀ x ∈ cs (low f (tot l) l), -100000 ≤ x ∧ x ≤ 100000) := hid fun y hy => by
          simp only [cs, low, List.map_map, List.mem_map] at hy
          obtain ⟨x, hx, rfl⟩ := hy
          have := rem_bounds HM.out hx
          simp only [Function.comp]
          omega
        have hcl : (cs (low f (tot l) l)).length = l.length := hlc
        have hll : l.length ≤ maxLen := by unfold maxLen; omega
        clear hT hlc hlr
        obtain ⟨N, hNN⟩ : ∃ N, N = (leftN f (tot l) l).toNat := ⟨_, rfl⟩
        have htc : f - tot (cs (low f (tot l) l)) = (N : Int) := by unfold leftN at hNN hl0; omega
        have hN64 : N ≤ 64 := by omega
        have HCL : Hid (cs (runR N (low f (tot l) l)) = countsL f l) := hid (by rw [hNN]; exact counts_same HM.out)
        have htb0 : 0 ≤ tot (cs (low f (tot l) l)) := tot_nonneg _ fun y hy => by
          simp only [cs, low, List.map_map, List.mem_map] at hy
          obtain ⟨x, hx, rfl⟩ := hy
          exact (rem_bounds HM.out hx).1
        have htb : 0 ≤ tot (cs (low f (tot l) l)) ∧ tot (cs (low f (tot l) l)) ≤ 64 := by omega
        have HB0 : Hid (∀ p ∈ low f (tot l) l, 0 ≤ p.1 ∧ p.1 ≤ 64 ∧ -1 ≤ p.2 ∧ p.2 ≤ 6000) := hid fun p hp => by
          simp only [low, List.mem_map] at hp
          obtain ⟨x, hx, rfl⟩ := hp
          have := rem_bounds HM.out hx
          simp only
          omega
        have hpos := HM.out.pos
        have HQB : Hid (Calls Try.prog 40 #[.slice (some ⟨a, 0, none⟩) l.length l.length] wr (Yields wr (.int .i64 (tot (cs (low f (tot l) l)))))) := hid (by
          have := total_any (Iz.ints hI.out.1 (by rw [hcl]; exact hll)) hcb.out (by rw [hcl]; omega)
          rwa [hcl] at this)
        have HT0 : Hid (Two w a b (low f (tot l) l) wr) := hid ⟨hx, hI.out.1, hI.out.2⟩
        clear hI hx hl0 hl64 hNN hcb hcl
        go_wp2_with (go_at_call 40; refine HQB.out.yields ?_; intro p)
        have hx8 := ext_more wr p
        have HT1 := hid (HT0.out.more hx8)
        clear HT0 HQB hx8
        generalize more wr p = w8 at *
        clear htc htb htb0
        go_loopw [9] (fun v9 wr => ∃ (n : Nat) (Q : List Pr), v9 = .int .i64 n ∧ n ≤ N ∧ Q.length = l.length ∧ Hid (Two w a b Q wr) ∧ Hid (runR n Q = runR N (low f (tot l) l)) ∧ Hid (∀ p ∈ Q, 0 ≤ p.1 ∧ p.1 ≤ 64 + (N - n : Int) ∧ -1 ≤ p.2 ∧ p.2 ≤ 6000)) (fun v9 _ => (intOf v9).toNat)
        case atStart => exact ⟨N, _, rfl, by omega, low_length _ _ _, HT1, hid rfl, hid fun p hp => by have := HB0.out p hp; omega⟩
        case round =>
          obtain ⟨n, Q, rfl, hnN, hQl, hT, hR, hB⟩ := hrel
          by_cases hn0 : n = 0
          · subst hn0
            have hres : Hid (Iz wr a (countsL f l)) := hid (by have := hT.out.out; rw [← HCL.out, ← hR.out]; exact this)
            have hx9 := hT.out.ext
            clear hT hR hB
            go_wp2
            go_returns
            exact ⟨a, by simp, ha, hx9, hres.out⟩
          have i0 : (0 : Int) < n := by omega
          have i0n : 0 < n := by omega
          have i0d : decide (0 < n) = true := by simpa using i0n
          have HB2 : Hid (∀ p ∈ Q, p.2.natAbs < 2 ^ 53) := hid fun p hp => by have := hB.out p hp; omega
          go_wp2
          go_loopw [10, 11] (fun v10 v11 wz => ∃ (k m : Nat), v11 = .int .i64 k ∧ v10 = .int .i64 m ∧ 1 ≤ k ∧ k ≤ l.length ∧ Hid (m = amTo (rs Q) k) ∧ Hid (Two w a b Q wz)) (fun _ v11 _ => (l.length - intOf v11).toNat)
          case atStart => exact ⟨1, 0, rfl, rfl, by omega, by omega, hid (amTo_one _).symm, hT⟩
          case round =>
            obtain ⟨k, m, rfl, rfl, hk1, hk, hm, hT2⟩ := hrel
            by_cases hlt : k < l.length
            · have hkQ : k < Q.length := by omega
              have hmk : m < k := by rw [hm.out]; exact amTo_lt _ _ (by omega)
              have hmQ : m < Q.length := by omega
              have c0 := hT2.out.rest.at (i := k) (by rw [rs_length]; exact hkQ)
              have c1 := hT2.out.rest.at (i := m) (by rw [rs_length]; exact hmQ)
              rw [rs_at] at c0 c1
              have hst : Hid (amTo (rs Q) (k + 1) = if Q[m].2 < Q[k].2 then k else m) := hid (by
                have e1 := rs_get Q hmQ
                have e2 := rs_get Q hkQ
                have := hm.out
                simp only [amTo]; rw [← this, e1, e2])
              generalize Q[k].2 = y at *
              generalize Q[m].2 = z at *
              have i1 : (k : Int) < l.length := by omega
              have i2 : (m : Int) < l.length := by omega
              have c0 := more_cell c0
              have c1 := more_cell c1
              by_cases hc : z < y
              · go_wp2
                ((first | refine wp_region_more (by kernel_rfl) (by kernel_rfl) ?_ | refine wp_region_ext (by kernel_rfl) (by kernel_rfl) ?_); (try dsimp only [append_cons', append_nil']); (repeat (go_big_quiet_step ((fail)))); refine wpQuiet_nil ?_; rintro _ ⟨pq, rfl⟩)
                go_wp2
                all_goals
                  go_roundw
                  case rel => exact ⟨k + 1, k, by go_num, rfl, by omega, by omega, hid (by rw [hst.out, if_pos hc]), hid (hT2.out.more (ext_more _ _))⟩
                  case measure => simp [intOf]; omega
              · go_wp2
                ((first | refine wp_region_more (by kernel_rfl) (by kernel_rfl) ?_ | refine wp_region_ext (by kernel_rfl) (by kernel_rfl) ?_); (try dsimp only [append_cons', append_nil']); (repeat (go_big_quiet_step ((fail)))); refine wpQuiet_nil ?_; rintro _ ⟨pq, rfl⟩)
                go_wp2
                all_goals
                  go_roundw
                  case rel => exact ⟨k + 1, m, by go_num, rfl, by omega, by omega, hid (by rw [hst.out, if_neg (by omega)]), hid (hT2.out.more (ext_more _ _))⟩
                  case measure => simp [intOf]; omega
            · obtain rfl : k = l.length := by omega
              have hma : m = am (rs Q) := by rw [hm.out, am, rs_length, hQl]
              have hmQ : m < Q.length := by rw [hm.out, hQl]; exact amTo_lt _ _ (by omega)
              have c0 := hT2.out.out.at (i := m) (by rw [cs_length]; exact hmQ)
              rw [cs_at] at c0
              have c1 := hT2.out.rest.at (i := m) (by rw [rs_length]; exact hmQ)
              have f0 := hT2.out.out.frozen m
              have f1 := hT2.out.rest.frozen m
              have l0 := hT2.out.out.lt
              have l1 := hT2.out.rest.lt
              have hbm := hB.out _ (List.getElem_mem hmQ)
              have hnx : Hid (Two w a b (stepR Q) ((wr.setCell ⟨a, m, none⟩ (.int .i64 (Q[m].1 + 1))).setCell ⟨b, m, none⟩ (.int .i64 (-1)))) := hid (by
                have e := hT2.out
                have o1 := e.out.set m (.int .i64 (Q[m].1 + 1))
                have o2 := o1.other hab m (.int .i64 (-1))
                have r1 := e.rest.other (fun x => hab x.symm) m (.int .i64 (Q[m].1 + 1))
                have r2 := r1.set m (.int .i64 (-1))
                refine ⟨(e.ext.setCell (by simpa using ha) _).setCell (by simpa using hb) _, ?_, ?_⟩
                · unfold stepR Iz
                  rw [cs_set, ← hma, getD_of hmQ, List.map_set]; exact o2
                · unfold stepR Iz
                  rw [rs_set, ← hma, getD_of hmQ, List.map_set]; exact r2)
              have hR2 : Hid (runR (n - 1) (stepR Q) = runR N (low f (tot l) l)) := hid (by
                rw [← hR.out]
                obtain ⟨n', rfl⟩ : ∃ n', n = n' + 1 := ⟨n - 1, by omega⟩
                rfl)
              have hB3 : Hid (∀ p ∈ stepR Q, 0 ≤ p.1 ∧ p.1 ≤ 64 + (N - (n - 1 : Nat) : Int) ∧ -1 ≤ p.2 ∧ p.2 ≤ 6000) := hid (fun p hp => by
                have := stepR_mem (by rw [← hma]; exact hmQ) hB.out p hp
                omega)
              have hQ2 : (stepR Q).length = l.length := by rw [stepR_length]; exact hQl
              clear hm hT2 hT hR hB HB2 hma
              generalize Q[m].1 = y at *
              generalize (rs Q)[m]'(by rw [rs_length]; exact hmQ) = z at *
              have i2 : (m : Int) < l.length := by omega
              have i3 : (n : Int) - 1 = ((n - 1 : Nat) : Int) := by omega
              go_wp2
              all_goals
                go_roundw
                case rel => exact ⟨n - 1, _, by go_num, by omega, hQ2, hnx, hR2, hB3⟩
                case measure => simp [intOf]; omega
end Go.Proofs.Ytfjhcmpcnnjodaa
