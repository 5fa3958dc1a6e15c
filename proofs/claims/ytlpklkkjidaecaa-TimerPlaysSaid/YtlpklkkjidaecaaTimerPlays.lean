/- TimerPlays: every row of settings, drops, times: who is due, who is next, how many sleep, behind each: as the document's timers: the law answers true. No conditions. -/
import Derived.Test.YtlpklkkjidaecaaRf5
import Derived.Test.YtlpklkkjidaecaaSI
import Derived.Test.YtlpklkkjidaecaaOwn8
import Derived.WalkSpells
import Derived.WalkLawsBesides
import Derived.Deep.LoopGhost
import Derived.Deep.CutBlock
import Derived.Deep.DeepCutAuto
namespace Go.Proofs.Ytlpklkkjidaecaa
open Go.ChangeShapes Go.WideShapes Go.ChangeAt Go.RowKit Go.Joins Go.Deep
set_option linter.unusedSimpArgs false

namespace timerPlays
open Ti Rw Rf
def stO (sw si sn : Int) : Obj := .cells #[.int .i64 sw, .int .i64 si, .int .i64 sn] 31 (0, 0)
def InvP (w0 : World) (x y k : Nat) (wr : World) : Prop := ∃ N, N.length ≤ k ∧ Bo w0 x y N N (fun _ => False) wr
def SF (S : Nat) (si sn : Int) (u : World) : Prop := u.cell? ⟨S, 1, none⟩ = some (.int .i64 si) ∧ u.cell? ⟨S, 2, none⟩ = some (.int .i64 sn)
def At (S : Nat) (sw si sn : Int) (u : World) : Prop := u.heap[S]? = some (stO sw si sn)
section
variable {w0 w w' : World} {x y S : Nat} {sw si sn : Int}
theorem sf (h : At S sw si sn w) : SF S si sn w := by
  unfold At stO at h
  exact ⟨by simp [World.cell?, h], by simp [World.cell?, h]⟩
theorem sf0 (h : At S sw si sn w) : w.cell? ⟨S, 0, none⟩ = some (.int .i64 sw) := by
  unfold At stO at h
  simp [World.cell?, h]
theorem kept (k : SameF (· = S) w w') (h : At S sw si sn w) : At S sw si sn w' := by
  unfold At at *
  rw [k S rfl]; exact h
theorem put_le (id u : Int) (l : List En) : (put id u l).length ≤ l.length + 1 := by
  unfold put others
  rw [List.length_cons]
  have := List.length_filter_le (fun e : En => e.1 != id) l
  omega
end

set_option maxRecDepth 100000 in
set_option linter.unusedVariables false in
set_option maxHeartbeats 40000000 in
theorem walk (v : Value) (L : List Stp) (w : World) (hL : Stps w v L) :
    Calls Try.prog 3 #[v] w (Yields w (.bool true)) := by
  obtain ⟨p, cap, rfl, hcap, hmax⟩ := hL.shape
  unfold maxLen at hmax
  have HL := hid hL
  clear hL
  go_enter Try.func3, Try.ntmps3
  go_wp2_with fail
  refine (known_any _).yields ?_
  intro p0
  have hE0 := hid (ext_more w p0)
  generalize more w p0 = w0 at *
  by_cases hz : 80 < L.length
  · have i1 : (80 : Int) < (L.length : Int) := by omega
    go_wp2
    go_returns
    exact ⟨rfl, hE0.out⟩
  have i1 : (L.length : Int) ≤ 80 := by omega
  have HZ := hid hz
  clear hz
  go_wp2_with fail
  (with_reducible refine (st_new (Ext.refl w0)).mono ?_)
  rintro e w1 ⟨rfl, A1, s1, -, -⟩
  have SP : Hid (InvP w0 w0.heap.size w1.heap.size 0 (w1.alloc (.cells #[.slice none 0 0] 29 (0, 0)))) := ⟨[], by simp, bo_start s1 rfl⟩
  clear s1
  generalize w0.heap.size = x at *
  generalize hy : w1.heap.size = y at *
  go_wp2_with fail
  go_loopg [5] L.length (fun gg v5 wr => ∃ k : Nat, v5 = .int .i64 k ∧ k ≤ L.length ∧ L.length - k ≤ gg ∧ Hid (InvP w0 x y k wr))
  case atStart => exact ⟨0, rfl, by omega, by omega, SP⟩
  case round =>
    obtain ⟨k, rfl, hk, hgg, hinv⟩ := hrel
    clear SP
    by_cases hlt : k < L.length
    · have j1 : (k : Int) < (L.length : Int) := by omega
      obtain ⟨g, off, rfl, c0, c1, c2, wi, wn⟩ := HL.out.at k hlt
      obtain ⟨l, hlen, hbo⟩ := hinv.out
      have hx := hE0.out.trans hbo.xt
      have d0 := hx.cell c0
      have d1 := hx.cell c1
      have d2 := hx.cell c2
      have HBO := hid hbo
      have HLEN : Hid (l.length ≤ k ∧ k < 80) := ⟨hlen, by have := HZ.out; omega⟩
      clear c0 c1 c2 hx hinv hbo hlen
      generalize L[k] = s at *
      obtain ⟨sw, si, sn⟩ := s
      simp only at d0 d1 d2 wi wn
      have HWF := hid wi
      clear wi wn
      go_upto_block 2 with fail
      have S2 := hid ((HBO.out.alloc (stO sw si sn)).fewer (G := (· = wr.heap.size)) fun _ h => .inl h)
      have SB : Hid (At wr.heap.size sw si sn (wr.alloc (stO sw si sn))) := heap_alloc_new wr _
      simp only [stO] at S2 SB
      clear HBO d0 d1 d2
      generalize wr.heap.size = S at *
      generalize wr.alloc (.cells #[.int .i64 sw, .int .i64 si, .int .i64 sn] 31 (0, 0)) = w2 at *
      have S2 : Hid (Bo w0 x y l l (· = S) w2) := S2
      have SB : Hid (At S sw si sn w2) := SB
      have e0 := sf0 SB.out
      have e1 := (sf SB.out).1
      have e2 := (sf SB.out).2
      go_cut [] (fun wx => ∃ N : List En, N.length ≤ k + 1 ∧ Bo w0 x y N N (· = S) wx ∧ At S sw si sn wx)
      case first =>
        by_cases h1 : sw ≤ 2
        · clear hgg
          have CP := hid (bo_pset S2.out si sn (by have := HLEN.out; omega) HWF.out)
          go_wp2_with fail
          (with_reducible refine CP.out.mono ?_)
          rintro e w3 ⟨rfl, s3, k3⟩
          have S3 := hid s3
          have SB3 := hid (kept k3 SB.out)
          have q1 := (sf SB3.out).1
          have q2 := (sf SB3.out).2
          clear s3 k3 S2 SB CP e0 e1 e2
          have CQ := hid (bo_qset S3.out si sn (by have := HLEN.out; omega))
          go_wp2_with fail
          (with_reducible refine CQ.out.mono ?_)
          rintro e w4 ⟨rfl, N4, p4, s4, k4⟩
          have S4 := hid ((s4.perm p4.symm))
          have SB4 := hid (kept k4 SB3.out)
          have HN4 : Hid (N4.length ≤ k + 1) := by
            have h1 := p4.length_eq
            have h2 := put_le si sn l
            have h3 := HLEN.out
            show _ ≤ _
            omega
          clear s4 k4 S3 SB3 CQ p4 q1 q2
          go_wp2
          go_meet
          case rel => exact ⟨N4, HN4.out, S4.out, SB4.out⟩
        by_cases h2 : sw = 3
        · have h2' : (sw == 3) = true := by simp [h2]
          clear h2
          go_upto_region 16 with fail
          refine wp_region_T 8 1 (SF S si sn) (by kernel_rfl) (by kernel_rfl) ?_
          obtain ⟨b0, k0⟩ := Bo.ext S2.out (Ext.drew (Ext.refl w2))
          have HD0 := hid b0
          have HK0 := hid (kept k0 SB.out)
          clear S2 SB b0 k0
          generalize w2.drew = z0 at *
          have HSS := sf HK0.out
          refine wpT_take 0 (v := ?v21) rfl (by kernel_rfl) (by kernel_rfl) (by kernel_rfl) (by kernel_rfl) (by intro _ _ _ h; first | exact h | (obtain ⟨h, _⟩ := h; cases h)) (by rfl) HSS ?hy21 ?_
          case hy21 => (intro u hu; obtain ⟨hs1, hs2⟩ := hu; go_simp; first | done | (with_reducible rfl))
          (try simp only [Act.put, List.getElem_toArray, List.getElem_cons_zero, List.getElem_cons_succ, List.setIfInBounds_toArray, List.set_cons_zero, List.set_cons_succ])
          refine wpT_take 1 (v := ?v22) rfl (by kernel_rfl) (by kernel_rfl) (by kernel_rfl) (by kernel_rfl) (by intro _ _ _ h; first | exact h | (obtain ⟨h, _⟩ := h; cases h)) (by rfl) HSS ?hy22 ?_
          case hy22 => (intro u hu; obtain ⟨hs1, hs2⟩ := hu; go_simp; first | done | (with_reducible rfl))
          (try simp only [Act.put, List.getElem_toArray, List.getElem_cons_zero, List.getElem_cons_succ, List.setIfInBounds_toArray, List.set_cons_zero, List.set_cons_succ])
          refine wpT_take 2 (v := ?v23) rfl (by kernel_rfl) (by kernel_rfl) (by kernel_rfl) (by kernel_rfl) (by intro _ _ _ h; first | exact h | (obtain ⟨h, _⟩ := h; cases h)) (by rfl) HSS ?hy23 ?_
          case hy23 => (intro u hu; obtain ⟨hs1, hs2⟩ := hu; go_simp; first | done | (with_reducible rfl))
          (try simp only [Act.put, List.getElem_toArray, List.getElem_cons_zero, List.getElem_cons_succ, List.setIfInBounds_toArray, List.set_cons_zero, List.set_cons_succ])
          refine wpT_take 4 (v := ?v24) rfl (by kernel_rfl) (by kernel_rfl) (by kernel_rfl) (by kernel_rfl) (by intro _ _ _ h; first | exact h | (obtain ⟨h, _⟩ := h; cases h)) (by rfl) HSS ?hy24 ?_
          case hy24 => (intro u hu; obtain ⟨hs1, hs2⟩ := hu; go_simp; first | done | (with_reducible rfl))
          (try simp only [Act.put, List.getElem_toArray, List.getElem_cons_zero, List.getElem_cons_succ, List.setIfInBounds_toArray, List.set_cons_zero, List.set_cons_succ])
          refine wpT_take 5 (v := ?v25) rfl (by kernel_rfl) (by kernel_rfl) (by kernel_rfl) (by kernel_rfl) (by intro _ _ _ h; first | exact h | (obtain ⟨h, _⟩ := h; cases h)) (by rfl) HSS ?hy25 ?_
          case hy25 => (intro u hu; obtain ⟨hs1, hs2⟩ := hu; go_simp; first | done | (with_reducible rfl))
          (try simp only [Act.put, List.getElem_toArray, List.getElem_cons_zero, List.getElem_cons_succ, List.setIfInBounds_toArray, List.set_cons_zero, List.set_cons_succ])
          refine wpT_take 6 (v := ?v26) rfl (by kernel_rfl) (by kernel_rfl) (by kernel_rfl) (by kernel_rfl) (by intro _ _ _ h; first | exact h | (obtain ⟨h, _⟩ := h; cases h)) (by rfl) HSS ?hy26 ?_
          case hy26 => (intro u hu; obtain ⟨hs1, hs2⟩ := hu; go_simp; first | done | (with_reducible rfl))
          (try simp only [Act.put, List.getElem_toArray, List.getElem_cons_zero, List.getElem_cons_succ, List.setIfInBounds_toArray, List.set_cons_zero, List.set_cons_succ])
          refine wpT_one 3 rfl (by kernel_rfl) (by rfl) (fun K' hK => ?_)
          go_simp
          refine (bo_pdrop HD0.out si (by have := HLEN.out; omega) HWF.out).mono ?_
          rintro e v1 ⟨rfl, hd1, hk1⟩
          have HD1 := hid hd1
          have HK1 := hid (kept hk1 HK0.out)
          clear hd1 hk1 HD0 HK0
          refine hK.out _ _ (sf HK1.out) ?_
          clear hK K' HSS
          have HSS := sf HK1.out
          (try simp only [Act.put, List.getElem_toArray, List.getElem_cons_zero, List.getElem_cons_succ, List.setIfInBounds_toArray, List.set_cons_zero, List.set_cons_succ])
          refine wpT_one 7 rfl (by kernel_rfl) (by rfl) (fun K' hK => ?_)
          go_simp
          refine (bo_qdrop HD1.out si (by have := HLEN.out; omega)).mono ?_
          rintro e v2 ⟨rfl, hd2, hk2⟩
          have HD2 := hid hd2
          have HK2 := hid (kept hk2 HK1.out)
          clear hd2 hk2 HD1 HK1
          refine hK.out _ _ (sf HK2.out) ?_
          clear hK K' HSS
          have HSS := sf HK2.out
          (try simp only [Act.put, List.getElem_toArray, List.getElem_cons_zero, List.getElem_cons_succ, List.setIfInBounds_toArray, List.set_cons_zero, List.set_cons_succ])
          have q6 : (isIn si l != isIn si l) = false := by simp
          generalize isIn si l = bb at *
          refine wpT_done (by kernel_rfl) ?_
          refine wpAny_take (i := 8) (v := ?w48) rfl (by kernel_rfl) (by kernel_rfl) (by kernel_rfl) (by intro _ _ _ h; first | exact h | (obtain ⟨h, _⟩ := h; cases h)) (Or.inl ⟨by rfl, ?hw48⟩) ?_
          case hw48 => (intro w; go_simp; first | done | (with_reducible rfl))
          (try simp only [Act.put, List.getElem_toArray, List.getElem_cons_zero, List.getElem_cons_succ, List.setIfInBounds_toArray, List.set_cons_zero, List.set_cons_succ])
          refine wpAny_done (by kernel_rfl) ?_ _
          have HN2 : Hid ((others si l).length ≤ k + 1) := by
            have h1 : (others si l).length ≤ l.length := List.length_filter_le _ _
            have h2 := HLEN.out.1
            show _ ≤ _
            omega
          go_wp2
          go_meet
          case rel => exact ⟨_, HN2.out, HD2.out, HK2.out⟩
        · have h2' : (sw == 3) = false := by simp [h2]
          clear h2
          go_upto_region 10 with fail
          refine wp_region_T 9 1 (SF S si sn) (by kernel_rfl) (by kernel_rfl) ?_
          obtain ⟨b0, k0⟩ := Bo.ext S2.out (Ext.drew (Ext.refl w2))
          have HD0 := hid b0
          have HK0 := hid (kept k0 SB.out)
          clear S2 SB b0 k0
          generalize w2.drew = z0 at *
          have HSS := sf HK0.out
          refine wpT_take 0 (v := ?v27) rfl (by kernel_rfl) (by kernel_rfl) (by kernel_rfl) (by kernel_rfl) (by intro _ _ _ h; first | exact h | (obtain ⟨h, _⟩ := h; cases h)) (by rfl) HSS ?hy27 ?_
          case hy27 => (intro u hu; obtain ⟨hs1, hs2⟩ := hu; go_simp; first | done | (with_reducible rfl))
          (try simp only [Act.put, List.getElem_toArray, List.getElem_cons_zero, List.getElem_cons_succ, List.setIfInBounds_toArray, List.set_cons_zero, List.set_cons_succ])
          refine wpT_take 1 (v := ?v28) rfl (by kernel_rfl) (by kernel_rfl) (by kernel_rfl) (by kernel_rfl) (by intro _ _ _ h; first | exact h | (obtain ⟨h, _⟩ := h; cases h)) (by rfl) HSS ?hy28 ?_
          case hy28 => (intro u hu; obtain ⟨hs1, hs2⟩ := hu; go_simp; first | done | (with_reducible rfl))
          (try simp only [Act.put, List.getElem_toArray, List.getElem_cons_zero, List.getElem_cons_succ, List.setIfInBounds_toArray, List.set_cons_zero, List.set_cons_succ])
          refine wpT_take 2 (v := ?v29) rfl (by kernel_rfl) (by kernel_rfl) (by kernel_rfl) (by kernel_rfl) (by intro _ _ _ h; first | exact h | (obtain ⟨h, _⟩ := h; cases h)) (by rfl) HSS ?hy29 ?_
          case hy29 => (intro u hu; obtain ⟨hs1, hs2⟩ := hu; go_simp; first | done | (with_reducible rfl))
          (try simp only [Act.put, List.getElem_toArray, List.getElem_cons_zero, List.getElem_cons_succ, List.setIfInBounds_toArray, List.set_cons_zero, List.set_cons_succ])
          refine wpT_take 4 (v := ?v30) rfl (by kernel_rfl) (by kernel_rfl) (by kernel_rfl) (by kernel_rfl) (by intro _ _ _ h; first | exact h | (obtain ⟨h, _⟩ := h; cases h)) (by rfl) HSS ?hy30 ?_
          case hy30 => (intro u hu; obtain ⟨hs1, hs2⟩ := hu; go_simp; first | done | (with_reducible rfl))
          (try simp only [Act.put, List.getElem_toArray, List.getElem_cons_zero, List.getElem_cons_succ, List.setIfInBounds_toArray, List.set_cons_zero, List.set_cons_succ])
          refine wpT_take 5 (v := ?v31) rfl (by kernel_rfl) (by kernel_rfl) (by kernel_rfl) (by kernel_rfl) (by intro _ _ _ h; first | exact h | (obtain ⟨h, _⟩ := h; cases h)) (by rfl) HSS ?hy31 ?_
          case hy31 => (intro u hu; obtain ⟨hs1, hs2⟩ := hu; go_simp; first | done | (with_reducible rfl))
          (try simp only [Act.put, List.getElem_toArray, List.getElem_cons_zero, List.getElem_cons_succ, List.setIfInBounds_toArray, List.set_cons_zero, List.set_cons_succ])
          refine wpT_take 6 (v := ?v32) rfl (by kernel_rfl) (by kernel_rfl) (by kernel_rfl) (by kernel_rfl) (by intro _ _ _ h; first | exact h | (obtain ⟨h, _⟩ := h; cases h)) (by rfl) HSS ?hy32 ?_
          case hy32 => (intro u hu; obtain ⟨hs1, hs2⟩ := hu; go_simp; first | done | (with_reducible rfl))
          (try simp only [Act.put, List.getElem_toArray, List.getElem_cons_zero, List.getElem_cons_succ, List.setIfInBounds_toArray, List.set_cons_zero, List.set_cons_succ])
          refine wpT_one 3 rfl (by kernel_rfl) (by rfl) (fun K' hK => ?_)
          go_simp
          refine (bo_pdue HD0.out sn (by have := HLEN.out; omega)).mono ?_
          rintro e v1 ⟨vd, rfl, ho1, hd1, hk1⟩
          have HD1 := hid hd1
          have HK1 := hid (kept hk1 HK0.out)
          have HO1 := hid ho1
          clear hd1 hk1 ho1 HD0 HK0
          refine hK.out _ _ (sf HK1.out) ?_
          clear hK K' HSS
          have HSS := sf HK1.out
          (try simp only [Act.put, List.getElem_toArray, List.getElem_cons_zero, List.getElem_cons_succ, List.setIfInBounds_toArray, List.set_cons_zero, List.set_cons_succ])
          refine wpT_one 7 rfl (by kernel_rfl) (by rfl) (fun K' hK => ?_)
          go_simp
          refine (bo_qdue HD1.out sn (by have := HLEN.out; omega)).mono ?_
          rintro e v2 ⟨ve, rfl, hi2, hd2, hk2⟩
          have HD2 := hid (hd2.fewer (G := (· = S)) fun _ h => .inr h)
          have HK2 := hid (kept (fun i hi => hk2 i (.inr hi)) HK1.out)
          have HI1 := hid (ints_of_owns (owns_keep HO1.out fun g hg => hk2 g (.inl hg)))
          have HI2 := hid hi2
          clear hd2 hk2 hi2 HD1 HK1 HO1
          refine hK.out _ _ (sf HK2.out) ?_
          clear hK K' HSS
          have HSS := sf HK2.out
          (try simp only [Act.put, List.getElem_toArray, List.getElem_cons_zero, List.getElem_cons_succ, List.setIfInBounds_toArray, List.set_cons_zero, List.set_cons_succ])
          refine wpT_one 8 rfl (by kernel_rfl) (by rfl) (fun K' hK => ?_)
          go_simp
          refine (sameI_to HI1.out HI2.out).mono ?_
          rintro e v3 ⟨rfl, hx3⟩
          obtain ⟨b3, k3⟩ := Bo.ext HD2.out hx3
          have HD3 := hid b3
          have HK3 := hid (kept k3 HK2.out)
          clear hx3 b3 k3 HD2 HK2 HI1 HI2
          refine hK.out _ _ (sf HK3.out) ?_
          clear hK K' HSS
          have HSS := sf HK3.out
          (try simp only [Act.put, List.getElem_toArray, List.getElem_cons_zero, List.getElem_cons_succ, List.setIfInBounds_toArray, List.set_cons_zero, List.set_cons_succ])
          refine wpT_done (by kernel_rfl) ?_
          refine wpAny_take (i := 9) (v := ?w49) rfl (by kernel_rfl) (by kernel_rfl) (by kernel_rfl) (by intro _ _ _ h; first | exact h | (obtain ⟨h, _⟩ := h; cases h)) (Or.inl ⟨by rfl, ?hw49⟩) ?_
          case hw49 => (intro w; go_simp; first | done | (with_reducible rfl))
          (try simp only [Act.put, List.getElem_toArray, List.getElem_cons_zero, List.getElem_cons_succ, List.setIfInBounds_toArray, List.set_cons_zero, List.set_cons_succ])
          refine wpAny_done (by kernel_rfl) ?_ _
          have HN2 : Hid ((sleepOn sn l).length ≤ k + 1) := by
            have h1 : (sleepOn sn l).length ≤ l.length := List.length_filter_le _ _
            have h2 := HLEN.out.1
            show _ ≤ _
            omega
          go_wp2
          go_meet
          case rel => exact ⟨_, HN2.out, HD3.out, HK3.out⟩
      case rest =>
        obtain ⟨N, hN, hbo, hat⟩ := hcut
        have HN := hid hN
        have S2 := hid hbo
        have HLEN : Hid (N.length ≤ 81) := by have := HLEN.out; show _ ≤ _; omega
        clear hN hbo hat e0 e1 e2
        go_wp2_with fail
        (with_reducible refine (bo_pnext S2.out).mono ?_)
        rintro e w3 ⟨⟨z1, rfl, hz1⟩, hw⟩
        rw [hw]
        clear hw
        clear w3
        have HZ1 := hid hz1
        clear hz1
        go_wp2_with fail
        (with_reducible refine (bo_qnext S2.out (by have := HLEN.out; omega)).mono ?_)
        rintro e w4 ⟨⟨z2, rfl, hz2⟩, hx4⟩
        obtain rfl : z1 = z2 := HZ1.out.one hz2
        obtain ⟨b4, k4⟩ := Bo.ext S2.out hx4
        have S4 := hid b4
        clear hz2 HZ1 S2 SB b4 k4 hx4
        generalize hem : (!N.isEmpty) = em at *
        clear hem
        have q1 : (z1 != z1) = false := by simp
        have q2 : (em != em) = false := by simp
        obtain ⟨p5, c5, hc5⟩ := S4.out.cell
        go_upto_region 20 with fail
        refine wp_region_T 16 2 (fun u => u.cell? ⟨y, 0, none⟩ = some (.slice p5 N.length c5)) (by kernel_rfl) (by kernel_rfl) ?_
        obtain ⟨b5, k5⟩ := Bo.ext S4.out (Ext.drew (Ext.refl w4))
        have HD0 := hid b5
        have HSS : w4.drew.cell? ⟨y, 0, none⟩ = some (.slice p5 N.length c5) := hc5
        clear S4 b5 k5 hc5
        generalize w4.drew = z0 at *

        refine wpT_take 0 (v := ?v33) rfl (by kernel_rfl) (by kernel_rfl) (by kernel_rfl) (by kernel_rfl) (by intro _ _ _ h; first | exact h | (obtain ⟨h, _⟩ := h; cases h)) (by rfl) HSS ?hy33 ?_
        case hy33 => (intro u hu; obtain hu := hu; go_simp; first | done | (with_reducible rfl))
        (try simp only [Act.put, List.getElem_toArray, List.getElem_cons_zero, List.getElem_cons_succ, List.setIfInBounds_toArray, List.set_cons_zero, List.set_cons_succ])
        refine wpT_take 1 (v := ?v34) rfl (by kernel_rfl) (by kernel_rfl) (by kernel_rfl) (by kernel_rfl) (by intro _ _ _ h; first | exact h | (obtain ⟨h, _⟩ := h; cases h)) (by rfl) HSS ?hy34 ?_
        case hy34 => (intro u hu; obtain hu := hu; go_simp; first | done | (with_reducible rfl))
        (try simp only [Act.put, List.getElem_toArray, List.getElem_cons_zero, List.getElem_cons_succ, List.setIfInBounds_toArray, List.set_cons_zero, List.set_cons_succ])
        refine wpT_take 2 (v := ?v35) rfl (by kernel_rfl) (by kernel_rfl) (by kernel_rfl) (by kernel_rfl) (by intro _ _ _ h; first | exact h | (obtain ⟨h, _⟩ := h; cases h)) (by rfl) HSS ?hy35 ?_
        case hy35 => (intro u hu; obtain hu := hu; go_simp; first | done | (with_reducible rfl))
        (try simp only [Act.put, List.getElem_toArray, List.getElem_cons_zero, List.getElem_cons_succ, List.setIfInBounds_toArray, List.set_cons_zero, List.set_cons_succ])
        refine wpT_take 3 (v := ?v36) rfl (by kernel_rfl) (by kernel_rfl) (by kernel_rfl) (by kernel_rfl) (by intro _ _ _ h; first | exact h | (obtain ⟨h, _⟩ := h; cases h)) (by rfl) HSS ?hy36 ?_
        case hy36 => (intro u hu; obtain hu := hu; go_simp; first | done | (with_reducible rfl))
        (try simp only [Act.put, List.getElem_toArray, List.getElem_cons_zero, List.getElem_cons_succ, List.setIfInBounds_toArray, List.set_cons_zero, List.set_cons_succ])
        refine wpT_take 4 (v := ?v37) rfl (by kernel_rfl) (by kernel_rfl) (by kernel_rfl) (by kernel_rfl) (by intro _ _ _ h; first | exact h | (obtain ⟨h, _⟩ := h; cases h)) (by rfl) HSS ?hy37 ?_
        case hy37 => (intro u hu; obtain hu := hu; go_simp; first | done | (with_reducible rfl))
        (try simp only [Act.put, List.getElem_toArray, List.getElem_cons_zero, List.getElem_cons_succ, List.setIfInBounds_toArray, List.set_cons_zero, List.set_cons_succ])
        refine wpT_take 5 (v := ?v38) rfl (by kernel_rfl) (by kernel_rfl) (by kernel_rfl) (by kernel_rfl) (by intro _ _ _ h; first | exact h | (obtain ⟨h, _⟩ := h; cases h)) (by rfl) HSS ?hy38 ?_
        case hy38 => (intro u hu; obtain hu := hu; go_simp; first | done | (with_reducible rfl))
        (try simp only [Act.put, List.getElem_toArray, List.getElem_cons_zero, List.getElem_cons_succ, List.setIfInBounds_toArray, List.set_cons_zero, List.set_cons_succ])
        refine wpT_take 6 (v := ?v39) rfl (by kernel_rfl) (by kernel_rfl) (by kernel_rfl) (by kernel_rfl) (by intro _ _ _ h; first | exact h | (obtain ⟨h, _⟩ := h; cases h)) (by rfl) HSS ?hy39 ?_
        case hy39 => (intro u hu; obtain hu := hu; go_simp; first | done | (with_reducible rfl))
        (try simp only [Act.put, List.getElem_toArray, List.getElem_cons_zero, List.getElem_cons_succ, List.setIfInBounds_toArray, List.set_cons_zero, List.set_cons_succ])
        refine wpT_take 7 (v := ?v40) rfl (by kernel_rfl) (by kernel_rfl) (by kernel_rfl) (by kernel_rfl) (by intro _ _ _ h; first | exact h | (obtain ⟨h, _⟩ := h; cases h)) (by rfl) HSS ?hy40 ?_
        case hy40 => (intro u hu; obtain hu := hu; go_simp; first | done | (with_reducible rfl))
        (try simp only [Act.put, List.getElem_toArray, List.getElem_cons_zero, List.getElem_cons_succ, List.setIfInBounds_toArray, List.set_cons_zero, List.set_cons_succ])
        refine wpT_take 8 (v := ?v41) rfl (by kernel_rfl) (by kernel_rfl) (by kernel_rfl) (by kernel_rfl) (by intro _ _ _ h; first | exact h | (obtain ⟨h, _⟩ := h; cases h)) (by rfl) HSS ?hy41 ?_
        case hy41 => (intro u hu; obtain hu := hu; go_simp; first | done | (with_reducible rfl))
        (try simp only [Act.put, List.getElem_toArray, List.getElem_cons_zero, List.getElem_cons_succ, List.setIfInBounds_toArray, List.set_cons_zero, List.set_cons_succ])
        refine wpT_take 9 (v := ?v42) rfl (by kernel_rfl) (by kernel_rfl) (by kernel_rfl) (by kernel_rfl) (by intro _ _ _ h; first | exact h | (obtain ⟨h, _⟩ := h; cases h)) (by rfl) HSS ?hy42 ?_
        case hy42 => (intro u hu; obtain hu := hu; go_simp; first | done | (with_reducible rfl))
        (try simp only [Act.put, List.getElem_toArray, List.getElem_cons_zero, List.getElem_cons_succ, List.setIfInBounds_toArray, List.set_cons_zero, List.set_cons_succ])
        refine wpT_take 11 (v := ?v43) rfl (by kernel_rfl) (by kernel_rfl) (by kernel_rfl) (by kernel_rfl) (by intro _ _ _ h; first | exact h | (obtain ⟨h, _⟩ := h; cases h)) (by rfl) HSS ?hy43 ?_
        case hy43 => (intro u hu; obtain hu := hu; go_simp; first | done | (with_reducible rfl))
        (try simp only [Act.put, List.getElem_toArray, List.getElem_cons_zero, List.getElem_cons_succ, List.setIfInBounds_toArray, List.set_cons_zero, List.set_cons_succ])
        refine wpT_take 12 (v := ?v44) rfl (by kernel_rfl) (by kernel_rfl) (by kernel_rfl) (by kernel_rfl) (by intro _ _ _ h; first | exact h | (obtain ⟨h, _⟩ := h; cases h)) (by rfl) HSS ?hy44 ?_
        case hy44 => (intro u hu; obtain hu := hu; go_simp; first | done | (with_reducible rfl))
        (try simp only [Act.put, List.getElem_toArray, List.getElem_cons_zero, List.getElem_cons_succ, List.setIfInBounds_toArray, List.set_cons_zero, List.set_cons_succ])
        refine wpT_take 13 (v := ?v45) rfl (by kernel_rfl) (by kernel_rfl) (by kernel_rfl) (by kernel_rfl) (by intro _ _ _ h; first | exact h | (obtain ⟨h, _⟩ := h; cases h)) (by rfl) HSS ?hy45 ?_
        case hy45 => (intro u hu; obtain hu := hu; go_simp; first | done | (with_reducible rfl))
        (try simp only [Act.put, List.getElem_toArray, List.getElem_cons_zero, List.getElem_cons_succ, List.setIfInBounds_toArray, List.set_cons_zero, List.set_cons_succ])
        refine wpT_take 14 (v := ?v46) rfl (by kernel_rfl) (by kernel_rfl) (by kernel_rfl) (by kernel_rfl) (by intro _ _ _ h; first | exact h | (obtain ⟨h, _⟩ := h; cases h)) (by rfl) HSS ?hy46 ?_
        case hy46 => (intro u hu; obtain hu := hu; go_simp; first | done | (with_reducible rfl))
        (try simp only [Act.put, List.getElem_toArray, List.getElem_cons_zero, List.getElem_cons_succ, List.setIfInBounds_toArray, List.set_cons_zero, List.set_cons_succ])
        refine wpT_take 15 (v := ?v47) rfl (by kernel_rfl) (by kernel_rfl) (by kernel_rfl) (by kernel_rfl) (by intro _ _ _ h; first | exact h | (obtain ⟨h, _⟩ := h; cases h)) (by rfl) HSS ?hy47 ?_
        case hy47 => (intro u hu; obtain hu := hu; go_simp; first | done | (with_reducible rfl))
        (try simp only [Act.put, List.getElem_toArray, List.getElem_cons_zero, List.getElem_cons_succ, List.setIfInBounds_toArray, List.set_cons_zero, List.set_cons_succ])
        refine wpT_one 10 rfl (by kernel_rfl) (by rfl) (fun K' hK => ?_)
        go_simp
        (with_reducible refine (bo_len HD0.out).mono ?_)
        rintro e v1 ⟨rfl, hw⟩
        rw [hw]
        clear hw
        clear v1
        refine hK.out _ _ HSS ?_
        clear hK K'
        (try simp only [Act.put, List.getElem_toArray, List.getElem_cons_zero, List.getElem_cons_succ, List.setIfInBounds_toArray, List.set_cons_zero, List.set_cons_succ])
        have q3 : ((N.length : Int) != (N.length : Int)) = false := by simp
        refine wpT_done (by kernel_rfl) ?_
        refine wpAny_take (i := 16) (v := ?w50) rfl (by kernel_rfl) (by kernel_rfl) (by kernel_rfl) (by intro _ _ _ h; first | exact h | (obtain ⟨h, _⟩ := h; cases h)) (Or.inl ⟨by rfl, ?hw50⟩) ?_
        case hw50 => (intro w; go_simp; first | done | (with_reducible rfl))
        (try simp only [Act.put, List.getElem_toArray, List.getElem_cons_zero, List.getElem_cons_succ, List.setIfInBounds_toArray, List.set_cons_zero, List.set_cons_succ])
        refine wpAny_take (i := 17) (v := ?w51) rfl (by kernel_rfl) (by kernel_rfl) (by kernel_rfl) (by intro _ _ _ h; first | exact h | (obtain ⟨h, _⟩ := h; cases h)) (Or.inl ⟨by rfl, ?hw51⟩) ?_
        case hw51 => (intro w; go_simp; first | done | (with_reducible rfl))
        (try simp only [Act.put, List.getElem_toArray, List.getElem_cons_zero, List.getElem_cons_succ, List.setIfInBounds_toArray, List.set_cons_zero, List.set_cons_succ])
        refine wpAny_done (by kernel_rfl) ?_ _
        have HF : Hid (InvP w0 x y (k + 1) z0) := ⟨N, HN.out, HD0.out.fewer (fun _ h => h.elim)⟩
        clear HSS HD0
        go_wp2
        go_roundg (L.length - (k + 1))
        case measure => omega
        case rel => exact ⟨k + 1, by go_num, by omega, by omega, HF⟩
    · have hx := hid hinv.out.choose_spec.2.xt
      go_wp2
      go_returns
      exact ⟨rfl, hE0.out.trans hx.out⟩

set_option linter.unusedVariables false in
set_option maxRecDepth 100000 in
theorem lifted (os : Os) (started : os.Started) (H : Type) (enc : TypeId × Value → H) :
    ReturnsInHanded {} Try.checked os 3 .any (Rows.timerPlaysSpec.pre6 enc Try.prog Try.f3 Rows.timerPlaysRow.domain false) (Rows.timerPlaysSpec.post enc Try.prog Try.f3 false true false false) := by
  refine returnsInHanded_of_change (C := Try.checked) Own.own started (by kernel_rfl) Try.func3
    (ChangeSpec.witness6 (enc := enc) (C := Try.checked) false ⟨#[], #[.slice none 0 0], []⟩ 8 (by kernel_rfl) (by kernel_rfl) (by kernel_rfl) (by kernel_rfl)) ?_
  intro W base args ds gs before hval0 hW hcnd _
  have hval : ∀ (j : Nat) t v, Try.f3.params[j]? = some t → args[j]? = some v → Value.okWide Try.prog W .any base t v := hval0
  have hW' := hW
  obtain ⟨p, q, hA0, hV, rfl, hfz, hnd⟩ := hW
  have hA : DataW.TrodAll enc Try.prog W 0 (fun _ => true) true Try.f3.params.toList args.toList ds p := hA0
  rw [Try.params3] at hA hval
  obtain ⟨v0, vs0, d0, ds0, p0, q0, hargs, rfl, rfl, h0, r0⟩ := trodAll_cons hA
  obtain ⟨rfl, rfl, rfl⟩ := trodAll_nil r0
  obtain rfl : args = #[v0] := by cases args; simp_all
  obtain ⟨rfl, rfl⟩ := trodVars_none hV
  have k0 := h0
  have lt0 : ∀ x ∈ p0, x.block < W.heap.size := by obtain ⟨m, hm⟩ := k0; exact DataW.trod_lt m _ _ _ hm
  obtain ⟨a0, len0, cap0, rfl⟩ := okWide_slice Try.underlying22 (hval 0 22 v0 rfl rfl)
  obtain ⟨l, hl⟩ := Own.open_stps h0
  clear hA0 hval0
  refine (walk _ l W hl).mono fun e W' ⟨he, hx⟩ => ?_
  subst he
  exact ⟨_, rfl, _, _, _, [], _, [], hW', trodAll_mk1 (shut_bool Try.underlying4 _), (trodAll_cons_mk (Below.trod Own.laidOut (by kernel_rfl) (of_decide_eq_true (by kernel_rfl)) k0 hx.below lt0) trodAll_mk0), rfl, hx.below.frame _, fun h => by cases h⟩

theorem proved : Rows.TimerPlaysSaid :=
  OpenClaim.holds_of_wide 3 Try.f3 rfl rfl rfl rfl rfl rfl rfl ⟨rfl, rfl, rfl, rfl, rfl⟩ rfl rfl rfl rfl rfl (by kernel_rfl) Try.func3 (by kernel_rfl)
    (of_decide_eq_true (by kernel_rfl)) (by unfold Func.isWrapper; first | (rw [if_pos (by decide +kernel)]; kernel_rfl) | (rw [if_neg (by decide +kernel)]; exact ⟨rfl, rfl⟩))
    (fun os started H enc _ => lifted os started H enc)

end timerPlays
end Go.Proofs.Ytlpklkkjidaecaa
