/- ObjectPlays: every row of waits, signals, drops: who goes on, who is woken, each error, all counts and rows, behind each: as the document's objects: the law answers true. The variable of the type of errors is as it is laid. -/
import Derived.Test.YtoimkocjfijlkaaDoorRoS
import Derived.Test.YtoimkocjfijlkaaDoorAs
import Derived.Test.YtoimkocjfijlkaaDoorOwn9
import Derived.IntWalk
import Derived.WalkSpells
import Derived.WalkLawsBesides
import Derived.Deep.LoopGhost
import Derived.Deep.CutBlock
import Derived.Deep.DeepCutAuto
import Derived.Test.YtoimkocjfijlkaaDoorTie
import Derived.Test.YtoimkocjfijlkaaDoorCards
import Derived.SevenTiedAt
import Derived.ChangeMaps5
import Derived.ChangeSame
import Derived.ChangeVars
import Derived.JoinedOf
import Derived.RowKitTokens
import Derived.LaidLaws
import Derived.LaidHandle
import Derived.Stop.Joined
import Derived.SizedLaws
namespace Go.Proofs.YtoimkocjfijlkaaDoor
open Go.ChangeShapes Go.WideShapes Go.ChangeAt Go.RowKit Go.Joins Go.Deep
set_option linter.unusedSimpArgs false
set_option linter.unusedVariables false

namespace objectPlays
open Ob Ro
def stO (sw si sn : Int) : Obj := .cells #[.int .i64 sw, .int .i64 si, .int .i64 sn] 33 (0, 0)
def InvP (w0 : World) (x y k : Nat) (wr : World) : Prop := ∃ c W, (flat W).length ≤ k ∧ Bo w0 x y c W c W (fun _ => False) wr
def SF (S : Nat) (si sn : Int) (u : World) : Prop := u.cell? ⟨S, 1, none⟩ = some (.int .i64 si) ∧ u.cell? ⟨S, 2, none⟩ = some (.int .i64 sn)
def At (S : Nat) (sw si sn : Int) (u : World) : Prop := u.heap[S]? = some (stO sw si sn)
section
variable {w0 w w' : World} {x y S : Nat} {sw si sn : Int} {c : Nat → Int} {W : Nat → List Int}
theorem sf (h : At S sw si sn w) : SF S si sn w := by
  unfold At stO at h
  exact ⟨by simp [World.cell?, h], by simp [World.cell?, h]⟩
theorem sf0 (h : At S sw si sn w) : w.cell? ⟨S, 0, none⟩ = some (.int .i64 sw) := by
  unfold At stO at h
  simp [World.cell?, h]
theorem kept (k : SameF (· = S) w w') (h : At S sw si sn w) : At S sw si sn w' := by
  unfold At at *
  rw [k S rfl]; exact h
theorem upd_len {o : Nat} (ho : o < 4) {l : List Int} : (flat (upd W o l)).length + (W o).length = (flat W).length + l.length := by
  rcases four ho with rfl | rfl | rfl | rfl <;> simp [flat, upd] <;> omega
theorem waitR_len (id o : Int) : (flat (waitR id o c W).W).length ≤ (flat W).length + 1 := by
  unfold waitR
  split
  · exact Nat.le_add_right _ _
  split
  · exact Nat.le_add_right _ _
  split
  · exact Nat.le_add_right _ _
  · rename_i h1 _ _
    have := upd_len (W := W) (o := o.toNat) (by omega) (l := W o.toNat ++ [id])
    simp only [List.length_append, List.length_singleton] at *
    show (flat (upd W o.toNat (W o.toNat ++ [id]))).length ≤ _
    omega
theorem sigR_len (o : Int) : (flat (sigR o c W).W).length ≤ (flat W).length + 1 := by
  unfold sigR
  split
  · exact Nat.le_add_right _ _
  rename_i h1
  cases hw : W o.toNat with
  | nil => exact Nat.le_add_right _ _
  | cons q l =>
    have := upd_len (W := W) (o := o.toNat) (by omega) (l := l)
    rw [hw] at this
    simp only [List.length_cons] at this
    show (flat (upd W o.toNat l)).length ≤ _
    omega
theorem others_len (id : Int) : (flat (others id W)).length ≤ (flat W).length := by
  have : ∀ i, (others id W i).length ≤ (W i).length := fun i => List.length_filter_le _ _
  have h0 := this 0
  have h1 := this 1
  have h2 := this 2
  have h3 := this 3
  unfold flat
  simp only [List.length_append]
  omega
theorem rows_len {k : Nat} (h : (flat W).length ≤ k) : ∀ j, j < 4 → (W j).length ≤ k := fun j hj => Nat.le_trans (flat_len hj) h
theorem tAny_of {W : World} (hg : W.cell? ⟨0, 0, none⟩ = some As.tAny) (h0 : Ext W w0) (h1 : Ext w0 w) : w.cell? ⟨0, 0, none⟩ = some As.tAny := h1.cell (h0.cell hg)
theorem code_any (e : Nat) (w : World) (hg : w.cell? ⟨0, 0, none⟩ = some As.tAny) : Calls Tryd.prog 8 #[errV e] w (Yields w (.int .i64 e)) := by
  by_cases he : e = 0
  · subst he
    exact As.code9_nil w
  · rw [errV_pos he]; exact As.code9_errno e w hg
end

set_option maxRecDepth 100000 in
set_option maxHeartbeats 40000000 in
theorem walk (v : Value) (L : List Stp) (w : World) (hL : Stps w v L) (hg : w.cell? ⟨0, 0, none⟩ = some As.tAny) :
    Calls Tryd.prog 3 #[v] w (Yields w (.bool true)) := by
  obtain ⟨p, cap, rfl, hcap, hmax⟩ := hL.shape
  unfold maxLen at hmax
  have HL := hid hL
  have HG := hid hg
  clear hL hg
  go_enter Tryd.func3, Tryd.ntmps3
  go_wp2_with fail
  refine (known_any _).yields ?_
  intro p0
  have hE0 := hid (ext_more w p0)
  generalize more w p0 = w0 at *
  by_cases hz : 80 < L.length
  · have i1 : (80 : Int) < (L.length : Int) := by omega
    go_wp2
    go_returns
    exact ⟨rfl, hE0.out⟩
  have i1 : (L.length : Int) ≤ 80 := by omega
  have HZ := hid hz
  clear hz
  go_wp2_with fail
  (with_reducible refine (st_new (Ext.refl w0)).mono ?_)
  rintro e w1 ⟨rfl, A1, s1, -, -⟩
  have SP : Hid (InvP w0 w0.heap.size w1.heap.size 0 (w1.alloc (.cells #[.int .i64 0, .int .i64 0, .int .i64 0, .int .i64 0, .slice none 0 0, .slice none 0 0, .slice none 0 0, .slice none 0 0] 31 (0, 0)))) := ⟨_, _, by simp [flat], bo_start s1⟩
  clear s1
  generalize w0.heap.size = x at *
  generalize hy : w1.heap.size = y at *
  go_wp2_with fail
  go_loopg [5] L.length (fun gg v5 wr => ∃ k : Nat, v5 = .int .i64 k ∧ k ≤ L.length ∧ L.length - k ≤ gg ∧ Hid (InvP w0 x y k wr))
  case atStart => exact ⟨0, rfl, by omega, by omega, SP⟩
  case round =>
    obtain ⟨k, rfl, hk, hgg, hinv⟩ := hrel
    clear SP
    by_cases hlt : k < L.length
    · have j1 : (k : Int) < (L.length : Int) := by omega
      obtain ⟨g, off, rfl, c0, c1, c2, wi, -, -⟩ := HL.out.at k hlt
      obtain ⟨c, W, hlen, hbo⟩ := hinv.out
      have hx := hE0.out.trans hbo.xt
      have d0 := hx.cell c0
      have d1 := hx.cell c1
      have d2 := hx.cell c2
      have HBO := hid hbo
      have HLEN : Hid ((flat W).length ≤ k ∧ k < 80) := ⟨hlen, by have := HZ.out; omega⟩
      clear c0 c1 c2 hx hinv hbo hlen
      generalize L[k] = s at *
      obtain ⟨sw, si, sn⟩ := s
      simp only at d0 d1 d2 wi
      have HWF := hid wi
      clear wi
      go_upto_block 2 with fail
      have S2 := hid ((HBO.out.alloc (stO sw si sn)).fewer (G := (· = wr.heap.size)) fun _ h => .inl h)
      have SB : Hid (At wr.heap.size sw si sn (wr.alloc (stO sw si sn))) := heap_alloc_new wr _
      simp only [stO] at S2 SB
      clear HBO d0 d1 d2
      generalize wr.heap.size = S at *
      generalize wr.alloc (.cells #[.int .i64 sw, .int .i64 si, .int .i64 sn] 33 (0, 0)) = w2 at *
      have S2 : Hid (Bo w0 x y c W c W (· = S) w2) := S2
      have SB : Hid (At S sw si sn w2) := SB
      have e0 := sf0 SB.out
      have e1 := (sf SB.out).1
      have e2 := (sf SB.out).2
      have HROW : Hid (∀ j, j < 4 → (W j).length ≤ 1000000) := fun j hj => by have := rows_len HLEN.out.1 j hj; have := HLEN.out.2; omega
      go_cut [] (fun wx => ∃ (c5 : Nat → Int) (W5 : Nat → List Int), (flat W5).length ≤ k + 1 ∧ Bo w0 x y c5 W5 c5 W5 (· = S) wx)
      case first =>
        by_cases h1 : sw ≤ 2
        · clear hgg
          have hln := waitR_len (c := c) (W := W) si sn
          have CP := hid (bo_pwait S2.out si sn HWF.out (by have := HLEN.out; omega))
          have CQ := hid (fun (w3 : World) (S3 : Hid (Bo w0 x y (waitR si sn c W).c (waitR si sn c W).W c W (· = S) w3)) => bo_qwait S3.out S2.out.cb si sn HROW.out)
          have HLN := hid hln
          clear hln
          generalize waitR si sn c W = R at *
          obtain ⟨on, er, c5, W5⟩ := R
          have CP := hid CP.out
          go_wp2_with fail
          (with_reducible refine CP.out.mono ?_)
          rintro e w3 ⟨rfl, s3, k3⟩
          have S3 : Hid (Bo w0 x y c5 W5 c W (· = S) w3) := s3
          have SB3 := hid (kept k3 SB.out)
          have e1 := (sf SB3.out).1
          have e2 := (sf SB3.out).2
          have CQ3 := hid (CQ.out w3 S3)
          clear s3 k3 S2 SB CP CQ
          go_wp2_with fail
          (with_reducible refine CQ3.out.mono ?_)
          rintro e w4 ⟨rfl, s4, k4⟩
          have S4 : Hid (Bo w0 x y c5 W5 c5 W5 (· = S) w4) := s4
          have CC := hid (code_any er w4 (tAny_of HG.out hE0.out s4.xt))
          clear s4 k4 S3 SB3 CQ3
          have q1 : (on != on) = false := by simp
          have q2 : ((er : Int) != (er : Int)) = false := by simp
          go_wp2_with (go_at_call 8; (with_reducible refine CC.out.yields ?_); intro p9)
          go_meet
          case rel => exact ⟨c5, W5, by have h1 : (flat W5).length ≤ _ := HLN.out; have h2 := HLEN.out.1; omega, (S4.out.ext (ext_more _ _)).1⟩
        by_cases h2 : sw ≤ 5
        · clear hgg
          have hln := sigR_len (c := c) (W := W) sn
          have CP := hid (bo_psignal S2.out sn)
          have CQ := hid (fun (w3 : World) (S3 : Hid (Bo w0 x y (sigR sn c W).c (sigR sn c W).W c W (· = S) w3)) => bo_qsignal S3.out S2.out.cb sn HROW.out)
          have HLN := hid hln
          clear hln
          generalize sigR sn c W = R at *
          obtain ⟨sid, smet, er, c5, W5⟩ := R
          have CP := hid CP.out
          go_wp2_with fail
          (with_reducible refine CP.out.mono ?_)
          rintro e w3 ⟨rfl, s3, k3⟩
          have S3 : Hid (Bo w0 x y c5 W5 c W (· = S) w3) := s3
          have SB3 := hid (kept k3 SB.out)
          have e1 := (sf SB3.out).1
          have e2 := (sf SB3.out).2
          have CQ3 := hid (CQ.out w3 S3)
          clear s3 k3 S2 SB CP CQ
          go_wp2_with fail
          (with_reducible refine CQ3.out.mono ?_)
          rintro e w4 ⟨rfl, s4, k4⟩
          have S4 : Hid (Bo w0 x y c5 W5 c5 W5 (· = S) w4) := s4
          have CC := hid (code_any er w4 (tAny_of HG.out hE0.out s4.xt))
          clear s4 k4 S3 SB3 CQ3
          have q1 : (sid != sid) = false := by simp
          have q3 : (smet != smet) = false := by simp
          have q2 : ((er : Int) != (er : Int)) = false := by simp
          go_wp2_with (go_at_call 8; (with_reducible refine CC.out.yields ?_); intro p9)
          go_meet
          case rel => exact ⟨c5, W5, by have h1 : (flat W5).length ≤ _ := HLN.out; have h2 := HLEN.out.1; omega, (S4.out.ext (ext_more _ _)).1⟩
        · clear hgg
          go_upto_region 10 with fail
          refine wp_region_T 8 1 (SF S si sn) (by kernel_rfl) (by kernel_rfl) ?_
          obtain ⟨b0, k0⟩ := Bo.ext S2.out (Ext.drew (Ext.refl w2))
          have HD0 := hid b0
          have HK0 := hid (kept k0 SB.out)
          clear S2 SB b0 k0
          generalize w2.drew = z0 at *
          have HSS := sf HK0.out
          refine wpT_take 0 (v := ?v1) rfl (by kernel_rfl) (by kernel_rfl) (by kernel_rfl) (by kernel_rfl) (by intro _ _ _ h; first | exact h | (obtain ⟨h, _⟩ := h; cases h)) (by rfl) HSS ?hy1 ?_
          case hy1 => (intro u hu; obtain ⟨hs1, hs2⟩ := hu; go_simp; first | done | (with_reducible rfl))
          (try simp only [Act.put, List.getElem_toArray, List.getElem_cons_zero, List.getElem_cons_succ, List.setIfInBounds_toArray, List.set_cons_zero, List.set_cons_succ])
          refine wpT_take 1 (v := ?v2) rfl (by kernel_rfl) (by kernel_rfl) (by kernel_rfl) (by kernel_rfl) (by intro _ _ _ h; first | exact h | (obtain ⟨h, _⟩ := h; cases h)) (by rfl) HSS ?hy2 ?_
          case hy2 => (intro u hu; obtain ⟨hs1, hs2⟩ := hu; go_simp; first | done | (with_reducible rfl))
          (try simp only [Act.put, List.getElem_toArray, List.getElem_cons_zero, List.getElem_cons_succ, List.setIfInBounds_toArray, List.set_cons_zero, List.set_cons_succ])
          refine wpT_take 2 (v := ?v3) rfl (by kernel_rfl) (by kernel_rfl) (by kernel_rfl) (by kernel_rfl) (by intro _ _ _ h; first | exact h | (obtain ⟨h, _⟩ := h; cases h)) (by rfl) HSS ?hy3 ?_
          case hy3 => (intro u hu; obtain ⟨hs1, hs2⟩ := hu; go_simp; first | done | (with_reducible rfl))
          (try simp only [Act.put, List.getElem_toArray, List.getElem_cons_zero, List.getElem_cons_succ, List.setIfInBounds_toArray, List.set_cons_zero, List.set_cons_succ])
          refine wpT_take 4 (v := ?v4) rfl (by kernel_rfl) (by kernel_rfl) (by kernel_rfl) (by kernel_rfl) (by intro _ _ _ h; first | exact h | (obtain ⟨h, _⟩ := h; cases h)) (by rfl) HSS ?hy4 ?_
          case hy4 => (intro u hu; obtain ⟨hs1, hs2⟩ := hu; go_simp; first | done | (with_reducible rfl))
          (try simp only [Act.put, List.getElem_toArray, List.getElem_cons_zero, List.getElem_cons_succ, List.setIfInBounds_toArray, List.set_cons_zero, List.set_cons_succ])
          refine wpT_take 5 (v := ?v5) rfl (by kernel_rfl) (by kernel_rfl) (by kernel_rfl) (by kernel_rfl) (by intro _ _ _ h; first | exact h | (obtain ⟨h, _⟩ := h; cases h)) (by rfl) HSS ?hy5 ?_
          case hy5 => (intro u hu; obtain ⟨hs1, hs2⟩ := hu; go_simp; first | done | (with_reducible rfl))
          (try simp only [Act.put, List.getElem_toArray, List.getElem_cons_zero, List.getElem_cons_succ, List.setIfInBounds_toArray, List.set_cons_zero, List.set_cons_succ])
          refine wpT_take 6 (v := ?v6) rfl (by kernel_rfl) (by kernel_rfl) (by kernel_rfl) (by kernel_rfl) (by intro _ _ _ h; first | exact h | (obtain ⟨h, _⟩ := h; cases h)) (by rfl) HSS ?hy6 ?_
          case hy6 => (intro u hu; obtain ⟨hs1, hs2⟩ := hu; go_simp; first | done | (with_reducible rfl))
          (try simp only [Act.put, List.getElem_toArray, List.getElem_cons_zero, List.getElem_cons_succ, List.setIfInBounds_toArray, List.set_cons_zero, List.set_cons_succ])
          refine wpT_one 3 rfl (by kernel_rfl) (by rfl) (fun K' hK => ?_)
          go_simp
          refine (bo_pdrop HD0.out si HWF.out).mono ?_
          rintro e v1 ⟨rfl, hd1, hk1⟩
          have HD1 := hid hd1
          have HK1 := hid (kept hk1 HK0.out)
          clear hd1 hk1 HD0 HK0
          refine hK.out _ _ (sf HK1.out) ?_
          clear hK K' HSS
          have HSS := sf HK1.out
          (try simp only [Act.put, List.getElem_toArray, List.getElem_cons_zero, List.getElem_cons_succ, List.setIfInBounds_toArray, List.set_cons_zero, List.set_cons_succ])
          refine wpT_one 7 rfl (by kernel_rfl) (by rfl) (fun K' hK => ?_)
          go_simp
          refine (bo_qdrop HD1.out si HROW.out).mono ?_
          rintro e v2 ⟨rfl, hd2, hk2⟩
          have HD2 := hid hd2
          have HK2 := hid (kept hk2 HK1.out)
          clear hd2 hk2 HD1 HK1
          refine hK.out _ _ (sf HK2.out) ?_
          clear hK K' HSS
          have HSS := sf HK2.out
          (try simp only [Act.put, List.getElem_toArray, List.getElem_cons_zero, List.getElem_cons_succ, List.setIfInBounds_toArray, List.set_cons_zero, List.set_cons_succ])
          have q6 : (waits si W != waits si W) = false := by simp
          generalize waits si W = bb at *
          refine wpT_done (by kernel_rfl) ?_
          refine wpAny_take (i := 8) (v := ?w26) rfl (by kernel_rfl) (by kernel_rfl) (by kernel_rfl) (by intro _ _ _ h; first | exact h | (obtain ⟨h, _⟩ := h; cases h)) (Or.inl ⟨by rfl, ?hw26⟩) ?_
          case hw26 => (intro w; go_simp; first | done | (with_reducible rfl))
          (try simp only [Act.put, List.getElem_toArray, List.getElem_cons_zero, List.getElem_cons_succ, List.setIfInBounds_toArray, List.set_cons_zero, List.set_cons_succ])
          refine wpAny_done (by kernel_rfl) ?_ _
          go_wp2
          go_meet
          case rel => exact ⟨_, _, by have h1 := others_len (W := W) si; have h2 := HLEN.out.1; omega, HD2.out⟩
      case rest =>
        obtain ⟨c5, W5, hl5, hbo⟩ := hcut
        have S5 := hid (hbo.fewer (G := fun _ => False) fun _ h => h.elim)
        have HL5 := hid hl5
        have HR5 : Hid (∀ j, j < 4 → (W5 j).length ≤ 1000000) := fun j hj => by have := rows_len HL5.out j hj; have := HLEN.out.2; omega
        clear hl5 hbo e0 e1 e2 S2 SB HROW
        go_wp2_with fail
        go_loopg [17] 6 (fun gg v5 wz => ∃ t : Int, v5 = .int .i64 t ∧ -1 ≤ t ∧ t ≤ 5 ∧ (5 - t).toNat ≤ gg ∧ Hid (Bo w0 x y c5 W5 c5 W5 (fun _ => False) wz))
        case atStart => exact ⟨-1, rfl, by omega, by omega, by omega, S5⟩
        case round =>
          obtain ⟨t, rfl, ht, ht', hgt, hbl⟩ := hrel
          clear S5
          by_cases h5 : t ≤ 4
          · by_cases hin : 0 ≤ t ∧ t < 4
            · obtain ⟨i, rfl⟩ : ∃ i : Nat, t = i := ⟨t.toNat, by omega⟩
              have hi : i < 4 := by omega
              have HI := hid hi
              have j2 : decide ((i : Int) < 0) = false := by rw [decide_eq_false_iff_not]; omega
              have j3 : decide ((4 : Int) ≤ (i : Int)) = false := by rw [decide_eq_false_iff_not]; omega
              have j4 : (i : Int) < 4 := by omega
              have j5 : (i : Int) ≤ 4 := by omega
              clear hin h5 ht ht'
              go_upto_region 28 with fail
              have HD0 := hid ((hbl.out.ext (Ext.drew (Ext.refl _))).1)
              obtain ⟨p5, cap5, k0, k1, hint⟩ := HD0.out.cell hi
              have HIN := hid hint
              refine wp_region_T 22 1 (fun u => u.cell? ⟨y, i, none⟩ = some (.int .i64 (c5 i)) ∧ u.cell? ⟨y, 4 + i, none⟩ = some (.slice p5 (W5 i).length cap5)) (by kernel_rfl) (by kernel_rfl) ?_
              clear hbl hint hi
              generalize wr.drew = z0 at *
              have HSS : z0.cell? ⟨y, i, none⟩ = some (.int .i64 (c5 i)) ∧ z0.cell? ⟨y, 4 + i, none⟩ = some (.slice p5 (W5 i).length cap5) := ⟨k0, k1⟩
              clear k0 k1
              have q1 : (c5 i != c5 i) = false := by simp
              refine wpT_take 0 (v := ?v7) rfl (by kernel_rfl) (by kernel_rfl) (by kernel_rfl) (by kernel_rfl) (by intro _ _ _ h; first | exact h | (obtain ⟨h, _⟩ := h; cases h)) (by rfl) HSS ?hy7 ?_
              case hy7 => (intro u hu; obtain ⟨h1, h2⟩ := hu; go_simp; first | done | (with_reducible rfl))
              (try simp only [Act.put, List.getElem_toArray, List.getElem_cons_zero, List.setIfInBounds_toArray, List.set_cons_zero, List.set_cons_succ])
              refine wpT_take 1 (v := ?v8) rfl (by kernel_rfl) (by kernel_rfl) (by kernel_rfl) (by kernel_rfl) (by intro _ _ _ h; first | exact h | (obtain ⟨h, _⟩ := h; cases h)) (by rfl) HSS ?hy8 ?_
              case hy8 => (intro u hu; obtain ⟨h1, h2⟩ := hu; go_simp; first | done | (with_reducible rfl))
              (try simp only [Act.put, List.getElem_toArray, List.getElem_cons_zero, List.getElem_cons_succ, List.setIfInBounds_toArray, List.set_cons_zero, List.set_cons_succ])
              refine wpT_take 3 (v := ?v9) rfl (by kernel_rfl) (by kernel_rfl) (by kernel_rfl) (by kernel_rfl) (by intro _ _ _ h; first | exact h | (obtain ⟨h, _⟩ := h; cases h)) (by rfl) HSS ?hy9 ?_
              case hy9 => (intro u hu; obtain ⟨h1, h2⟩ := hu; go_simp; first | done | (with_reducible rfl))
              (try simp only [Act.put, List.getElem_toArray, List.getElem_cons_zero, List.getElem_cons_succ, List.setIfInBounds_toArray, List.set_cons_zero, List.set_cons_succ])
              refine wpT_take 4 (v := ?v10) rfl (by kernel_rfl) (by kernel_rfl) (by kernel_rfl) (by kernel_rfl) (by intro _ _ _ h; first | exact h | (obtain ⟨h, _⟩ := h; cases h)) (by rfl) HSS ?hy10 ?_
              case hy10 => (intro u hu; obtain ⟨h1, h2⟩ := hu; go_simp; first | done | (with_reducible rfl))
              (try simp only [Act.put, List.getElem_toArray, List.getElem_cons_zero, List.getElem_cons_succ, List.setIfInBounds_toArray, List.set_cons_zero, List.set_cons_succ])
              refine wpT_take 5 (v := ?v11) rfl (by kernel_rfl) (by kernel_rfl) (by kernel_rfl) (by kernel_rfl) (by intro _ _ _ h; first | exact h | (obtain ⟨h, _⟩ := h; cases h)) (by rfl) HSS ?hy11 ?_
              case hy11 => (intro u hu; obtain ⟨h1, h2⟩ := hu; go_simp; first | done | (with_reducible rfl))
              (try simp only [Act.put, List.getElem_toArray, List.getElem_cons_zero, List.getElem_cons_succ, List.setIfInBounds_toArray, List.set_cons_zero, List.set_cons_succ])
              refine wpT_take 6 (v := ?v12) rfl (by kernel_rfl) (by kernel_rfl) (by kernel_rfl) (by kernel_rfl) (by intro _ _ _ h; first | exact h | (obtain ⟨h, _⟩ := h; cases h)) (by rfl) HSS ?hy12 ?_
              case hy12 => (intro u hu; obtain ⟨h1, h2⟩ := hu; go_simp; first | done | (with_reducible rfl))
              (try simp only [Act.put, List.getElem_toArray, List.getElem_cons_zero, List.getElem_cons_succ, List.setIfInBounds_toArray, List.set_cons_zero, List.set_cons_succ])
              refine wpT_take 7 (v := ?v13) rfl (by kernel_rfl) (by kernel_rfl) (by kernel_rfl) (by kernel_rfl) (by intro _ _ _ h; first | exact h | (obtain ⟨h, _⟩ := h; cases h)) (by rfl) HSS ?hy13 ?_
              case hy13 => (intro u hu; obtain ⟨h1, h2⟩ := hu; go_simp; first | done | (with_reducible rfl))
              (try simp only [Act.put, List.getElem_toArray, List.getElem_cons_zero, List.getElem_cons_succ, List.setIfInBounds_toArray, List.set_cons_zero, List.set_cons_succ])
              refine wpT_take 8 (v := ?v14) rfl (by kernel_rfl) (by kernel_rfl) (by kernel_rfl) (by kernel_rfl) (by intro _ _ _ h; first | exact h | (obtain ⟨h, _⟩ := h; cases h)) (by rfl) HSS ?hy14 ?_
              case hy14 => (intro u hu; obtain ⟨h1, h2⟩ := hu; go_simp; first | done | (with_reducible rfl))
              (try simp only [Act.put, List.getElem_toArray, List.getElem_cons_zero, List.getElem_cons_succ, List.setIfInBounds_toArray, List.set_cons_zero, List.set_cons_succ])
              refine wpT_one 2 rfl (by kernel_rfl) (by rfl) (fun K' hK => ?_)
              go_simp
              refine (bo_count HD0.out HI.out).mono ?_
              rintro e v1 ⟨rfl, hw⟩
              rw [hw]
              clear hw
              clear v1
              refine hK.out _ _ HSS ?_
              clear hK K'
              (try simp only [Act.put, List.getElem_toArray, List.getElem_cons_zero, List.getElem_cons_succ, List.setIfInBounds_toArray, List.set_cons_zero, List.set_cons_succ])
              refine wpT_take 9 (v := ?v15) rfl (by kernel_rfl) (by kernel_rfl) (by kernel_rfl) (by kernel_rfl) (by intro _ _ _ h; first | exact h | (obtain ⟨h, _⟩ := h; cases h)) (by rfl) HSS ?hy15 ?_
              case hy15 => (intro u hu; obtain ⟨h1, h2⟩ := hu; go_simp; first | done | (with_reducible rfl))
              (try simp only [Act.put, List.getElem_toArray, List.getElem_cons_zero, List.getElem_cons_succ, List.setIfInBounds_toArray, List.set_cons_zero, List.set_cons_succ])
              refine wpT_take 10 (v := ?v16) rfl (by kernel_rfl) (by kernel_rfl) (by kernel_rfl) (by kernel_rfl) (by intro _ _ _ h; first | exact h | (obtain ⟨h, _⟩ := h; cases h)) (by rfl) HSS ?hy16 ?_
              case hy16 => (intro u hu; obtain ⟨h1, h2⟩ := hu; go_simp; first | done | (with_reducible rfl))
              (try simp only [Act.put, List.getElem_toArray, List.getElem_cons_zero, List.getElem_cons_succ, List.setIfInBounds_toArray, List.set_cons_zero, List.set_cons_succ])
              refine wpT_take 11 (v := ?v17) rfl (by kernel_rfl) (by kernel_rfl) (by kernel_rfl) (by kernel_rfl) (by intro _ _ _ h; first | exact h | (obtain ⟨h, _⟩ := h; cases h)) (by rfl) HSS ?hy17 ?_
              case hy17 => (intro u hu; obtain ⟨h1, h2⟩ := hu; go_simp; first | done | (with_reducible rfl))
              (try simp only [Act.put, List.getElem_toArray, List.getElem_cons_zero, List.getElem_cons_succ, List.setIfInBounds_toArray, List.set_cons_zero, List.set_cons_succ])
              refine wpT_take 12 (v := ?v18) rfl (by kernel_rfl) (by kernel_rfl) (by kernel_rfl) (by kernel_rfl) (by intro _ _ _ h; first | exact h | (obtain ⟨h, _⟩ := h; cases h)) (by rfl) HSS ?hy18 ?_
              case hy18 => (intro u hu; obtain ⟨h1, h2⟩ := hu; go_simp; first | done | (with_reducible rfl))
              (try simp only [Act.put, List.getElem_toArray, List.getElem_cons_zero, List.getElem_cons_succ, List.setIfInBounds_toArray, List.set_cons_zero, List.set_cons_succ])
              refine wpT_take 14 (v := ?v19) rfl (by kernel_rfl) (by kernel_rfl) (by kernel_rfl) (by kernel_rfl) (by intro _ _ _ h; first | exact h | (obtain ⟨h, _⟩ := h; cases h)) (by rfl) HSS ?hy19 ?_
              case hy19 => (intro u hu; obtain ⟨h1, h2⟩ := hu; go_simp; first | done | (with_reducible rfl))
              (try simp only [Act.put, List.getElem_toArray, List.getElem_cons_zero, List.getElem_cons_succ, List.setIfInBounds_toArray, List.set_cons_zero, List.set_cons_succ])
              refine wpT_take 15 (v := ?v20) rfl (by kernel_rfl) (by kernel_rfl) (by kernel_rfl) (by kernel_rfl) (by intro _ _ _ h; first | exact h | (obtain ⟨h, _⟩ := h; cases h)) (by rfl) HSS ?hy20 ?_
              case hy20 => (intro u hu; obtain ⟨h1, h2⟩ := hu; go_simp; first | done | (with_reducible rfl))
              (try simp only [Act.put, List.getElem_toArray, List.getElem_cons_zero, List.getElem_cons_succ, List.setIfInBounds_toArray, List.set_cons_zero, List.set_cons_succ])
              refine wpT_take 16 (v := ?v21) rfl (by kernel_rfl) (by kernel_rfl) (by kernel_rfl) (by kernel_rfl) (by intro _ _ _ h; first | exact h | (obtain ⟨h, _⟩ := h; cases h)) (by rfl) HSS ?hy21 ?_
              case hy21 => (intro u hu; obtain ⟨h1, h2⟩ := hu; go_simp; first | done | (with_reducible rfl))
              (try simp only [Act.put, List.getElem_toArray, List.getElem_cons_zero, List.getElem_cons_succ, List.setIfInBounds_toArray, List.set_cons_zero, List.set_cons_succ])
              refine wpT_take 17 (v := ?v22) rfl (by kernel_rfl) (by kernel_rfl) (by kernel_rfl) (by kernel_rfl) (by intro _ _ _ h; first | exact h | (obtain ⟨h, _⟩ := h; cases h)) (by rfl) HSS ?hy22 ?_
              case hy22 => (intro u hu; obtain ⟨h1, h2⟩ := hu; go_simp; first | done | (with_reducible rfl))
              (try simp only [Act.put, List.getElem_toArray, List.getElem_cons_zero, List.getElem_cons_succ, List.setIfInBounds_toArray, List.set_cons_zero, List.set_cons_succ])
              refine wpT_take 18 (v := ?v23) rfl (by kernel_rfl) (by kernel_rfl) (by kernel_rfl) (by kernel_rfl) (by intro _ _ _ h; first | exact h | (obtain ⟨h, _⟩ := h; cases h)) (by rfl) HSS ?hy23 ?_
              case hy23 => (intro u hu; obtain ⟨h1, h2⟩ := hu; go_simp; first | done | (with_reducible rfl))
              (try simp only [Act.put, List.getElem_toArray, List.getElem_cons_zero, List.getElem_cons_succ, List.setIfInBounds_toArray, List.set_cons_zero, List.set_cons_succ])
              refine wpT_take 19 (v := ?v24) rfl (by kernel_rfl) (by kernel_rfl) (by kernel_rfl) (by kernel_rfl) (by intro _ _ _ h; first | exact h | (obtain ⟨h, _⟩ := h; cases h)) (by rfl) HSS ?hy24 ?_
              case hy24 => (intro u hu; obtain ⟨h1, h2⟩ := hu; go_simp; first | done | (with_reducible rfl))
              (try simp only [Act.put, List.getElem_toArray, List.getElem_cons_zero, List.getElem_cons_succ, List.setIfInBounds_toArray, List.set_cons_zero, List.set_cons_succ])
              refine wpT_one 13 rfl (by kernel_rfl) (by rfl) (fun K' hK => ?_)
              go_simp
              refine (bo_row HD0.out HI.out (HR5.out i HI.out)).mono ?_
              rintro e v2 ⟨vd, rfl, x2, i2⟩
              have HD2 := hid (HD0.out.ext x2).1
              have HI2 := hid i2
              have HIN2 := hid (HIN.out.ext x2)
              have hss : v2.cell? ⟨y, i, none⟩ = some (.int .i64 (c5 i)) ∧ v2.cell? ⟨y, 4 + i, none⟩ = some (.slice p5 (W5 i).length cap5) := ⟨x2.cell HSS.1, x2.cell HSS.2⟩
              clear HSS x2 i2 HD0 HIN
              have HSS := hss
              clear hss
              refine hK.out _ _ HSS ?_
              clear hK K'
              (try simp only [Act.put, List.getElem_toArray, List.getElem_cons_zero, List.getElem_cons_succ, List.setIfInBounds_toArray, List.set_cons_zero, List.set_cons_succ])
              refine wpT_one 20 rfl (by kernel_rfl) (by rfl) (fun K' hK => ?_)
              go_simp
              refine (sameI_to HI2.out HIN2.out).mono ?_
              rintro e v3 ⟨rfl, x3⟩
              have HD3 := hid (HD2.out.ext x3).1
              have hss : v3.cell? ⟨y, i, none⟩ = some (.int .i64 (c5 i)) ∧ v3.cell? ⟨y, 4 + i, none⟩ = some (.slice p5 (W5 i).length cap5) := ⟨x3.cell HSS.1, x3.cell HSS.2⟩
              clear HSS x3 HD2 HI2 HIN2
              have HSS := hss
              clear hss
              refine hK.out _ _ HSS ?_
              clear hK K'
              (try simp only [Act.put, List.getElem_toArray, List.getElem_cons_zero, List.getElem_cons_succ, List.setIfInBounds_toArray, List.set_cons_zero, List.set_cons_succ])
              refine wpT_take 21 (v := ?v25) rfl (by kernel_rfl) (by kernel_rfl) (by kernel_rfl) (by kernel_rfl) (by intro _ _ _ h; first | exact h | (obtain ⟨h, _⟩ := h; cases h)) (by rfl) HSS ?hy25 ?_
              case hy25 => (intro u hu; obtain ⟨h1, h2⟩ := hu; go_simp; first | done | (with_reducible rfl))
              (try simp only [Act.put, List.getElem_toArray, List.getElem_cons_zero, List.getElem_cons_succ, List.setIfInBounds_toArray, List.set_cons_zero, List.set_cons_succ])
              refine wpT_done (by kernel_rfl) ?_
              refine wpAny_take (i := 22) (v := ?w27) rfl (by kernel_rfl) (by kernel_rfl) (by kernel_rfl) (by intro _ _ _ h; first | exact h | (obtain ⟨h, _⟩ := h; cases h)) (Or.inl ⟨by rfl, ?hw27⟩) ?_
              case hw27 => (intro w; go_simp; first | done | (with_reducible rfl))
              (try simp only [Act.put, List.getElem_toArray, List.getElem_cons_zero, List.getElem_cons_succ, List.setIfInBounds_toArray, List.set_cons_zero, List.set_cons_succ])
              refine wpAny_done (by kernel_rfl) ?_ _
              clear HSS
              go_wp2
              go_roundg (5 - ((i : Int) + 1)).toNat
              case measure => have := HI.out; omega
              case rel => exact ⟨(i : Int) + 1, by go_num, by omega, by have := HI.out; omega, by omega, HD3⟩
            · have hout : t < 0 ∨ 4 ≤ t := by omega
              have CC := hid (fun w => count_out w (x := x) hout)
              have CR := hid (fun w => row_out w (x := x) hout)
              have B6 := hid hbl.out
              clear hbl hin
              by_cases hn : t < 0
              · have j2 : decide (t < 0) = true := by rw [decide_eq_true_iff]; omega
                go_wp2_with (first | (go_at_call 13; (with_reducible refine (CC.out _).mono ?_); rintro e v1 ⟨rfl, hw⟩; rw [hw]; clear hw; clear v1) | (go_at_call 14; (with_reducible refine (CR.out _).mono ?_); rintro e v1 ⟨rfl, hw⟩; rw [hw]; clear hw; clear v1))
                go_roundg (5 - (t + 1)).toNat
                case measure => omega
                case rel => exact ⟨t + 1, by go_num, by omega, by omega, by omega, B6⟩
              · have j2 : decide (t < 0) = false := by rw [decide_eq_false_iff_not]; omega
                have j3 : decide (4 ≤ t) = true := by rw [decide_eq_true_iff]; omega
                go_wp2_with (first | (go_at_call 13; (with_reducible refine (CC.out _).mono ?_); rintro e v1 ⟨rfl, hw⟩; rw [hw]; clear hw; clear v1) | (go_at_call 14; (with_reducible refine (CR.out _).mono ?_); rintro e v1 ⟨rfl, hw⟩; rw [hw]; clear hw; clear v1))
                go_roundg (5 - (t + 1)).toNat
                case measure => omega
                case rel => exact ⟨t + 1, by go_num, by omega, by omega, by omega, B6⟩
          · have HF : Hid (InvP w0 x y (k + 1) wr) := ⟨c5, W5, HL5.out, hbl.out⟩
            clear hbl
            go_wp2
            go_roundg (L.length - (k + 1))
            case measure => omega
            case rel => exact ⟨k + 1, by go_num, by omega, by omega, HF⟩
    · have hx := hid hinv.out.choose_spec.choose_spec.2.xt
      go_wp2
      go_returns
      exact ⟨rfl, hE0.out.trans hx.out⟩

set_option linter.unusedVariables false in
theorem et : Tryd.prog.globalNamed "errors.errorType" = some 0 := by kernel_rfl
theorem rt : (Tryd.prog.cutTypes.find? (·.1 == "internal/reflectlite.rtype")).map (·.2) = some 82 := by kernel_rfl
theorem oneRow : ((List.range 127).filter fun t => Tryd.prog.rowNamed t [101, 114, 114, 111, 114]) = [35] := by kernel_rfl
theorem tsize : Tryd.prog.types.size = 127 := by kernel_rfl
theorem handle_of_laid {W : World} (h : laidMetH Tryd.prog Rows.objectPlaysRow.laid W) : W.cell? ⟨0, 0, none⟩ = some As.tAny := by
  have h' : laidMet Tryd.prog [] W ∧ handlesMet Tryd.prog Rows.objectPlaysRow.laid W := h
  obtain ⟨name, u, ty, e1, e2, e3, e4, e5⟩ := h'.2 _ (List.mem_singleton.2 rfl)
  have en : name = [101, 114, 114, 111, 114] := (Option.some.inj e1).symm
  subst en
  obtain rfl := Option.some.inj (rt.symm.trans e2)
  have hm : ty ∈ (List.range 127).filter fun t => Tryd.prog.rowNamed t [101, 114, 114, 111, 114] := List.mem_filter.2 ⟨List.mem_range.2 (by rw [← tsize]; exact e3), e4⟩
  rw [oneRow] at hm
  obtain rfl := List.mem_singleton.1 hm
  have hh : typeHandle Tryd.prog 35 = .pointer (some ⟨1, 35, none⟩) := by kernel_rfl
  rw [hh] at e5
  simpa using World.var?_cell et e5 0
/-- A world that meets the condition: the settled one, the variable's cell laid. -/
noncomputable def laidWorld (os : Os) : World :=
  let w0 := World.holding Tryd.prog os ⟨#[], #[], []⟩
  { w0 with heap := w0.heap.modify 0 fun
      | .cells _ t frozen => .cells #[.iface 82 (.agg #[.pointer (some ⟨1, 35, none⟩)])] t frozen
      | o => o }
theorem laidWorld_met (os : Os) (args : Array Value) : laidMetH Tryd.prog Rows.objectPlaysRow.laid ((laidWorld os).forCall (fun _ _ => 0) ⟨#[], args, []⟩).memory :=
  laidMetH_of_parts (laidMet_nil _ _) (by kernel_rfl)
set_option maxRecDepth 100000 in
theorem lifted (os : Os) (started : os.Started) (H : Type) (enc : TypeId × Value → H) :
    ReturnsInHanded {} Tryd.checked os 3 .any (fun w args => (Rows.objectPlaysSpec.pre enc Tryd.prog Tryd.f3 [] false w args ∧ laidMetH Tryd.prog Rows.objectPlaysRow.laid w) ∧ sizedMet enc Tryd.prog Tryd.f3 (OpenSpec.ofChange Rows.objectPlaysSpec) false w args)
      (Rows.objectPlaysSpec.post enc Tryd.prog Tryd.f3 false true false false) := by
  refine returnsInHanded_of_change_and (C := Tryd.checked) (X := fun w _ => laidMetH Tryd.prog Rows.objectPlaysRow.laid w) (fun _ _ _ hh h => h.of_heap hh) Own.own started (by kernel_rfl) Tryd.func3
    (ChangeSpec.witness_at (enc := enc) (C := Tryd.checked) (os := os) (X := fun w _ => laidMetH Tryd.prog Rows.objectPlaysRow.laid w) false (laidWorld os) #[.slice none 0 0] 8 rfl (by kernel_rfl) (by kernel_rfl) (by kernel_rfl) (by kernel_rfl) (by kernel_rfl) (laidWorld_met os _)) ?_
  intro W base args ds gs before hval0 hW _ hsz0 hL _
  have hval : ∀ (j : Nat) t v, Tryd.f3.params[j]? = some t → args[j]? = some v → Value.okWide Tryd.prog W .any base t v := hval0
  have hW' := hW
  obtain ⟨p, q, hA0, hV0, rfl, hfz, hnd⟩ := hW
  have hA : DataW.TrodAll enc Tryd.prog W 0 (fun _ => true) true Tryd.f3.params.toList args.toList ds p := hA0
  have hV : DataW.TrodVars enc Tryd.prog W (fun _ => true) [] gs q := hV0
  rw [Tryd.params3] at hA hval
  obtain ⟨rfl, rfl⟩ := trodVars_none hV
  have hsz : (DataW.weightsEach Tryd.prog [22] ds).all (· ≤ reachBytes) = true := by rw [List.append_nil] at hsz0; exact hsz0
  have hg := handle_of_laid hL
  obtain ⟨v0, vs0, d0, ds0, p0, q0, hargs, rfl, rfl, h0, r0⟩ := trodAll_cons hA
  obtain ⟨rfl, rfl, rfl⟩ := trodAll_nil r0
  obtain rfl : args = #[v0] := by cases args; simp_all
  have k0 := h0
  have lt0 : ∀ x ∈ p0, x.block < W.heap.size := by obtain ⟨m, hm⟩ := k0; exact DataW.trod_lt m _ _ _ hm
  obtain ⟨a0, len0, cap0, rfl⟩ := okWide_slice Tryd.underlying22 (hval 0 22 v0 rfl rfl)
  obtain ⟨l, hl⟩ := open_stps h0
  clear hA0 hval0 hsz0 hV0
  refine (walk _ l W hl hg).mono fun e W' ⟨he, hx⟩ => ?_
  subst he
  exact ⟨_, rfl, _, _, _, [], _, [], hW', trodAll_mk1 (shut_bool Tryd.underlying4 _), (trodAll_cons_mk (Below.trod Own.laidOut (by kernel_rfl) (of_decide_eq_true (by kernel_rfl)) k0 hx.below lt0) trodAll_mk0), rfl, hx.below.frame _, fun h => by cases h⟩

theorem plain : Rows.ObjectPlaysSaid :=
  OpenClaim.holds_of_wide 3 Tryd.f3 rfl rfl rfl rfl rfl rfl rfl ⟨rfl, rfl, rfl, rfl, rfl⟩ rfl rfl rfl rfl rfl (by kernel_rfl) Tryd.func3 (by kernel_rfl)
    (of_decide_eq_true (by kernel_rfl)) (by unfold Func.isWrapper; first | (rw [if_pos (by decide +kernel)]; kernel_rfl) | (rw [if_neg (by decide +kernel)]; exact ⟨rfl, rfl⟩))
    (fun os started H enc _ => lifted os started H enc)

theorem proved : Rows.ObjectPlaysCardSaid :=
  Claim7.holds_tied_plain_at .later [] [.handle] true _ true
    plain (fun _ h => by cases h) (by kernel_rfl) (fun _ h => by cases h) objectPlays_row_tie rfl ⟨rfl, rfl⟩ (by kernel_rfl) rfl
    (fun f fn hf hfn => by
      obtain rfl : f = 3 := Option.some.inj ((show Tryd.prog.funcNamed "tontine/tontinelaw9.ObjectPlays" = some 3 by kernel_rfl).symm.trans hf) |>.symm
      obtain rfl : fn = Tryd.f3 := (Option.some.inj (Tryd.func3.symm.trans hfn)).symm
      exact ⟨by kernel_rfl, fun j t ht => by
        rw [Tryd.params3] at ht
        match j, ht with
        | 0, ht => simp at ht; subst ht; exact (show Tryd.prog.wantsStandIn 22 = false by kernel_rfl)
        | j + 1, ht => simp at ht⟩)
    (by kernel_rfl)

end objectPlays
end Go.Proofs.YtoimkocjfijlkaaDoor
