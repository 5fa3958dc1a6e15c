/- ObjectApart: of every row of waits for, signals to one object: the counts and the rows of the others stay as they are; nobody waits for an object that is counted: the law answers true. No conditions. -/
import Derived.Test.YtoimkocjfijlkaaObA
import Derived.Test.YtoimkocjfijlkaaOwn9
import Derived.WalkSpells
import Derived.WalkLawsBesides
import Derived.Deep.LoopGhost
import Derived.Deep.CutBlock
import Derived.Deep.DeepCutAuto
namespace Go.Proofs.Ytoimkocjfijlkaa
open Go.ChangeShapes Go.WideShapes Go.ChangeAt Go.RowKit Go.Joins Go.Deep
set_option linter.unusedSimpArgs false
set_option linter.unusedVariables false

namespace objectApart
open Ob
def stO (sw si sn : Int) : Obj := .cells #[.int .i64 sw, .int .i64 si, .int .i64 sn] 38 (0, 0)
def arO : Obj := .cells #[.int .i64 0, .int .i64 0, .int .i64 0, .int .i64 0] 39 (0, 0)
/-- Nobody waits for what is counted; so many wait at most. -/
structure Ok (o i : Nat) (c : Nat → Int) (W : Nat → List Int) : Prop where
  one : 0 < c o → W o = []
  len : (flat W).length ≤ i
theorem Ok.more {o i j : Nat} {c : Nat → Int} {W : Nat → List Int} (h : Ok o i c W) (k : i ≤ j) : Ok o j c W := ⟨h.one, Nat.le_trans h.len k⟩
theorem flat_upd_len {α : Type} {W : Nat → List α} {o : Nat} (ho : o < 4) {l : List α} : (flat (upd W o l)).length + (W o).length = (flat W).length + l.length := by
  rcases four ho with rfl | rfl | rfl | rfl <;> simp [flat, upd] <;> omega
/-- Others stay. -/
theorem Ok.wait {o i : Nat} {c : Nat → Int} {W : Nat → List Int} (h : Ok o i c W) (ho : o < 4) (id : Int) :
    Ok o (i + 1) (waitR id o c W).c (waitR id o c W).W ∧ ∀ j, j ≠ o → (waitR id o c W).c j = c j ∧ (waitR id o c W).W j = W j := by
  unfold waitR
  rw [if_neg (by omega), show ((o : Nat) : Int).toNat = o by omega]
  split
  · exact ⟨h.more (by omega), fun j _ => ⟨rfl, rfl⟩⟩
  split
  · rename_i hp
    refine ⟨⟨fun _ => h.one hp, Nat.le_trans h.len (by omega)⟩, fun j hj => ⟨upd_other hj, rfl⟩⟩
  · rename_i hp
    refine ⟨⟨fun hq => absurd hq hp, ?_⟩, fun j hj => ⟨rfl, upd_other hj⟩⟩
    have := flat_upd_len (W := W) ho (l := W o ++ [id])
    have := h.len
    simp only [List.length_append, List.length_singleton] at *
    show (flat (upd W o (W o ++ [id]))).length ≤ i + 1
    omega
theorem Ok.signal {o i : Nat} {c : Nat → Int} {W : Nat → List Int} (h : Ok o i c W) (ho : o < 4) :
    Ok o (i + 1) (sigR o c W).c (sigR o c W).W ∧ ∀ j, j ≠ o → (sigR o c W).c j = c j ∧ (sigR o c W).W j = W j := by
  unfold sigR
  rw [if_neg (by omega), show ((o : Nat) : Int).toNat = o by omega]
  cases hw : W o with
  | nil => exact ⟨⟨fun _ => hw, Nat.le_trans h.len (by omega)⟩, fun j hj => ⟨upd_other hj, rfl⟩⟩
  | cons q l =>
    refine ⟨⟨fun hq => ?_, ?_⟩, fun j hj => ⟨rfl, upd_other hj⟩⟩
    · have := h.one hq
      rw [hw] at this
      cases this
    · have h1 := flat_upd_len (W := W) ho (l := l)
      have h2 := h.len
      rw [hw] at h1
      simp only [List.length_cons] at h1
      show (flat (upd W o l)).length ≤ i + 1
      omega
def Inv (w0 : World) (x o i : Nat) (wr : World) : Prop := ∃ c W, Ok o i c W ∧ Si w0 x c W (fun _ => False) wr
/-- The step, both arrays. -/
def Fb (S : Nat) (k : Nat) : Prop := k = S ∨ k = S + 1 ∨ k = S + 1 + 1
structure Bl (w0 : World) (x : Nat) (c : Nat → Int) (W : Nat → List Int) (S : Nat) (o : Obj) (g h : Nat → Int) (w : World) : Prop where
  si : Si w0 x c W (Fb S) w
  st : w.heap[S]? = some o
  a1 : Arr w (S + 1) g
  a2 : Arr w (S + 1 + 1) h
section
variable {w0 w w' : World} {x S : Nat} {c : Nat → Int} {W : Nat → List Int} {o : Obj} {g h : Nat → Int}
theorem bl_lay (k : Si w0 x c W (fun _ => False) w) (sw si sn : Int) : Bl w0 x c W w.heap.size (stO sw si sn) (fun _ => 0) (fun _ => 0) (((w.alloc (stO sw si sn)).alloc arO).alloc arO) := by
  have h1 := Arr.new (w.alloc (stO sw si sn))
  have h2 := Arr.new ((w.alloc (stO sw si sn)).alloc arO)
  have h3 : ((w.alloc (stO sw si sn))).heap[w.heap.size]? = some (stO sw si sn) := heap_alloc_new w _
  have x2 : Ext (w.alloc (stO sw si sn)) ((w.alloc (stO sw si sn)).alloc arO) := Ext.alloc (Ext.refl _) _
  have x3 : Ext ((w.alloc (stO sw si sn)).alloc arO) (((w.alloc (stO sw si sn)).alloc arO).alloc arO) := Ext.alloc (Ext.refl _) _
  have e1 : (w.alloc (stO sw si sn)).heap.size = w.heap.size + 1 := by simp
  have e2 : ((w.alloc (stO sw si sn)).alloc arO).heap.size = w.heap.size + 1 + 1 := by simp
  rw [e1] at h1
  rw [e2] at h2
  refine ⟨(((k.alloc (stO sw si sn)).alloc arO).alloc arO).fewer fun i hi => ?_, ?_, ?_, ?_⟩
  · rcases hi with rfl | rfl | rfl
    · exact .inr (.inr (.inl rfl))
    · exact .inr (.inl e1.symm)
    · exact .inl e2.symm
  · rw [(x2.trans x3).below.block _ (lt_blk h3)]; exact h3
  · exact h1.same (x3.below.block _ h1.lt)
  · exact h2
theorem Bl.ext (b : Bl w0 x c W S o g h w) (k : Ext w w') : Bl w0 x c W S o g h w' :=
  ⟨(b.si.ext k).1, by rw [k.below.block _ (lt_blk b.st)]; exact b.st, b.a1.same (k.below.block _ b.a1.lt), b.a2.same (k.below.block _ b.a2.lt)⟩
theorem Bl.of {c' : Nat → Int} {W' : Nat → List Int} (b : Bl w0 x c W S o g h w) (k : Si w0 x c' W' (Fb S) w' ∧ SameF (Fb S) w w') : Bl w0 x c' W' S o g h w' :=
  ⟨k.1, by rw [k.2 S (.inl rfl)]; exact b.st, b.a1.same (k.2 _ (.inr (.inl rfl))), b.a2.same (k.2 _ (.inr (.inr rfl)))⟩
theorem Bl.set1 (b : Bl w0 x c W S o g h w) (j : Nat) (u : Int) : Bl w0 x c W S o (upd g j u) h (w.setCell ⟨S + 1, j, none⟩ (.int .i64 u)) :=
  ⟨b.si.set (.inr (.inl rfl)) _ _, by rw [Below.heap_setCell _ _ _ _ (by simp)]; exact b.st, b.a1.set j u, b.a2.far (by omega)⟩
theorem Bl.set2 (b : Bl w0 x c W S o g h w) (j : Nat) (u : Int) : Bl w0 x c W S o g (upd h j u) (w.setCell ⟨S + 1 + 1, j, none⟩ (.int .i64 u)) :=
  ⟨b.si.set (.inr (.inr rfl)) _ _, by rw [Below.heap_setCell _ _ _ _ (by simp; omega)]; exact b.st, b.a1.far (by omega), b.a2.set j u⟩
theorem Bl.what {sw si sn : Int} (b : Bl w0 x c W S (stO sw si sn) g h w) : w.cell? ⟨S, 0, none⟩ = some (.int .i64 sw) := by
  have := b.st
  unfold stO at this
  simp [World.cell?, this]
theorem bl_count (b : Bl w0 x c W S o g h w) {i : Nat} (hi : i < 4) : Calls Try.prog 10 #[ptrV x, .int .i64 i] w fun e w' => e = .returned (.int .i64 (c i)) ∧ w' = w := si_count b.si hi
theorem bl_row (b : Bl w0 x c W S o g h w) {i : Nat} (hi : i < 4) (hl : (W i).length ≤ 1000000) :
    Calls Try.prog 11 #[ptrV x, .int .i64 i] w fun e w' => ∃ p cap, e = .returned (.slice p (W i).length cap) ∧ Ext w w' ∧ Bl w0 x c W S o g h w' :=
  (si_row b.si hi hl).mono fun v w' ⟨p, cap, a, k, _⟩ => ⟨p, cap, a, k, b.ext k⟩
end
/-- The first t are told. -/
def upto (f : Nat → Int) (t : Nat) : Nat → Int := fun j => if j < t then f j else 0
theorem upto_step (f : Nat → Int) (t : Nat) : upd (upto f t) t (f t) = upto f (t + 1) := by
  funext j
  unfold upd upto
  by_cases h : j = t
  · subst h; rw [if_pos rfl, if_pos (by omega)]
  · rw [if_neg h]
    by_cases h2 : j < t
    · rw [if_pos h2, if_pos (by omega)]
    · rw [if_neg h2, if_neg (by omega)]

set_option maxRecDepth 100000 in
set_option linter.unusedVariables false in
set_option maxHeartbeats 40000000 in
theorem walk (v : Value) (L : List Stp) (ob : Int) (hb : 0 ≤ ob) (hb' : ob ≤ 255) (w : World) (hL : Stps w v L) :
    Calls Try.prog 4 #[v, .int .u8 ob] w (Yields w (.bool true)) := by
  obtain ⟨p, cap, rfl, hcap, hmax⟩ := hL.shape
  unfold maxLen at hmax
  have HL := hid hL
  clear hL
  go_enter Try.func4, Try.ntmps4
  go_wp2_with fail
  refine (known_any _).yields ?_
  intro p0
  have hE0 := hid (ext_more w p0)
  generalize more w p0 = w0 at *
  by_cases hz : 60 < L.length
  · have i1 : (60 : Int) < (L.length : Int) := by omega
    go_wp2
    go_returns
    exact ⟨rfl, hE0.out⟩
  have i1 : (L.length : Int) ≤ 60 := by omega
  have HZ := hid hz
  clear hz
  go_wp2_with fail
  obtain ⟨o, hoo⟩ : ∃ o : Nat, ob % 4 = o := ⟨(ob % 4).toNat, by omega⟩
  have HO : Hid (o < 4) := by show o < 4; omega
  rw [hoo]
  clear hoo hb hb'
  (with_reducible refine (st_new (Ext.refl w0)).mono ?_)
  rintro e w1 ⟨rfl, A1, s1, -, -⟩
  have SP : Hid (Inv w0 w0.heap.size o 0 w1) := ⟨_, _, ⟨fun _ => rfl, by simp [flat]⟩, A1, s1, fun _ h => h.elim⟩
  clear s1
  generalize w0.heap.size = x at *
  go_wp2_with fail
  go_loopg [7] L.length (fun gg v5 wr => ∃ k : Nat, v5 = .int .i64 k ∧ k ≤ L.length ∧ L.length - k ≤ gg ∧ Hid (Inv w0 x o k wr))
  case atStart => exact ⟨0, rfl, by omega, by omega, SP⟩
  case round =>
    obtain ⟨k, rfl, hk, hgg, hinv⟩ := hrel
    clear SP
    by_cases hlt : k < L.length
    · have j1 : (k : Int) < (L.length : Int) := by omega
      obtain ⟨g, off, rfl, c0, c1, c2, -, -, -⟩ := HL.out.at k hlt
      obtain ⟨c, W, hok, hsi⟩ := hinv.out
      have hx := hE0.out.trans hsi.xt
      have d0 := hx.cell c0
      have d1 := hx.cell c1
      have d2 := hx.cell c2
      have HOK := hid hok
      have HK : Hid (k < 60) := by have := HZ.out; show k < 60; omega
      have HSI := hid hsi
      clear hinv hok hsi c0 c1 c2 hx
      generalize L[k] = s at *
      obtain ⟨sw, si, sn⟩ := s
      simp only at d0 d1 d2
      go_upto_block 2 with fail
      have B0 := hid (bl_lay HSI.out sw si sn)
      simp only [stO, arO] at B0
      clear HSI d0 d1 d2
      generalize ((wr.alloc (.cells #[.int .i64 sw, .int .i64 si, .int .i64 sn] 38 (0, 0))).alloc (.cells #[.int .i64 0, .int .i64 0, .int .i64 0, .int .i64 0] 39 (0, 0))).alloc (.cells #[.int .i64 0, .int .i64 0, .int .i64 0, .int .i64 0] 39 (0, 0)) = w2 at *
      generalize wr.heap.size = S at *
      have B0 : Hid (Bl w0 x c W S (stO sw si sn) (fun _ => 0) (fun _ => 0) w2) := B0
      have HLEN : Hid (∀ i, i < 4 → (W i).length ≤ 1000) := fun i hi => by
        have h1 := flat_len (r := W) hi
        have h2 := HOK.out.len
        have h3 := HK.out
        omega
      go_wp2_with fail
      go_loopg [11] 4 (fun gg v5 wz => ∃ t : Nat, v5 = .int .i64 t ∧ t ≤ 4 ∧ 4 - t ≤ gg ∧ Hid (Bl w0 x c W S (stO sw si sn) (upto c t) (upto (fun j => (W j).length) t) wz))
      case atStart => exact ⟨0, rfl, by omega, by omega, ⟨B0.out.si, B0.out.st, B0.out.a1.told fun j _ => rfl, B0.out.a2.told fun j _ => rfl⟩⟩
      case round =>
        obtain ⟨t, rfl, ht, hgt, hbl⟩ := hrel
        clear B0
        by_cases h4 : t < 4
        · have j2 : (t : Int) < 4 := by omega
          go_upto_region 16 with fail
          refine wp_region_T 12 1 (fun _ => True) (by kernel_rfl) (by kernel_rfl) ?_
          have HD0 := hid (hbl.out.ext (Ext.drew (Ext.refl _)))
          clear hbl
          generalize wr.drew = z0 at *
          have HSS : True := trivial
          refine wpT_take 0 (v := ?v1) rfl (by kernel_rfl) (by kernel_rfl) (by kernel_rfl) (by kernel_rfl) (by intro _ _ _ h; first | exact h | (obtain ⟨h, _⟩ := h; cases h)) (by rfl) HSS ?hy1 ?_
          case hy1 => (intro u hu; go_simp; first | done | (with_reducible rfl))
          (try simp only [Act.put, List.getElem_toArray, List.getElem_cons_zero, List.setIfInBounds_toArray, List.set_cons_zero, List.set_cons_succ])
          refine wpT_take 1 (v := ?v2) rfl (by kernel_rfl) (by kernel_rfl) (by kernel_rfl) (by kernel_rfl) (by intro _ _ _ h; first | exact h | (obtain ⟨h, _⟩ := h; cases h)) (by rfl) HSS ?hy2 ?_
          case hy2 => (intro u hu; go_simp; first | done | (with_reducible rfl))
          (try simp only [Act.put, List.getElem_toArray, List.getElem_cons_zero, List.getElem_cons_succ, List.setIfInBounds_toArray, List.set_cons_zero, List.set_cons_succ])
          refine wpT_take 2 (v := ?v3) rfl (by kernel_rfl) (by kernel_rfl) (by kernel_rfl) (by kernel_rfl) (by intro _ _ _ h; first | exact h | (obtain ⟨h, _⟩ := h; cases h)) (by rfl) HSS ?hy3 ?_
          case hy3 => (intro u hu; go_simp; first | done | (with_reducible rfl))
          (try simp only [Act.put, List.getElem_toArray, List.getElem_cons_zero, List.getElem_cons_succ, List.setIfInBounds_toArray, List.set_cons_zero, List.set_cons_succ])
          refine wpT_take 3 (v := ?v4) rfl (by kernel_rfl) (by kernel_rfl) (by kernel_rfl) (by kernel_rfl) (by intro _ _ _ h; first | exact h | (obtain ⟨h, _⟩ := h; cases h)) (by rfl) HSS ?hy4 ?_
          case hy4 => (intro u hu; go_simp; first | done | (with_reducible rfl))
          (try simp only [Act.put, List.getElem_toArray, List.getElem_cons_zero, List.getElem_cons_succ, List.setIfInBounds_toArray, List.set_cons_zero, List.set_cons_succ])
          refine wpT_take 5 (v := ?v5) rfl (by kernel_rfl) (by kernel_rfl) (by kernel_rfl) (by kernel_rfl) (by intro _ _ _ h; first | exact h | (obtain ⟨h, _⟩ := h; cases h)) (by rfl) HSS ?hy5 ?_
          case hy5 => (intro u hu; go_simp; first | done | (with_reducible rfl))
          (try simp only [Act.put, List.getElem_toArray, List.getElem_cons_zero, List.getElem_cons_succ, List.setIfInBounds_toArray, List.set_cons_zero, List.set_cons_succ])
          refine wpT_take 6 (v := ?v6) rfl (by kernel_rfl) (by kernel_rfl) (by kernel_rfl) (by kernel_rfl) (by intro _ _ _ h; first | exact h | (obtain ⟨h, _⟩ := h; cases h)) (by rfl) HSS ?hy6 ?_
          case hy6 => (intro u hu; go_simp; first | done | (with_reducible rfl))
          (try simp only [Act.put, List.getElem_toArray, List.getElem_cons_zero, List.getElem_cons_succ, List.setIfInBounds_toArray, List.set_cons_zero, List.set_cons_succ])
          refine wpT_one 4 rfl (by kernel_rfl) (by rfl) (fun K' hK => ?_)
          go_simp
          refine (bl_count HD0.out h4).mono ?_
          rintro e v1 ⟨rfl, hw⟩
          rw [hw]
          clear hw
          clear v1
          refine hK.out _ _ trivial ?_
          clear hK K'
          (try simp only [Act.put, List.getElem_toArray, List.getElem_cons_zero, List.getElem_cons_succ, List.setIfInBounds_toArray, List.set_cons_zero, List.set_cons_succ])
          refine wpT_take 9 (v := ?v7) rfl (by kernel_rfl) (by kernel_rfl) (by kernel_rfl) (by kernel_rfl) (by intro _ _ _ h; first | exact h | (obtain ⟨h, _⟩ := h; cases h)) (by rfl) HSS ?hy7 ?_
          case hy7 => (intro u hu; go_simp; first | done | (with_reducible rfl))
          (try simp only [Act.put, List.getElem_toArray, List.getElem_cons_zero, List.getElem_cons_succ, List.setIfInBounds_toArray, List.set_cons_zero, List.set_cons_succ])
          refine wpT_one 7 rfl (by kernel_rfl) (by rfl) (fun K' hK => ?_)
          go_simp
          refine (bl_row HD0.out h4 (by have := HLEN.out t h4; omega)).mono ?_
          rintro e v2 ⟨p2, c2, rfl, x2, b2⟩
          have B2 := hid b2
          clear x2 b2 HD0
          refine hK.out _ _ trivial ?_
          clear hK K'
          (try simp only [Act.put, List.getElem_toArray, List.getElem_cons_zero, List.getElem_cons_succ, List.setIfInBounds_toArray, List.set_cons_zero, List.set_cons_succ])
          refine wpT_take 8 (v := ?v8) rfl (by kernel_rfl) (by kernel_rfl) (by kernel_rfl) (by kernel_rfl) (by intro _ _ _ h; first | exact h | (obtain ⟨h, _⟩ := h; cases h)) (by rfl) HSS ?hy8 ?_
          case hy8 => (intro u hu; go_simp; first | done | (with_reducible rfl))
          (try simp only [Act.put, List.getElem_toArray, List.getElem_cons_zero, List.getElem_cons_succ, List.setIfInBounds_toArray, List.set_cons_zero, List.set_cons_succ])
          have q1 := B2.out.a1.cell h4
          have f1 := B2.out.a1.free t
          refine wpT_one 10 rfl (by kernel_rfl) (by rfl) (fun K' hK => ?_)
          go_simp
          refine hK.out _ _ trivial ?_
          clear hK K' q1 f1
          (try simp only [Act.put, List.getElem_toArray, List.getElem_cons_zero, List.getElem_cons_succ, List.setIfInBounds_toArray, List.set_cons_zero, List.set_cons_succ])
          have B3 := hid (B2.out.set1 t (c t))
          rw [upto_step] at B3
          clear B2
          generalize v2.setCell ⟨S + 1, t, none⟩ (.int .i64 (c t)) = v3 at *
          refine wpT_take 11 (v := ?v9) rfl (by kernel_rfl) (by kernel_rfl) (by kernel_rfl) (by kernel_rfl) (by intro _ _ _ h; first | exact h | (obtain ⟨h, _⟩ := h; cases h)) (by rfl) HSS ?hy9 ?_
          case hy9 => (intro u hu; go_simp; first | done | (with_reducible rfl))
          (try simp only [Act.put, List.getElem_toArray, List.getElem_cons_zero, List.getElem_cons_succ, List.setIfInBounds_toArray, List.set_cons_zero, List.set_cons_succ])
          have q2 := B3.out.a2.cell h4
          have f2 := B3.out.a2.free t
          refine wpT_done (by kernel_rfl) ?_
          refine wpAny_one 12 rfl (by kernel_rfl) (by rfl) (fun K' hK => ?_)
          go_simp
          refine hK.out _ _ ?_
          clear hK K' q2 f2
          (try simp only [Act.put, List.getElem_toArray, List.getElem_cons_zero, List.getElem_cons_succ, List.setIfInBounds_toArray, List.set_cons_zero, List.set_cons_succ])
          have B4 := hid (B3.out.set2 t (W t).length)
          rw [upto_step (fun j => ((W j).length : Int))] at B4
          refine wpAny_done (by kernel_rfl) ?_ _
          clear B3
          generalize v3.setCell ⟨S + 1 + 1, t, none⟩ (.int .i64 (W t).length) = v4 at *
          go_wp2
          go_roundg (4 - (t + 1))
          case measure => omega
          case rel => exact ⟨t + 1, by go_num, by omega, by omega, B4⟩
        · obtain rfl : t = 4 := by omega
          have k0 := hbl.out.what
          have SM : ∀ (c5 : Nat → Int) (W5 : Nat → List Int), (∀ j, j ≠ o → c5 j = c j ∧ W5 j = W j) → ∀ j, j < 4 → j ≠ o → c5 j = upto c 4 j ∧ ((W5 j).length : Int) = upto (fun j => (W j).length) 4 j := fun c5 W5 h j hj hjo => by
            obtain ⟨h1, h2⟩ := h j hjo
            unfold upto
            rw [if_pos hj, if_pos hj, h1, h2]
            exact ⟨rfl, rfl⟩
          have SM := hid SM
          have BL := hid hbl.out
          clear hbl
          by_cases hpar : (sw.tmod 2 == 0) = true
          · have hw := HOK.out.wait HO.out k
            have CW := hid (si_wait BL.out.si k o (by have := HK.out; unfold wf64; omega) (by have := HOK.out.len; have := HK.out; omega))
            have HWR := hid hw
            clear hw
            generalize waitR k o c W = R at *
            obtain ⟨on, er, c5, W5⟩ := R
            go_wp2_with fail
            (with_reducible refine CW.out.mono ?_)
            rintro e w5 ⟨rfl, s5⟩
            have b5 : Bl w0 x c5 W5 S (stO sw si sn) (upto c 4) (upto (fun j => (W j).length) 4) w5 := BL.out.of s5
            have hok5 : Ok o (k + 1) c5 W5 := HWR.out.1
            have hsm5 := SM.out c5 W5 HWR.out.2
            have B5 := hid b5
            have OK5 := hid hok5
            have SM5 := hid hsm5
            have HLEN5 : Hid (∀ i, i < 4 → (W5 i).length ≤ 1000) := fun i hi => by
              have h1 := flat_len (r := W5) hi
              have h2 := OK5.out.len
              have h3 := HK.out
              omega
            clear b5 hok5 hsm5 CW HWR BL SM HLEN s5
            go_wp2_with fail
            go_loopg [12] 4 (fun gg v5 wz => ∃ t : Nat, v5 = .int .i64 t ∧ t ≤ 4 ∧ 4 - t ≤ gg ∧ Hid (Bl w0 x c5 W5 S (stO sw si sn) (upto c 4) (upto (fun j => (W j).length) 4) wz))
            case atStart => exact ⟨0, rfl, by omega, by omega, B5⟩
            case round =>
              obtain ⟨t, rfl, ht, hgt, hbl⟩ := hrel
              clear B5
              by_cases h4 : t < 4
              · have j2 : (t : Int) < 4 := by omega
                have HH4 := hid h4
                by_cases hto : t = o
                · have j3 : ((t : Int) != (o : Int)) = false := by simp; omega
                  have j4 : ((t : Int) == (o : Int)) = true := by simp; omega
                  clear hto
                  go_upto_region 23 with fail
                  refine wp_region_T 21 1 (fun _ => True) (by kernel_rfl) (by kernel_rfl) ?_
                  have HD0 := hid (hbl.out.ext (Ext.drew (Ext.refl _)))
                  clear hbl
                  generalize wr.drew = z0 at *
                  have HSS : True := trivial
                  refine wpT_take 0 (v := ?v10) rfl (by kernel_rfl) (by kernel_rfl) (by kernel_rfl) (by kernel_rfl) (by intro _ _ _ h; first | exact h | (obtain ⟨h, _⟩ := h; cases h)) (by rfl) HSS ?hy10 ?_
                  case hy10 => (intro u hu; go_simp; first | done | (with_reducible rfl))
                  (try simp only [Act.put, List.getElem_toArray, List.getElem_cons_zero, List.setIfInBounds_toArray, List.set_cons_zero, List.set_cons_succ])
                  refine wpT_take 1 (v := ?v11) rfl (by kernel_rfl) (by kernel_rfl) (by kernel_rfl) (by kernel_rfl) (by intro _ _ _ h; first | exact h | (obtain ⟨h, _⟩ := h; cases h)) (by rfl) HSS ?hy11 ?_
                  case hy11 => (intro u hu; go_simp; first | done | (with_reducible rfl))
                  (try simp only [Act.put, List.getElem_toArray, List.getElem_cons_zero, List.getElem_cons_succ, List.setIfInBounds_toArray, List.set_cons_zero, List.set_cons_succ])
                  refine wpT_take 2 (v := ?v12) rfl (by kernel_rfl) (by kernel_rfl) (by kernel_rfl) (by kernel_rfl) (by intro _ _ _ h; first | exact h | (obtain ⟨h, _⟩ := h; cases h)) (by rfl) HSS ?hy12 ?_
                  case hy12 => (intro u hu; go_simp; first | done | (with_reducible rfl))
                  (try simp only [Act.put, List.getElem_toArray, List.getElem_cons_zero, List.getElem_cons_succ, List.setIfInBounds_toArray, List.set_cons_zero, List.set_cons_succ])
                  refine wpT_take 3 (v := ?v13) rfl (by kernel_rfl) (by kernel_rfl) (by kernel_rfl) (by kernel_rfl) (by intro _ _ _ h; first | exact h | (obtain ⟨h, _⟩ := h; cases h)) (by rfl) HSS ?hy13 ?_
                  case hy13 => (intro u hu; go_simp; first | done | (with_reducible rfl))
                  (try simp only [Act.put, List.getElem_toArray, List.getElem_cons_zero, List.getElem_cons_succ, List.setIfInBounds_toArray, List.set_cons_zero, List.set_cons_succ])
                  refine wpT_skip 4 rfl (by kernel_rfl) (by kernel_rfl) (by kernel_rfl) (by kernel_rfl) (by intro _ _ _ h; first | exact h | (obtain ⟨h, _⟩ := h; cases h)) (by rfl) HSS ?_
                  (try simp only [Act.put, List.getElem_toArray, List.getElem_cons_zero, List.getElem_cons_succ, List.setIfInBounds_toArray, List.set_cons_zero, List.set_cons_succ])
                  refine wpT_skip 5 rfl (by kernel_rfl) (by kernel_rfl) (by kernel_rfl) (by kernel_rfl) (by intro _ _ _ h; first | exact h | (obtain ⟨h, _⟩ := h; cases h)) (by rfl) HSS ?_
                  (try simp only [Act.put, List.getElem_toArray, List.getElem_cons_zero, List.getElem_cons_succ, List.setIfInBounds_toArray, List.set_cons_zero, List.set_cons_succ])
                  refine wpT_skip 6 rfl (by kernel_rfl) (by kernel_rfl) (by kernel_rfl) (by kernel_rfl) (by intro _ _ _ h; first | exact h | (obtain ⟨h, _⟩ := h; cases h)) (by rfl) HSS ?_
                  (try simp only [Act.put, List.getElem_toArray, List.getElem_cons_zero, List.getElem_cons_succ, List.setIfInBounds_toArray, List.set_cons_zero, List.set_cons_succ])
                  refine wpT_skip 7 rfl (by kernel_rfl) (by kernel_rfl) (by kernel_rfl) (by kernel_rfl) (by intro _ _ _ h; first | exact h | (obtain ⟨h, _⟩ := h; cases h)) (by rfl) HSS ?_
                  (try simp only [Act.put, List.getElem_toArray, List.getElem_cons_zero, List.getElem_cons_succ, List.setIfInBounds_toArray, List.set_cons_zero, List.set_cons_succ])
                  refine wpT_skip 8 rfl (by kernel_rfl) (by kernel_rfl) (by kernel_rfl) (by kernel_rfl) (by intro _ _ _ h; first | exact h | (obtain ⟨h, _⟩ := h; cases h)) (by rfl) HSS ?_
                  (try simp only [Act.put, List.getElem_toArray, List.getElem_cons_zero, List.getElem_cons_succ, List.setIfInBounds_toArray, List.set_cons_zero, List.set_cons_succ])
                  refine wpT_skip 9 rfl (by kernel_rfl) (by kernel_rfl) (by kernel_rfl) (by kernel_rfl) (by intro _ _ _ h; first | exact h | (obtain ⟨h, _⟩ := h; cases h)) (by rfl) HSS ?_
                  (try simp only [Act.put, List.getElem_toArray, List.getElem_cons_zero, List.getElem_cons_succ, List.setIfInBounds_toArray, List.set_cons_zero, List.set_cons_succ])
                  refine wpT_skip 10 rfl (by kernel_rfl) (by kernel_rfl) (by kernel_rfl) (by kernel_rfl) (by intro _ _ _ h; first | exact h | (obtain ⟨h, _⟩ := h; cases h)) (by rfl) HSS ?_
                  (try simp only [Act.put, List.getElem_toArray, List.getElem_cons_zero, List.getElem_cons_succ, List.setIfInBounds_toArray, List.set_cons_zero, List.set_cons_succ])
                  refine wpT_skip 11 rfl (by kernel_rfl) (by kernel_rfl) (by kernel_rfl) (by kernel_rfl) (by intro _ _ _ h; first | exact h | (obtain ⟨h, _⟩ := h; cases h)) (by rfl) HSS ?_
                  (try simp only [Act.put, List.getElem_toArray, List.getElem_cons_zero, List.getElem_cons_succ, List.setIfInBounds_toArray, List.set_cons_zero, List.set_cons_succ])
                  refine wpT_skip 12 rfl (by kernel_rfl) (by kernel_rfl) (by kernel_rfl) (by kernel_rfl) (by intro _ _ _ h; first | exact h | (obtain ⟨h, _⟩ := h; cases h)) (by rfl) HSS ?_
                  (try simp only [Act.put, List.getElem_toArray, List.getElem_cons_zero, List.getElem_cons_succ, List.setIfInBounds_toArray, List.set_cons_zero, List.set_cons_succ])
                  refine wpT_skip 13 rfl (by kernel_rfl) (by kernel_rfl) (by kernel_rfl) (by kernel_rfl) (by intro _ _ _ h; first | exact h | (obtain ⟨h, _⟩ := h; cases h)) (by rfl) HSS ?_
                  (try simp only [Act.put, List.getElem_toArray, List.getElem_cons_zero, List.getElem_cons_succ, List.setIfInBounds_toArray, List.set_cons_zero, List.set_cons_succ])
                  refine wpT_skip 14 rfl (by kernel_rfl) (by kernel_rfl) (by kernel_rfl) (by kernel_rfl) (by intro _ _ _ h; first | exact h | (obtain ⟨h, _⟩ := h; cases h)) (by rfl) HSS ?_
                  (try simp only [Act.put, List.getElem_toArray, List.getElem_cons_zero, List.getElem_cons_succ, List.setIfInBounds_toArray, List.set_cons_zero, List.set_cons_succ])
                  refine wpT_skip 15 rfl (by kernel_rfl) (by kernel_rfl) (by kernel_rfl) (by kernel_rfl) (by intro _ _ _ h; first | exact h | (obtain ⟨h, _⟩ := h; cases h)) (by rfl) HSS ?_
                  (try simp only [Act.put, List.getElem_toArray, List.getElem_cons_zero, List.getElem_cons_succ, List.setIfInBounds_toArray, List.set_cons_zero, List.set_cons_succ])
                  refine wpT_skip 16 rfl (by kernel_rfl) (by kernel_rfl) (by kernel_rfl) (by kernel_rfl) (by intro _ _ _ h; first | exact h | (obtain ⟨h, _⟩ := h; cases h)) (by rfl) HSS ?_
                  (try simp only [Act.put, List.getElem_toArray, List.getElem_cons_zero, List.getElem_cons_succ, List.setIfInBounds_toArray, List.set_cons_zero, List.set_cons_succ])
                  refine wpT_skip 17 rfl (by kernel_rfl) (by kernel_rfl) (by kernel_rfl) (by kernel_rfl) (by intro _ _ _ h; first | exact h | (obtain ⟨h, _⟩ := h; cases h)) (by rfl) HSS ?_
                  (try simp only [Act.put, List.getElem_toArray, List.getElem_cons_zero, List.getElem_cons_succ, List.setIfInBounds_toArray, List.set_cons_zero, List.set_cons_succ])
                  refine wpT_skip 18 rfl (by kernel_rfl) (by kernel_rfl) (by kernel_rfl) (by kernel_rfl) (by intro _ _ _ h; first | exact h | (obtain ⟨h, _⟩ := h; cases h)) (by rfl) HSS ?_
                  (try simp only [Act.put, List.getElem_toArray, List.getElem_cons_zero, List.getElem_cons_succ, List.setIfInBounds_toArray, List.set_cons_zero, List.set_cons_succ])
                  refine wpT_skip 19 rfl (by kernel_rfl) (by kernel_rfl) (by kernel_rfl) (by kernel_rfl) (by intro _ _ _ h; first | exact h | (obtain ⟨h, _⟩ := h; cases h)) (by rfl) HSS ?_
                  (try simp only [Act.put, List.getElem_toArray, List.getElem_cons_zero, List.getElem_cons_succ, List.setIfInBounds_toArray, List.set_cons_zero, List.set_cons_succ])
                  refine wpT_skip 20 rfl (by kernel_rfl) (by kernel_rfl) (by kernel_rfl) (by kernel_rfl) (by intro _ _ _ h; first | exact h | (obtain ⟨h, _⟩ := h; cases h)) (by rfl) HSS ?_
                  (try simp only [Act.put, List.getElem_toArray, List.getElem_cons_zero, List.getElem_cons_succ, List.setIfInBounds_toArray, List.set_cons_zero, List.set_cons_succ])
                  refine wpT_done (by kernel_rfl) ?_
                  refine wpAny_take (i := 21) (v := ?w56) rfl (by kernel_rfl) (by kernel_rfl) (by kernel_rfl) (by intro _ _ _ h; first | exact h | (obtain ⟨h, _⟩ := h; cases h)) (Or.inl ⟨by rfl, ?hw56⟩) ?_
                  case hw56 => (intro w; go_simp; first | done | (with_reducible rfl))
                  (try simp only [Act.put, List.getElem_toArray, List.getElem_cons_zero, List.getElem_cons_succ, List.setIfInBounds_toArray, List.set_cons_zero, List.set_cons_succ])
                  refine wpAny_done (by kernel_rfl) ?_ _
                  go_wp2
                  go_roundg (4 - (t + 1))
                  case measure => omega
                  case rel => exact ⟨t + 1, by go_num, by have := HH4.out; omega, by omega, HD0⟩
                · have j3 : ((t : Int) != (o : Int)) = true := by simp; omega
                  have j4 : ((t : Int) == (o : Int)) = false := by simp; omega
                  have hs := SM5.out t h4 hto
                  clear hto
                  go_upto_region 23 with fail
                  refine wp_region_T 21 1 (fun u => u.cell? ⟨S + 1, t, none⟩ = some (.int .i64 (upto c 4 t)) ∧ u.cell? ⟨S + 1 + 1, t, none⟩ = some (.int .i64 (upto (fun j => (W j).length) 4 t))) (by kernel_rfl) (by kernel_rfl) ?_
                  have HD0 := hid (hbl.out.ext (Ext.drew (Ext.refl _)))
                  clear hbl
                  generalize wr.drew = z0 at *
                  rw [← hs.1, ← hs.2]
                  have HSS : z0.cell? ⟨S + 1, t, none⟩ = some (.int .i64 (c5 t)) ∧ z0.cell? ⟨S + 1 + 1, t, none⟩ = some (.int .i64 ((W5 t).length)) := by rw [hs.1, hs.2]; exact ⟨HD0.out.a1.cell h4, HD0.out.a2.cell h4⟩
                  have HSM := hid hs
                  clear hs
                  have q1 : (c5 t != c5 t) = false := by simp
                  have q2 : (((W5 t).length : Int) != ((W5 t).length : Int)) = false := by simp
                  refine wpT_take 0 (v := ?v14) rfl (by kernel_rfl) (by kernel_rfl) (by kernel_rfl) (by kernel_rfl) (by intro _ _ _ h; first | exact h | (obtain ⟨h, _⟩ := h; cases h)) (by rfl) HSS ?hy14 ?_
                  case hy14 => (intro u hu; obtain ⟨h1, h2⟩ := hu; go_simp; first | done | (with_reducible rfl))
                  (try simp only [Act.put, List.getElem_toArray, List.getElem_cons_zero, List.setIfInBounds_toArray, List.set_cons_zero, List.set_cons_succ])
                  refine wpT_take 1 (v := ?v15) rfl (by kernel_rfl) (by kernel_rfl) (by kernel_rfl) (by kernel_rfl) (by intro _ _ _ h; first | exact h | (obtain ⟨h, _⟩ := h; cases h)) (by rfl) HSS ?hy15 ?_
                  case hy15 => (intro u hu; obtain ⟨h1, h2⟩ := hu; go_simp; first | done | (with_reducible rfl))
                  (try simp only [Act.put, List.getElem_toArray, List.getElem_cons_zero, List.getElem_cons_succ, List.setIfInBounds_toArray, List.set_cons_zero, List.set_cons_succ])
                  refine wpT_take 2 (v := ?v16) rfl (by kernel_rfl) (by kernel_rfl) (by kernel_rfl) (by kernel_rfl) (by intro _ _ _ h; first | exact h | (obtain ⟨h, _⟩ := h; cases h)) (by rfl) HSS ?hy16 ?_
                  case hy16 => (intro u hu; obtain ⟨h1, h2⟩ := hu; go_simp; first | done | (with_reducible rfl))
                  (try simp only [Act.put, List.getElem_toArray, List.getElem_cons_zero, List.getElem_cons_succ, List.setIfInBounds_toArray, List.set_cons_zero, List.set_cons_succ])
                  refine wpT_take 3 (v := ?v17) rfl (by kernel_rfl) (by kernel_rfl) (by kernel_rfl) (by kernel_rfl) (by intro _ _ _ h; first | exact h | (obtain ⟨h, _⟩ := h; cases h)) (by rfl) HSS ?hy17 ?_
                  case hy17 => (intro u hu; obtain ⟨h1, h2⟩ := hu; go_simp; first | done | (with_reducible rfl))
                  (try simp only [Act.put, List.getElem_toArray, List.getElem_cons_zero, List.getElem_cons_succ, List.setIfInBounds_toArray, List.set_cons_zero, List.set_cons_succ])
                  refine wpT_take 4 (v := ?v18) rfl (by kernel_rfl) (by kernel_rfl) (by kernel_rfl) (by kernel_rfl) (by intro _ _ _ h; first | exact h | (obtain ⟨h, _⟩ := h; cases h)) (by rfl) HSS ?hy18 ?_
                  case hy18 => (intro u hu; obtain ⟨h1, h2⟩ := hu; go_simp; first | done | (with_reducible rfl))
                  (try simp only [Act.put, List.getElem_toArray, List.getElem_cons_zero, List.getElem_cons_succ, List.setIfInBounds_toArray, List.set_cons_zero, List.set_cons_succ])
                  refine wpT_take 5 (v := ?v19) rfl (by kernel_rfl) (by kernel_rfl) (by kernel_rfl) (by kernel_rfl) (by intro _ _ _ h; first | exact h | (obtain ⟨h, _⟩ := h; cases h)) (by rfl) HSS ?hy19 ?_
                  case hy19 => (intro u hu; obtain ⟨h1, h2⟩ := hu; go_simp; first | done | (with_reducible rfl))
                  (try simp only [Act.put, List.getElem_toArray, List.getElem_cons_zero, List.getElem_cons_succ, List.setIfInBounds_toArray, List.set_cons_zero, List.set_cons_succ])
                  refine wpT_take 7 (v := ?v20) rfl (by kernel_rfl) (by kernel_rfl) (by kernel_rfl) (by kernel_rfl) (by intro _ _ _ h; first | exact h | (obtain ⟨h, _⟩ := h; cases h)) (by rfl) HSS ?hy20 ?_
                  case hy20 => (intro u hu; obtain ⟨h1, h2⟩ := hu; go_simp; first | done | (with_reducible rfl))
                  (try simp only [Act.put, List.getElem_toArray, List.getElem_cons_zero, List.getElem_cons_succ, List.setIfInBounds_toArray, List.set_cons_zero, List.set_cons_succ])
                  refine wpT_take 8 (v := ?v21) rfl (by kernel_rfl) (by kernel_rfl) (by kernel_rfl) (by kernel_rfl) (by intro _ _ _ h; first | exact h | (obtain ⟨h, _⟩ := h; cases h)) (by rfl) HSS ?hy21 ?_
                  case hy21 => (intro u hu; obtain ⟨h1, h2⟩ := hu; go_simp; first | done | (with_reducible rfl))
                  (try simp only [Act.put, List.getElem_toArray, List.getElem_cons_zero, List.getElem_cons_succ, List.setIfInBounds_toArray, List.set_cons_zero, List.set_cons_succ])
                  refine wpT_take 9 (v := ?v22) rfl (by kernel_rfl) (by kernel_rfl) (by kernel_rfl) (by kernel_rfl) (by intro _ _ _ h; first | exact h | (obtain ⟨h, _⟩ := h; cases h)) (by rfl) HSS ?hy22 ?_
                  case hy22 => (intro u hu; obtain ⟨h1, h2⟩ := hu; go_simp; first | done | (with_reducible rfl))
                  (try simp only [Act.put, List.getElem_toArray, List.getElem_cons_zero, List.getElem_cons_succ, List.setIfInBounds_toArray, List.set_cons_zero, List.set_cons_succ])
                  refine wpT_one 6 rfl (by kernel_rfl) (by rfl) (fun K' hK => ?_)
                  go_simp
                  refine (bl_count HD0.out HH4.out).mono ?_
                  rintro e v1 ⟨rfl, hw⟩
                  rw [hw]
                  clear hw
                  clear v1
                  refine hK.out _ _ HSS ?_
                  clear hK K'
                  (try simp only [Act.put, List.getElem_toArray, List.getElem_cons_zero, List.getElem_cons_succ, List.setIfInBounds_toArray, List.set_cons_zero, List.set_cons_succ])
                  refine wpT_take 10 (v := ?v23) rfl (by kernel_rfl) (by kernel_rfl) (by kernel_rfl) (by kernel_rfl) (by intro _ _ _ h; first | exact h | (obtain ⟨h, _⟩ := h; cases h)) (by rfl) HSS ?hy23 ?_
                  case hy23 => (intro u hu; obtain ⟨h1, h2⟩ := hu; go_simp; first | done | (with_reducible rfl))
                  (try simp only [Act.put, List.getElem_toArray, List.getElem_cons_zero, List.getElem_cons_succ, List.setIfInBounds_toArray, List.set_cons_zero, List.set_cons_succ])
                  refine wpT_take 11 (v := ?v24) rfl (by kernel_rfl) (by kernel_rfl) (by kernel_rfl) (by kernel_rfl) (by intro _ _ _ h; first | exact h | (obtain ⟨h, _⟩ := h; cases h)) (by rfl) HSS ?hy24 ?_
                  case hy24 => (intro u hu; obtain ⟨h1, h2⟩ := hu; go_simp; first | done | (with_reducible rfl))
                  (try simp only [Act.put, List.getElem_toArray, List.getElem_cons_zero, List.getElem_cons_succ, List.setIfInBounds_toArray, List.set_cons_zero, List.set_cons_succ])
                  refine wpT_take 12 (v := ?v25) rfl (by kernel_rfl) (by kernel_rfl) (by kernel_rfl) (by kernel_rfl) (by intro _ _ _ h; first | exact h | (obtain ⟨h, _⟩ := h; cases h)) (by rfl) HSS ?hy25 ?_
                  case hy25 => (intro u hu; obtain ⟨h1, h2⟩ := hu; go_simp; first | done | (with_reducible rfl))
                  (try simp only [Act.put, List.getElem_toArray, List.getElem_cons_zero, List.getElem_cons_succ, List.setIfInBounds_toArray, List.set_cons_zero, List.set_cons_succ])
                  refine wpT_take 13 (v := ?v26) rfl (by kernel_rfl) (by kernel_rfl) (by kernel_rfl) (by kernel_rfl) (by intro _ _ _ h; first | exact h | (obtain ⟨h, _⟩ := h; cases h)) (by rfl) HSS ?hy26 ?_
                  case hy26 => (intro u hu; obtain ⟨h1, h2⟩ := hu; go_simp; first | done | (with_reducible rfl))
                  (try simp only [Act.put, List.getElem_toArray, List.getElem_cons_zero, List.getElem_cons_succ, List.setIfInBounds_toArray, List.set_cons_zero, List.set_cons_succ])
                  refine wpT_take 16 (v := ?v27) rfl (by kernel_rfl) (by kernel_rfl) (by kernel_rfl) (by kernel_rfl) (by intro _ _ _ h; first | exact h | (obtain ⟨h, _⟩ := h; cases h)) (by rfl) HSS ?hy27 ?_
                  case hy27 => (intro u hu; obtain ⟨h1, h2⟩ := hu; go_simp; first | done | (with_reducible rfl))
                  (try simp only [Act.put, List.getElem_toArray, List.getElem_cons_zero, List.getElem_cons_succ, List.setIfInBounds_toArray, List.set_cons_zero, List.set_cons_succ])
                  refine wpT_take 17 (v := ?v28) rfl (by kernel_rfl) (by kernel_rfl) (by kernel_rfl) (by kernel_rfl) (by intro _ _ _ h; first | exact h | (obtain ⟨h, _⟩ := h; cases h)) (by rfl) HSS ?hy28 ?_
                  case hy28 => (intro u hu; obtain ⟨h1, h2⟩ := hu; go_simp; first | done | (with_reducible rfl))
                  (try simp only [Act.put, List.getElem_toArray, List.getElem_cons_zero, List.getElem_cons_succ, List.setIfInBounds_toArray, List.set_cons_zero, List.set_cons_succ])
                  refine wpT_take 18 (v := ?v29) rfl (by kernel_rfl) (by kernel_rfl) (by kernel_rfl) (by kernel_rfl) (by intro _ _ _ h; first | exact h | (obtain ⟨h, _⟩ := h; cases h)) (by rfl) HSS ?hy29 ?_
                  case hy29 => (intro u hu; obtain ⟨h1, h2⟩ := hu; go_simp; first | done | (with_reducible rfl))
                  (try simp only [Act.put, List.getElem_toArray, List.getElem_cons_zero, List.getElem_cons_succ, List.setIfInBounds_toArray, List.set_cons_zero, List.set_cons_succ])
                  refine wpT_one 14 rfl (by kernel_rfl) (by rfl) (fun K' hK => ?_)
                  go_simp
                  refine (bl_row HD0.out HH4.out (by have := HLEN5.out t HH4.out; omega)).mono ?_
                  rintro e v2 ⟨p2, c2, rfl, x2, b2⟩
                  have B2 := hid b2
                  have hss : v2.cell? ⟨S + 1, t, none⟩ = some (.int .i64 (c5 t)) ∧ v2.cell? ⟨S + 1 + 1, t, none⟩ = some (.int .i64 ((W5 t).length)) := ⟨x2.cell HSS.1, x2.cell HSS.2⟩
                  clear HSS x2 b2 HD0
                  have HSS := hss
                  clear hss
                  refine hK.out _ _ HSS ?_
                  clear hK K'
                  (try simp only [Act.put, List.getElem_toArray, List.getElem_cons_zero, List.getElem_cons_succ, List.setIfInBounds_toArray, List.set_cons_zero, List.set_cons_succ])
                  refine wpT_take 15 (v := ?v30) rfl (by kernel_rfl) (by kernel_rfl) (by kernel_rfl) (by kernel_rfl) (by intro _ _ _ h; first | exact h | (obtain ⟨h, _⟩ := h; cases h)) (by rfl) HSS ?hy30 ?_
                  case hy30 => (intro u hu; obtain ⟨h1, h2⟩ := hu; go_simp; first | done | (with_reducible rfl))
                  (try simp only [Act.put, List.getElem_toArray, List.getElem_cons_zero, List.getElem_cons_succ, List.setIfInBounds_toArray, List.set_cons_zero, List.set_cons_succ])
                  refine wpT_take 19 (v := ?v31) rfl (by kernel_rfl) (by kernel_rfl) (by kernel_rfl) (by kernel_rfl) (by intro _ _ _ h; first | exact h | (obtain ⟨h, _⟩ := h; cases h)) (by rfl) HSS ?hy31 ?_
                  case hy31 => (intro u hu; obtain ⟨h1, h2⟩ := hu; go_simp; first | done | (with_reducible rfl))
                  (try simp only [Act.put, List.getElem_toArray, List.getElem_cons_zero, List.getElem_cons_succ, List.setIfInBounds_toArray, List.set_cons_zero, List.set_cons_succ])
                  refine wpT_take 20 (v := ?v32) rfl (by kernel_rfl) (by kernel_rfl) (by kernel_rfl) (by kernel_rfl) (by intro _ _ _ h; first | exact h | (obtain ⟨h, _⟩ := h; cases h)) (by rfl) HSS ?hy32 ?_
                  case hy32 => (intro u hu; obtain ⟨h1, h2⟩ := hu; go_simp; first | done | (with_reducible rfl))
                  (try simp only [Act.put, List.getElem_toArray, List.getElem_cons_zero, List.getElem_cons_succ, List.setIfInBounds_toArray, List.set_cons_zero, List.set_cons_succ])
                  refine wpT_done (by kernel_rfl) ?_
                  refine wpAny_take (i := 21) (v := ?w57) rfl (by kernel_rfl) (by kernel_rfl) (by kernel_rfl) (by intro _ _ _ h; first | exact h | (obtain ⟨h, _⟩ := h; cases h)) (Or.inl ⟨by rfl, ?hw57⟩) ?_
                  case hw57 => (intro w; go_simp; first | done | (with_reducible rfl))
                  (try simp only [Act.put, List.getElem_toArray, List.getElem_cons_zero, List.getElem_cons_succ, List.setIfInBounds_toArray, List.set_cons_zero, List.set_cons_succ])
                  refine wpAny_done (by kernel_rfl) ?_ _
                  clear HSS
                  go_wp2
                  go_roundg (4 - (t + 1))
                  case measure => omega
                  case rel => exact ⟨t + 1, by go_num, by have := HH4.out; omega, by omega, B2⟩
              · obtain rfl : t = 4 := by omega
                have B6 := hid hbl.out
                have HFIN : Hid (∀ u, Ext w0 u → True) := fun _ _ => trivial
                clear hbl HFIN
                by_cases hpos : 0 < c5 o
                · have hnil := OK5.out.one hpos
                  have i7 : decide ((0 : Int) < c5 o) = true := by simpa using hpos
                  have CR := hid (bl_row B6.out HO.out (by rw [hnil]; simp))
                  rw [hnil] at CR
                  clear hnil hpos
                  go_wp2_with (first | (go_at_call 10; (with_reducible refine (bl_count B6.out HO.out).mono ?_); rintro e v1 ⟨rfl, hw⟩; rw [hw]; clear hw; clear v1) | (go_at_call 11; (with_reducible refine CR.out.mono ?_); rintro e v2 ⟨p2, c2, rfl, x2, b2⟩; have B7 := hid b2; clear x2 b2))
                  go_roundg (L.length - (k + 1))
                  case measure => omega
                  case rel => exact ⟨k + 1, by go_num, by omega, by omega, c5, W5, OK5.out, B7.out.si.fewer fun _ h => h.elim⟩
                · have i7 : decide ((0 : Int) < c5 o) = false := by simpa using hpos
                  clear hpos
                  go_wp2_with (go_at_call 10; (with_reducible refine (bl_count B6.out HO.out).mono ?_); rintro e v1 ⟨rfl, hw⟩; rw [hw]; clear hw; clear v1)
                  go_roundg (L.length - (k + 1))
                  case measure => omega
                  case rel => exact ⟨k + 1, by go_num, by omega, by omega, c5, W5, OK5.out, B6.out.si.fewer fun _ h => h.elim⟩
          · have hpar' : (sw.tmod 2 == 0) = false := by simpa using hpar
            clear hpar
            have hw := HOK.out.signal HO.out
            have CW := hid (si_signal BL.out.si o)
            have HWR := hid hw
            clear hw
            generalize sigR o c W = R at *
            obtain ⟨sid, met, er, c5, W5⟩ := R
            go_wp2_with fail
            (with_reducible refine CW.out.mono ?_)
            rintro e w5 ⟨rfl, s5⟩
            have b5 : Bl w0 x c5 W5 S (stO sw si sn) (upto c 4) (upto (fun j => (W j).length) 4) w5 := BL.out.of s5
            have hok5 : Ok o (k + 1) c5 W5 := HWR.out.1
            have hsm5 := SM.out c5 W5 HWR.out.2
            have B5 := hid b5
            have OK5 := hid hok5
            have SM5 := hid hsm5
            have HLEN5 : Hid (∀ i, i < 4 → (W5 i).length ≤ 1000) := fun i hi => by
              have h1 := flat_len (r := W5) hi
              have h2 := OK5.out.len
              have h3 := HK.out
              omega
            clear b5 hok5 hsm5 CW HWR BL SM HLEN s5
            go_wp2_with fail
            go_loopg [12] 4 (fun gg v5 wz => ∃ t : Nat, v5 = .int .i64 t ∧ t ≤ 4 ∧ 4 - t ≤ gg ∧ Hid (Bl w0 x c5 W5 S (stO sw si sn) (upto c 4) (upto (fun j => (W j).length) 4) wz))
            case atStart => exact ⟨0, rfl, by omega, by omega, B5⟩
            case round =>
              obtain ⟨t, rfl, ht, hgt, hbl⟩ := hrel
              clear B5
              by_cases h4 : t < 4
              · have j2 : (t : Int) < 4 := by omega
                have HH4 := hid h4
                by_cases hto : t = o
                · have j3 : ((t : Int) != (o : Int)) = false := by simp; omega
                  have j4 : ((t : Int) == (o : Int)) = true := by simp; omega
                  clear hto
                  go_upto_region 23 with fail
                  refine wp_region_T 21 1 (fun _ => True) (by kernel_rfl) (by kernel_rfl) ?_
                  have HD0 := hid (hbl.out.ext (Ext.drew (Ext.refl _)))
                  clear hbl
                  generalize wr.drew = z0 at *
                  have HSS : True := trivial
                  refine wpT_take 0 (v := ?v33) rfl (by kernel_rfl) (by kernel_rfl) (by kernel_rfl) (by kernel_rfl) (by intro _ _ _ h; first | exact h | (obtain ⟨h, _⟩ := h; cases h)) (by rfl) HSS ?hy33 ?_
                  case hy33 => (intro u hu; go_simp; first | done | (with_reducible rfl))
                  (try simp only [Act.put, List.getElem_toArray, List.getElem_cons_zero, List.setIfInBounds_toArray, List.set_cons_zero, List.set_cons_succ])
                  refine wpT_take 1 (v := ?v34) rfl (by kernel_rfl) (by kernel_rfl) (by kernel_rfl) (by kernel_rfl) (by intro _ _ _ h; first | exact h | (obtain ⟨h, _⟩ := h; cases h)) (by rfl) HSS ?hy34 ?_
                  case hy34 => (intro u hu; go_simp; first | done | (with_reducible rfl))
                  (try simp only [Act.put, List.getElem_toArray, List.getElem_cons_zero, List.getElem_cons_succ, List.setIfInBounds_toArray, List.set_cons_zero, List.set_cons_succ])
                  refine wpT_take 2 (v := ?v35) rfl (by kernel_rfl) (by kernel_rfl) (by kernel_rfl) (by kernel_rfl) (by intro _ _ _ h; first | exact h | (obtain ⟨h, _⟩ := h; cases h)) (by rfl) HSS ?hy35 ?_
                  case hy35 => (intro u hu; go_simp; first | done | (with_reducible rfl))
                  (try simp only [Act.put, List.getElem_toArray, List.getElem_cons_zero, List.getElem_cons_succ, List.setIfInBounds_toArray, List.set_cons_zero, List.set_cons_succ])
                  refine wpT_take 3 (v := ?v36) rfl (by kernel_rfl) (by kernel_rfl) (by kernel_rfl) (by kernel_rfl) (by intro _ _ _ h; first | exact h | (obtain ⟨h, _⟩ := h; cases h)) (by rfl) HSS ?hy36 ?_
                  case hy36 => (intro u hu; go_simp; first | done | (with_reducible rfl))
                  (try simp only [Act.put, List.getElem_toArray, List.getElem_cons_zero, List.getElem_cons_succ, List.setIfInBounds_toArray, List.set_cons_zero, List.set_cons_succ])
                  refine wpT_skip 4 rfl (by kernel_rfl) (by kernel_rfl) (by kernel_rfl) (by kernel_rfl) (by intro _ _ _ h; first | exact h | (obtain ⟨h, _⟩ := h; cases h)) (by rfl) HSS ?_
                  (try simp only [Act.put, List.getElem_toArray, List.getElem_cons_zero, List.getElem_cons_succ, List.setIfInBounds_toArray, List.set_cons_zero, List.set_cons_succ])
                  refine wpT_skip 5 rfl (by kernel_rfl) (by kernel_rfl) (by kernel_rfl) (by kernel_rfl) (by intro _ _ _ h; first | exact h | (obtain ⟨h, _⟩ := h; cases h)) (by rfl) HSS ?_
                  (try simp only [Act.put, List.getElem_toArray, List.getElem_cons_zero, List.getElem_cons_succ, List.setIfInBounds_toArray, List.set_cons_zero, List.set_cons_succ])
                  refine wpT_skip 6 rfl (by kernel_rfl) (by kernel_rfl) (by kernel_rfl) (by kernel_rfl) (by intro _ _ _ h; first | exact h | (obtain ⟨h, _⟩ := h; cases h)) (by rfl) HSS ?_
                  (try simp only [Act.put, List.getElem_toArray, List.getElem_cons_zero, List.getElem_cons_succ, List.setIfInBounds_toArray, List.set_cons_zero, List.set_cons_succ])
                  refine wpT_skip 7 rfl (by kernel_rfl) (by kernel_rfl) (by kernel_rfl) (by kernel_rfl) (by intro _ _ _ h; first | exact h | (obtain ⟨h, _⟩ := h; cases h)) (by rfl) HSS ?_
                  (try simp only [Act.put, List.getElem_toArray, List.getElem_cons_zero, List.getElem_cons_succ, List.setIfInBounds_toArray, List.set_cons_zero, List.set_cons_succ])
                  refine wpT_skip 8 rfl (by kernel_rfl) (by kernel_rfl) (by kernel_rfl) (by kernel_rfl) (by intro _ _ _ h; first | exact h | (obtain ⟨h, _⟩ := h; cases h)) (by rfl) HSS ?_
                  (try simp only [Act.put, List.getElem_toArray, List.getElem_cons_zero, List.getElem_cons_succ, List.setIfInBounds_toArray, List.set_cons_zero, List.set_cons_succ])
                  refine wpT_skip 9 rfl (by kernel_rfl) (by kernel_rfl) (by kernel_rfl) (by kernel_rfl) (by intro _ _ _ h; first | exact h | (obtain ⟨h, _⟩ := h; cases h)) (by rfl) HSS ?_
                  (try simp only [Act.put, List.getElem_toArray, List.getElem_cons_zero, List.getElem_cons_succ, List.setIfInBounds_toArray, List.set_cons_zero, List.set_cons_succ])
                  refine wpT_skip 10 rfl (by kernel_rfl) (by kernel_rfl) (by kernel_rfl) (by kernel_rfl) (by intro _ _ _ h; first | exact h | (obtain ⟨h, _⟩ := h; cases h)) (by rfl) HSS ?_
                  (try simp only [Act.put, List.getElem_toArray, List.getElem_cons_zero, List.getElem_cons_succ, List.setIfInBounds_toArray, List.set_cons_zero, List.set_cons_succ])
                  refine wpT_skip 11 rfl (by kernel_rfl) (by kernel_rfl) (by kernel_rfl) (by kernel_rfl) (by intro _ _ _ h; first | exact h | (obtain ⟨h, _⟩ := h; cases h)) (by rfl) HSS ?_
                  (try simp only [Act.put, List.getElem_toArray, List.getElem_cons_zero, List.getElem_cons_succ, List.setIfInBounds_toArray, List.set_cons_zero, List.set_cons_succ])
                  refine wpT_skip 12 rfl (by kernel_rfl) (by kernel_rfl) (by kernel_rfl) (by kernel_rfl) (by intro _ _ _ h; first | exact h | (obtain ⟨h, _⟩ := h; cases h)) (by rfl) HSS ?_
                  (try simp only [Act.put, List.getElem_toArray, List.getElem_cons_zero, List.getElem_cons_succ, List.setIfInBounds_toArray, List.set_cons_zero, List.set_cons_succ])
                  refine wpT_skip 13 rfl (by kernel_rfl) (by kernel_rfl) (by kernel_rfl) (by kernel_rfl) (by intro _ _ _ h; first | exact h | (obtain ⟨h, _⟩ := h; cases h)) (by rfl) HSS ?_
                  (try simp only [Act.put, List.getElem_toArray, List.getElem_cons_zero, List.getElem_cons_succ, List.setIfInBounds_toArray, List.set_cons_zero, List.set_cons_succ])
                  refine wpT_skip 14 rfl (by kernel_rfl) (by kernel_rfl) (by kernel_rfl) (by kernel_rfl) (by intro _ _ _ h; first | exact h | (obtain ⟨h, _⟩ := h; cases h)) (by rfl) HSS ?_
                  (try simp only [Act.put, List.getElem_toArray, List.getElem_cons_zero, List.getElem_cons_succ, List.setIfInBounds_toArray, List.set_cons_zero, List.set_cons_succ])
                  refine wpT_skip 15 rfl (by kernel_rfl) (by kernel_rfl) (by kernel_rfl) (by kernel_rfl) (by intro _ _ _ h; first | exact h | (obtain ⟨h, _⟩ := h; cases h)) (by rfl) HSS ?_
                  (try simp only [Act.put, List.getElem_toArray, List.getElem_cons_zero, List.getElem_cons_succ, List.setIfInBounds_toArray, List.set_cons_zero, List.set_cons_succ])
                  refine wpT_skip 16 rfl (by kernel_rfl) (by kernel_rfl) (by kernel_rfl) (by kernel_rfl) (by intro _ _ _ h; first | exact h | (obtain ⟨h, _⟩ := h; cases h)) (by rfl) HSS ?_
                  (try simp only [Act.put, List.getElem_toArray, List.getElem_cons_zero, List.getElem_cons_succ, List.setIfInBounds_toArray, List.set_cons_zero, List.set_cons_succ])
                  refine wpT_skip 17 rfl (by kernel_rfl) (by kernel_rfl) (by kernel_rfl) (by kernel_rfl) (by intro _ _ _ h; first | exact h | (obtain ⟨h, _⟩ := h; cases h)) (by rfl) HSS ?_
                  (try simp only [Act.put, List.getElem_toArray, List.getElem_cons_zero, List.getElem_cons_succ, List.setIfInBounds_toArray, List.set_cons_zero, List.set_cons_succ])
                  refine wpT_skip 18 rfl (by kernel_rfl) (by kernel_rfl) (by kernel_rfl) (by kernel_rfl) (by intro _ _ _ h; first | exact h | (obtain ⟨h, _⟩ := h; cases h)) (by rfl) HSS ?_
                  (try simp only [Act.put, List.getElem_toArray, List.getElem_cons_zero, List.getElem_cons_succ, List.setIfInBounds_toArray, List.set_cons_zero, List.set_cons_succ])
                  refine wpT_skip 19 rfl (by kernel_rfl) (by kernel_rfl) (by kernel_rfl) (by kernel_rfl) (by intro _ _ _ h; first | exact h | (obtain ⟨h, _⟩ := h; cases h)) (by rfl) HSS ?_
                  (try simp only [Act.put, List.getElem_toArray, List.getElem_cons_zero, List.getElem_cons_succ, List.setIfInBounds_toArray, List.set_cons_zero, List.set_cons_succ])
                  refine wpT_skip 20 rfl (by kernel_rfl) (by kernel_rfl) (by kernel_rfl) (by kernel_rfl) (by intro _ _ _ h; first | exact h | (obtain ⟨h, _⟩ := h; cases h)) (by rfl) HSS ?_
                  (try simp only [Act.put, List.getElem_toArray, List.getElem_cons_zero, List.getElem_cons_succ, List.setIfInBounds_toArray, List.set_cons_zero, List.set_cons_succ])
                  refine wpT_done (by kernel_rfl) ?_
                  refine wpAny_take (i := 21) (v := ?w58) rfl (by kernel_rfl) (by kernel_rfl) (by kernel_rfl) (by intro _ _ _ h; first | exact h | (obtain ⟨h, _⟩ := h; cases h)) (Or.inl ⟨by rfl, ?hw58⟩) ?_
                  case hw58 => (intro w; go_simp; first | done | (with_reducible rfl))
                  (try simp only [Act.put, List.getElem_toArray, List.getElem_cons_zero, List.getElem_cons_succ, List.setIfInBounds_toArray, List.set_cons_zero, List.set_cons_succ])
                  refine wpAny_done (by kernel_rfl) ?_ _
                  go_wp2
                  go_roundg (4 - (t + 1))
                  case measure => omega
                  case rel => exact ⟨t + 1, by go_num, by have := HH4.out; omega, by omega, HD0⟩
                · have j3 : ((t : Int) != (o : Int)) = true := by simp; omega
                  have j4 : ((t : Int) == (o : Int)) = false := by simp; omega
                  have hs := SM5.out t h4 hto
                  clear hto
                  go_upto_region 23 with fail
                  refine wp_region_T 21 1 (fun u => u.cell? ⟨S + 1, t, none⟩ = some (.int .i64 (upto c 4 t)) ∧ u.cell? ⟨S + 1 + 1, t, none⟩ = some (.int .i64 (upto (fun j => (W j).length) 4 t))) (by kernel_rfl) (by kernel_rfl) ?_
                  have HD0 := hid (hbl.out.ext (Ext.drew (Ext.refl _)))
                  clear hbl
                  generalize wr.drew = z0 at *
                  rw [← hs.1, ← hs.2]
                  have HSS : z0.cell? ⟨S + 1, t, none⟩ = some (.int .i64 (c5 t)) ∧ z0.cell? ⟨S + 1 + 1, t, none⟩ = some (.int .i64 ((W5 t).length)) := by rw [hs.1, hs.2]; exact ⟨HD0.out.a1.cell h4, HD0.out.a2.cell h4⟩
                  have HSM := hid hs
                  clear hs
                  have q1 : (c5 t != c5 t) = false := by simp
                  have q2 : (((W5 t).length : Int) != ((W5 t).length : Int)) = false := by simp
                  refine wpT_take 0 (v := ?v37) rfl (by kernel_rfl) (by kernel_rfl) (by kernel_rfl) (by kernel_rfl) (by intro _ _ _ h; first | exact h | (obtain ⟨h, _⟩ := h; cases h)) (by rfl) HSS ?hy37 ?_
                  case hy37 => (intro u hu; obtain ⟨h1, h2⟩ := hu; go_simp; first | done | (with_reducible rfl))
                  (try simp only [Act.put, List.getElem_toArray, List.getElem_cons_zero, List.setIfInBounds_toArray, List.set_cons_zero, List.set_cons_succ])
                  refine wpT_take 1 (v := ?v38) rfl (by kernel_rfl) (by kernel_rfl) (by kernel_rfl) (by kernel_rfl) (by intro _ _ _ h; first | exact h | (obtain ⟨h, _⟩ := h; cases h)) (by rfl) HSS ?hy38 ?_
                  case hy38 => (intro u hu; obtain ⟨h1, h2⟩ := hu; go_simp; first | done | (with_reducible rfl))
                  (try simp only [Act.put, List.getElem_toArray, List.getElem_cons_zero, List.getElem_cons_succ, List.setIfInBounds_toArray, List.set_cons_zero, List.set_cons_succ])
                  refine wpT_take 2 (v := ?v39) rfl (by kernel_rfl) (by kernel_rfl) (by kernel_rfl) (by kernel_rfl) (by intro _ _ _ h; first | exact h | (obtain ⟨h, _⟩ := h; cases h)) (by rfl) HSS ?hy39 ?_
                  case hy39 => (intro u hu; obtain ⟨h1, h2⟩ := hu; go_simp; first | done | (with_reducible rfl))
                  (try simp only [Act.put, List.getElem_toArray, List.getElem_cons_zero, List.getElem_cons_succ, List.setIfInBounds_toArray, List.set_cons_zero, List.set_cons_succ])
                  refine wpT_take 3 (v := ?v40) rfl (by kernel_rfl) (by kernel_rfl) (by kernel_rfl) (by kernel_rfl) (by intro _ _ _ h; first | exact h | (obtain ⟨h, _⟩ := h; cases h)) (by rfl) HSS ?hy40 ?_
                  case hy40 => (intro u hu; obtain ⟨h1, h2⟩ := hu; go_simp; first | done | (with_reducible rfl))
                  (try simp only [Act.put, List.getElem_toArray, List.getElem_cons_zero, List.getElem_cons_succ, List.setIfInBounds_toArray, List.set_cons_zero, List.set_cons_succ])
                  refine wpT_take 4 (v := ?v41) rfl (by kernel_rfl) (by kernel_rfl) (by kernel_rfl) (by kernel_rfl) (by intro _ _ _ h; first | exact h | (obtain ⟨h, _⟩ := h; cases h)) (by rfl) HSS ?hy41 ?_
                  case hy41 => (intro u hu; obtain ⟨h1, h2⟩ := hu; go_simp; first | done | (with_reducible rfl))
                  (try simp only [Act.put, List.getElem_toArray, List.getElem_cons_zero, List.getElem_cons_succ, List.setIfInBounds_toArray, List.set_cons_zero, List.set_cons_succ])
                  refine wpT_take 5 (v := ?v42) rfl (by kernel_rfl) (by kernel_rfl) (by kernel_rfl) (by kernel_rfl) (by intro _ _ _ h; first | exact h | (obtain ⟨h, _⟩ := h; cases h)) (by rfl) HSS ?hy42 ?_
                  case hy42 => (intro u hu; obtain ⟨h1, h2⟩ := hu; go_simp; first | done | (with_reducible rfl))
                  (try simp only [Act.put, List.getElem_toArray, List.getElem_cons_zero, List.getElem_cons_succ, List.setIfInBounds_toArray, List.set_cons_zero, List.set_cons_succ])
                  refine wpT_take 7 (v := ?v43) rfl (by kernel_rfl) (by kernel_rfl) (by kernel_rfl) (by kernel_rfl) (by intro _ _ _ h; first | exact h | (obtain ⟨h, _⟩ := h; cases h)) (by rfl) HSS ?hy43 ?_
                  case hy43 => (intro u hu; obtain ⟨h1, h2⟩ := hu; go_simp; first | done | (with_reducible rfl))
                  (try simp only [Act.put, List.getElem_toArray, List.getElem_cons_zero, List.getElem_cons_succ, List.setIfInBounds_toArray, List.set_cons_zero, List.set_cons_succ])
                  refine wpT_take 8 (v := ?v44) rfl (by kernel_rfl) (by kernel_rfl) (by kernel_rfl) (by kernel_rfl) (by intro _ _ _ h; first | exact h | (obtain ⟨h, _⟩ := h; cases h)) (by rfl) HSS ?hy44 ?_
                  case hy44 => (intro u hu; obtain ⟨h1, h2⟩ := hu; go_simp; first | done | (with_reducible rfl))
                  (try simp only [Act.put, List.getElem_toArray, List.getElem_cons_zero, List.getElem_cons_succ, List.setIfInBounds_toArray, List.set_cons_zero, List.set_cons_succ])
                  refine wpT_take 9 (v := ?v45) rfl (by kernel_rfl) (by kernel_rfl) (by kernel_rfl) (by kernel_rfl) (by intro _ _ _ h; first | exact h | (obtain ⟨h, _⟩ := h; cases h)) (by rfl) HSS ?hy45 ?_
                  case hy45 => (intro u hu; obtain ⟨h1, h2⟩ := hu; go_simp; first | done | (with_reducible rfl))
                  (try simp only [Act.put, List.getElem_toArray, List.getElem_cons_zero, List.getElem_cons_succ, List.setIfInBounds_toArray, List.set_cons_zero, List.set_cons_succ])
                  refine wpT_one 6 rfl (by kernel_rfl) (by rfl) (fun K' hK => ?_)
                  go_simp
                  refine (bl_count HD0.out HH4.out).mono ?_
                  rintro e v1 ⟨rfl, hw⟩
                  rw [hw]
                  clear hw
                  clear v1
                  refine hK.out _ _ HSS ?_
                  clear hK K'
                  (try simp only [Act.put, List.getElem_toArray, List.getElem_cons_zero, List.getElem_cons_succ, List.setIfInBounds_toArray, List.set_cons_zero, List.set_cons_succ])
                  refine wpT_take 10 (v := ?v46) rfl (by kernel_rfl) (by kernel_rfl) (by kernel_rfl) (by kernel_rfl) (by intro _ _ _ h; first | exact h | (obtain ⟨h, _⟩ := h; cases h)) (by rfl) HSS ?hy46 ?_
                  case hy46 => (intro u hu; obtain ⟨h1, h2⟩ := hu; go_simp; first | done | (with_reducible rfl))
                  (try simp only [Act.put, List.getElem_toArray, List.getElem_cons_zero, List.getElem_cons_succ, List.setIfInBounds_toArray, List.set_cons_zero, List.set_cons_succ])
                  refine wpT_take 11 (v := ?v47) rfl (by kernel_rfl) (by kernel_rfl) (by kernel_rfl) (by kernel_rfl) (by intro _ _ _ h; first | exact h | (obtain ⟨h, _⟩ := h; cases h)) (by rfl) HSS ?hy47 ?_
                  case hy47 => (intro u hu; obtain ⟨h1, h2⟩ := hu; go_simp; first | done | (with_reducible rfl))
                  (try simp only [Act.put, List.getElem_toArray, List.getElem_cons_zero, List.getElem_cons_succ, List.setIfInBounds_toArray, List.set_cons_zero, List.set_cons_succ])
                  refine wpT_take 12 (v := ?v48) rfl (by kernel_rfl) (by kernel_rfl) (by kernel_rfl) (by kernel_rfl) (by intro _ _ _ h; first | exact h | (obtain ⟨h, _⟩ := h; cases h)) (by rfl) HSS ?hy48 ?_
                  case hy48 => (intro u hu; obtain ⟨h1, h2⟩ := hu; go_simp; first | done | (with_reducible rfl))
                  (try simp only [Act.put, List.getElem_toArray, List.getElem_cons_zero, List.getElem_cons_succ, List.setIfInBounds_toArray, List.set_cons_zero, List.set_cons_succ])
                  refine wpT_take 13 (v := ?v49) rfl (by kernel_rfl) (by kernel_rfl) (by kernel_rfl) (by kernel_rfl) (by intro _ _ _ h; first | exact h | (obtain ⟨h, _⟩ := h; cases h)) (by rfl) HSS ?hy49 ?_
                  case hy49 => (intro u hu; obtain ⟨h1, h2⟩ := hu; go_simp; first | done | (with_reducible rfl))
                  (try simp only [Act.put, List.getElem_toArray, List.getElem_cons_zero, List.getElem_cons_succ, List.setIfInBounds_toArray, List.set_cons_zero, List.set_cons_succ])
                  refine wpT_take 16 (v := ?v50) rfl (by kernel_rfl) (by kernel_rfl) (by kernel_rfl) (by kernel_rfl) (by intro _ _ _ h; first | exact h | (obtain ⟨h, _⟩ := h; cases h)) (by rfl) HSS ?hy50 ?_
                  case hy50 => (intro u hu; obtain ⟨h1, h2⟩ := hu; go_simp; first | done | (with_reducible rfl))
                  (try simp only [Act.put, List.getElem_toArray, List.getElem_cons_zero, List.getElem_cons_succ, List.setIfInBounds_toArray, List.set_cons_zero, List.set_cons_succ])
                  refine wpT_take 17 (v := ?v51) rfl (by kernel_rfl) (by kernel_rfl) (by kernel_rfl) (by kernel_rfl) (by intro _ _ _ h; first | exact h | (obtain ⟨h, _⟩ := h; cases h)) (by rfl) HSS ?hy51 ?_
                  case hy51 => (intro u hu; obtain ⟨h1, h2⟩ := hu; go_simp; first | done | (with_reducible rfl))
                  (try simp only [Act.put, List.getElem_toArray, List.getElem_cons_zero, List.getElem_cons_succ, List.setIfInBounds_toArray, List.set_cons_zero, List.set_cons_succ])
                  refine wpT_take 18 (v := ?v52) rfl (by kernel_rfl) (by kernel_rfl) (by kernel_rfl) (by kernel_rfl) (by intro _ _ _ h; first | exact h | (obtain ⟨h, _⟩ := h; cases h)) (by rfl) HSS ?hy52 ?_
                  case hy52 => (intro u hu; obtain ⟨h1, h2⟩ := hu; go_simp; first | done | (with_reducible rfl))
                  (try simp only [Act.put, List.getElem_toArray, List.getElem_cons_zero, List.getElem_cons_succ, List.setIfInBounds_toArray, List.set_cons_zero, List.set_cons_succ])
                  refine wpT_one 14 rfl (by kernel_rfl) (by rfl) (fun K' hK => ?_)
                  go_simp
                  refine (bl_row HD0.out HH4.out (by have := HLEN5.out t HH4.out; omega)).mono ?_
                  rintro e v2 ⟨p2, c2, rfl, x2, b2⟩
                  have B2 := hid b2
                  have hss : v2.cell? ⟨S + 1, t, none⟩ = some (.int .i64 (c5 t)) ∧ v2.cell? ⟨S + 1 + 1, t, none⟩ = some (.int .i64 ((W5 t).length)) := ⟨x2.cell HSS.1, x2.cell HSS.2⟩
                  clear HSS x2 b2 HD0
                  have HSS := hss
                  clear hss
                  refine hK.out _ _ HSS ?_
                  clear hK K'
                  (try simp only [Act.put, List.getElem_toArray, List.getElem_cons_zero, List.getElem_cons_succ, List.setIfInBounds_toArray, List.set_cons_zero, List.set_cons_succ])
                  refine wpT_take 15 (v := ?v53) rfl (by kernel_rfl) (by kernel_rfl) (by kernel_rfl) (by kernel_rfl) (by intro _ _ _ h; first | exact h | (obtain ⟨h, _⟩ := h; cases h)) (by rfl) HSS ?hy53 ?_
                  case hy53 => (intro u hu; obtain ⟨h1, h2⟩ := hu; go_simp; first | done | (with_reducible rfl))
                  (try simp only [Act.put, List.getElem_toArray, List.getElem_cons_zero, List.getElem_cons_succ, List.setIfInBounds_toArray, List.set_cons_zero, List.set_cons_succ])
                  refine wpT_take 19 (v := ?v54) rfl (by kernel_rfl) (by kernel_rfl) (by kernel_rfl) (by kernel_rfl) (by intro _ _ _ h; first | exact h | (obtain ⟨h, _⟩ := h; cases h)) (by rfl) HSS ?hy54 ?_
                  case hy54 => (intro u hu; obtain ⟨h1, h2⟩ := hu; go_simp; first | done | (with_reducible rfl))
                  (try simp only [Act.put, List.getElem_toArray, List.getElem_cons_zero, List.getElem_cons_succ, List.setIfInBounds_toArray, List.set_cons_zero, List.set_cons_succ])
                  refine wpT_take 20 (v := ?v55) rfl (by kernel_rfl) (by kernel_rfl) (by kernel_rfl) (by kernel_rfl) (by intro _ _ _ h; first | exact h | (obtain ⟨h, _⟩ := h; cases h)) (by rfl) HSS ?hy55 ?_
                  case hy55 => (intro u hu; obtain ⟨h1, h2⟩ := hu; go_simp; first | done | (with_reducible rfl))
                  (try simp only [Act.put, List.getElem_toArray, List.getElem_cons_zero, List.getElem_cons_succ, List.setIfInBounds_toArray, List.set_cons_zero, List.set_cons_succ])
                  refine wpT_done (by kernel_rfl) ?_
                  refine wpAny_take (i := 21) (v := ?w59) rfl (by kernel_rfl) (by kernel_rfl) (by kernel_rfl) (by intro _ _ _ h; first | exact h | (obtain ⟨h, _⟩ := h; cases h)) (Or.inl ⟨by rfl, ?hw59⟩) ?_
                  case hw59 => (intro w; go_simp; first | done | (with_reducible rfl))
                  (try simp only [Act.put, List.getElem_toArray, List.getElem_cons_zero, List.getElem_cons_succ, List.setIfInBounds_toArray, List.set_cons_zero, List.set_cons_succ])
                  refine wpAny_done (by kernel_rfl) ?_ _
                  clear HSS
                  go_wp2
                  go_roundg (4 - (t + 1))
                  case measure => omega
                  case rel => exact ⟨t + 1, by go_num, by have := HH4.out; omega, by omega, B2⟩
              · obtain rfl : t = 4 := by omega
                have B6 := hid hbl.out
                have HFIN : Hid (∀ u, Ext w0 u → True) := fun _ _ => trivial
                clear hbl HFIN
                by_cases hpos : 0 < c5 o
                · have hnil := OK5.out.one hpos
                  have i7 : decide ((0 : Int) < c5 o) = true := by simpa using hpos
                  have CR := hid (bl_row B6.out HO.out (by rw [hnil]; simp))
                  rw [hnil] at CR
                  clear hnil hpos
                  go_wp2_with (first | (go_at_call 10; (with_reducible refine (bl_count B6.out HO.out).mono ?_); rintro e v1 ⟨rfl, hw⟩; rw [hw]; clear hw; clear v1) | (go_at_call 11; (with_reducible refine CR.out.mono ?_); rintro e v2 ⟨p2, c2, rfl, x2, b2⟩; have B7 := hid b2; clear x2 b2))
                  go_roundg (L.length - (k + 1))
                  case measure => omega
                  case rel => exact ⟨k + 1, by go_num, by omega, by omega, c5, W5, OK5.out, B7.out.si.fewer fun _ h => h.elim⟩
                · have i7 : decide ((0 : Int) < c5 o) = false := by simpa using hpos
                  clear hpos
                  go_wp2_with (go_at_call 10; (with_reducible refine (bl_count B6.out HO.out).mono ?_); rintro e v1 ⟨rfl, hw⟩; rw [hw]; clear hw; clear v1)
                  go_roundg (L.length - (k + 1))
                  case measure => omega
                  case rel => exact ⟨k + 1, by go_num, by omega, by omega, c5, W5, OK5.out, B6.out.si.fewer fun _ h => h.elim⟩
    · have hx := hid hinv.out.choose_spec.choose_spec.2.xt
      go_wp2
      go_returns
      exact ⟨rfl, hE0.out.trans hx.out⟩
set_option linter.unusedVariables false in
set_option maxRecDepth 100000 in
theorem lifted (os : Os) (started : os.Started) (H : Type) (enc : TypeId × Value → H) :
    ReturnsInHanded {} Try.checked os 4 .any (Rows.objectApartSpec.pre6 enc Try.prog Try.f4 Rows.objectApartRow.domain false) (Rows.objectApartSpec.post enc Try.prog Try.f4 false true false false) := by
  refine returnsInHanded_of_change (C := Try.checked) Own.own started (by kernel_rfl) Try.func4
    (ChangeSpec.witness6 (enc := enc) (C := Try.checked) false ⟨#[], #[.slice none 0 0, .int .u8 0], []⟩ 8 (by kernel_rfl) (by kernel_rfl) (by kernel_rfl) (by kernel_rfl)) ?_
  intro W base args ds gs before hval0 hW hcnd _
  have hval : ∀ (j : Nat) t v, Try.f4.params[j]? = some t → args[j]? = some v → Value.okWide Try.prog W .any base t v := hval0
  have hW' := hW
  obtain ⟨p, q, hA0, hV, rfl, hfz, hnd⟩ := hW
  have hA : DataW.TrodAll enc Try.prog W 0 (fun _ => true) true Try.f4.params.toList args.toList ds p := hA0
  rw [Try.params4] at hA hval
  obtain ⟨v0, vs0, d0, ds0, p0, q0, hargs, rfl, rfl, h0, r0⟩ := trodAll_cons hA
  obtain ⟨v1, vs1, d1, ds1, p1, q1, rfl, rfl, rfl, h1, r1⟩ := trodAll_cons r0
  obtain ⟨rfl, rfl, rfl⟩ := trodAll_nil r1
  obtain rfl : args = #[v0, v1] := by cases args; simp_all
  obtain ⟨rfl, rfl⟩ := trodVars_none hV
  have k0 := h0
  have lt0 : ∀ x ∈ p0, x.block < W.heap.size := by obtain ⟨m, hm⟩ := k0; exact DataW.trod_lt m _ _ _ hm
  have k1 := h1
  have lt1 : ∀ x ∈ p1, x.block < W.heap.size := by obtain ⟨m, hm⟩ := k1; exact DataW.trod_lt m _ _ _ hm
  obtain ⟨a0, len0, cap0, rfl⟩ := okWide_slice Try.underlying36 (hval 0 36 v0 rfl rfl)
  obtain ⟨l, hl⟩ := open_stps h0
  obtain ⟨n, rfl, rfl, rfl, wn⟩ := open_int Try.underlying5 (hval 1 5 v1 rfl rfl) h1
  have bn := bounds_u8 wn
  clear hA0 hval0
  refine (walk _ l n (by omega) (by omega) W hl).mono fun e W' ⟨he, hx⟩ => ?_
  subst he
  exact ⟨_, rfl, _, _, _, [], _, [], hW', trodAll_mk1 (shut_bool Try.underlying4 _), (trodAll_cons_mk (Below.trod Own.laidOut (by kernel_rfl) (of_decide_eq_true (by kernel_rfl)) k0 hx.below lt0) (trodAll_cons_mk (Below.trod Own.laidOut (by kernel_rfl) (of_decide_eq_true (by kernel_rfl)) k1 hx.below lt1) trodAll_mk0)), rfl, hx.below.frame _, fun h => by cases h⟩

theorem proved : Rows.ObjectApartSaid :=
  OpenClaim.holds_of_wide 4 Try.f4 rfl rfl rfl rfl rfl rfl rfl ⟨rfl, rfl, rfl, rfl, rfl⟩ rfl rfl rfl rfl rfl (by kernel_rfl) Try.func4 (by kernel_rfl)
    (of_decide_eq_true (by kernel_rfl)) (by unfold Func.isWrapper; first | (rw [if_pos (by decide +kernel)]; kernel_rfl) | (rw [if_neg (by decide +kernel)]; exact ⟨rfl, rfl⟩))
    (fun os started H enc _ => lifted os started H enc)

end objectApart
end Go.Proofs.Ytoimkocjfijlkaa
