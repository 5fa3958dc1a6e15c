/- Set. -/
import Derived.Test.YtlpklkkjidaecaaTi4
import Derived.Test.YtlpklkkjidaecaaTail
import Derived.Test.YtlpklkkjidaecaaPiece
import Derived.WalkKit
import Derived.WalkSpells
import Derived.WalkLawsBesides
import Derived.Deep.RegionLaw
import Derived.Handy
import Derived.IntWalk
namespace Go.Proofs.Ytlpklkkjidaecaa
open Go.RowKit
namespace Ti
open Rw
open Go.Maps (Tidy IsMap Keyed)

def isIn (id : Int) (l : List En) : Bool := l.any fun e => e.1 == id
theorem isIn_iff {id : Int} {l : List En} : isIn id l = true ↔ ∃ e ∈ l, e.1 = id := by simp [isIn]
theorem not_in {id : Int} {l : List En} (h : isIn id l = false) : ∀ e ∈ l, e.1 ≠ id := fun e he e' => by
  rw [isIn_iff.2 ⟨e, he, e'⟩] at h
  cases h
section
variable {base x : Nat} {v m : Value} {l : List En} {D : DataW Unit} {w : World}
theorem drop_any (h : Tm base x v m l D w) (hg : Good l D) (hl : l.length ≤ 1000000) {id : Int} (hwf : wf64 id) :
    Calls Try.prog 11 #[.pointer (some ⟨x, 0, none⟩), .int .i64 id] w fun e w' => e = .returned (.bool (isIn id l)) ∧ Kept base x v m (others id l) w w' := by
  cases hi : isIn id l with
  | true =>
    obtain ⟨a, ha, rfl⟩ := isIn_iff.1 hi
    obtain ⟨i, hil, e⟩ := List.getElem_of_mem ha
    exact drop_yes h hg hl (by rw [List.getElem?_eq_getElem hil, e])
  | false =>
    refine (drop_no h hg hwf (not_in hi)).mono fun e w' ⟨a, b⟩ => ⟨a, ?_⟩
    rw [b, others_self (not_in hi)]
    exact Kept.refl h hg

/-- Behind an append to its row, the row laid in it. -/
theorem Tm.push {W w1 : World} {g c : Nat} {s : En} (h : Tm base x v m l D w) (hx : Ext w W)
    (hr : Row 51 w1 base (.slice (some ⟨g, 0, none⟩) (l.length + 1) c) (l.length + 1) (l ++ [s])) (ho : v.ownBlock = some g ∨ w.heap.size ≤ g) (hg : W.grownBy w1 v.ownBlock) :
    w1.cell? ⟨x, 0, none⟩ = some v ∧ w1.frozen? ⟨x, 0, none⟩ = false ∧ Tm base x (.slice (some ⟨g, 0, none⟩) (l.length + 1) c) m (l ++ [s]) D (w1.setCell ⟨x, 0, none⟩ (.slice (some ⟨g, 0, none⟩) (l.length + 1) c)) ∧
      Mvp (Own x v m) (Own x (.slice (some ⟨g, 0, none⟩) (l.length + 1) c) m) w (w1.setCell ⟨x, 0, none⟩ (.slice (some ⟨g, 0, none⟩) (l.length + 1) c)) := by
  have hb : w1.heap[x]? = some (.cells #[v, m] 49 (0, 0)) := by
    rw [hg.block x (Nat.lt_of_lt_of_le h.lt hx.size) (fun e => h.far e.symm), hx.below.block x h.lt]; exact h.blk
  have hm : Places w1 base m D := h.map.keep fun b hb => by
    have := (h.own b (.inr (.inr hb))).2
    rw [hg.block b (Nat.lt_of_lt_of_le this hx.size) (fun e => (h.mapFar hb).2 e.symm), hx.below.block b this]
  have hgx : g ≠ x := by
    intro e
    subst e
    exact hr.far hb (by decide) rfl
  refine ⟨by simp [World.cell?, hb], by simp [World.frozen?, hb], ⟨by rw [set_same hb]; rfl, ?_, ?_, h.bx⟩, ?_⟩
  · rw [show (l ++ [s]).length = l.length + 1 by simp]
    exact hr.keep fun k hk => Below.heap_setCell _ _ _ _ (by cases hk; simpa using hgx)
  · exact hm.keep fun b hb => Below.heap_setCell _ _ _ _ (by simpa using (h.mapFar hb).1)
  · refine Mvp.set (B := Own x (.slice (some ⟨g, 0, none⟩) (l.length + 1) c) m) ⟨hg.os.trans hx.below.os, hg.tape.trans hx.below.tape, hg.output.trans hx.below.output, Nat.le_trans hx.size hg.size, fun k hk hA => ?_, fun k hk => ?_⟩ (.inl rfl) 0 _
    · exact (hg.block k (Nat.lt_of_lt_of_le hk hx.size) (fun e => hA (.inr (.inl e.symm)))).trans (hx.below.block k hk)
    · rcases hk with rfl | hk | hk
      · exact .inl (.inl rfl)
      · cases hk
        rcases ho with h1 | h1
        · exact .inl (.inr (.inl h1))
        · exact .inr h1
      · exact .inl (.inr (.inr hk))
/-- Its map made. -/
theorem Tm.made (h : Tm base x v (.map none) l D w) : Tm base x v (.map (some w.heap.size)) l (.map []) ((w.setCell ⟨x, 1, none⟩ (.map (some w.heap.size))).alloc (.map #[] 0)) := by
  have hs : (w.setCell ⟨x, 1, none⟩ (.map (some w.heap.size))).heap.size = w.heap.size := by simp [World.setCell]
  have hx := h.lt
  refine ⟨?_, ?_, .inr ⟨w.heap.size, rfl, Nat.le_trans h.bx (Nat.le_of_lt hx), ?_⟩, h.bx⟩
  · have h1 := (Ext.alloc (Ext.refl (w.setCell ⟨x, 1, none⟩ (.map (some w.heap.size)))) (.map #[] 0)).below.block x (by rw [hs]; exact hx)
    rw [h1, set_same h.blk]; rfl
  · refine h.row.keep fun g hg => ?_
    have hgl := (h.own g (.inr (.inl hg))).2
    rw [(Ext.alloc (Ext.refl (w.setCell ⟨x, 1, none⟩ (.map (some w.heap.size)))) (.map #[] 0)).below.block g (by rw [hs]; exact hgl)]
    exact Below.heap_setCell _ _ _ _ (fun e => h.far (by rw [hg]; exact congrArg some e))
  · have := World.ownsMap_made (H := Unit) (w.setCell ⟨x, 1, none⟩ (.map (some w.heap.size))) Try.prog 3 (plainElem Try.prog 3)
    rw [hs] at this
    exact this
theorem made_mv {u : Value} : Mvp (Own x v (.map none)) (Own x v (.map (some w.heap.size))) w ((w.setCell ⟨x, 1, none⟩ u).alloc (.map #[] 0)) := by
  have h := ((Mvp.refl (Own x v (.map none)) w).set (g := x) (.inl rfl) 1 u).ext (Ext.alloc (Ext.refl _) (.map #[] 0))
  refine ⟨h.os, h.tape, h.output, h.size, h.block, fun k hk => ?_⟩
  rcases hk with hk | hk | hk
  · exact .inl (.inl hk)
  · exact .inl (.inr (.inl hk))
  · cases hk; exact .inr (Nat.le_refl _)

def put (id until_ : Int) (l : List En) : List En := (id, until_) :: others id l
/-- settle, of one more at the end. -/
theorem settle_last {g c b : Nat} {s : En} (h : Tm base x (.slice (some ⟨g, 0, none⟩) (l.length + 1) c) (.map (some b)) (l ++ [s]) D w) (hg : Good l D) (hl : l.length ≤ 999999) (hs : ∀ e ∈ l, e.1 ≠ s.1) (hw : wf64 s.1) :
    Calls Try.prog 20 #[.pointer (some ⟨x, 0, none⟩), .int .i64 l.length, entV s] w fun e w' => e = .returned (.tuple #[]) ∧ Kept base x (.slice (some ⟨g, 0, none⟩) (l.length + 1) c) (.map (some b)) (s :: l) w w' := by
  have e1 : (l ++ [s]).set l.length s = l ++ [s] := by simp
  have hA : Apart (l ++ [s]) := by
    refine Apart.perm (l := s :: l) ?_ (List.perm_append_singleton s l).symm
    simp only [Apart, List.map_cons, List.nodup_cons]
    exact ⟨fun e => by obtain ⟨y, h1, h2⟩ := List.mem_map.1 e; exact hs y h1 h2, hg.apart⟩
  have hW : ∀ e ∈ l ++ [s], wf64 e.1 := fun e he => by
    rcases List.mem_append.1 he with h1 | h1
    · exact hg.wf e h1
    · rw [List.mem_singleton.1 h1]; exact hw
  refine (settle_any h s (by simp) (by simp; omega) (hg.heap.snoc s) (hg.full.snoc (hg.absent hs)) (by rw [e1]; exact hA) (by rw [e1]; exact hW)).mono fun e w' ⟨r, l2, D2, t2, hh, hf, ha2, hp2, hl2, hm2⟩ => ⟨r, _, _, l2, D2, t2, ⟨hh, hf, ha2, fun e he => hW e (by rw [e1] at hp2; exact hp2.mem_iff.1 he)⟩, ?_, hm2⟩
  rw [e1] at hp2
  exact hp2.trans (List.perm_append_singleton s l)

def SetM (base x B : Nat) (id until_ : Int) (l : List En) (v m : Value) (D : DataW Unit) (w : World) (a' : Act) (w' : World) : Prop :=
  ∃ (g c : Nat) (u3 u4 u5 u7 u8 u9 u10 u11 u12 u13 u14 u15 u16 u17 u18 u19 u20 u21 u22 u23 u24 u25 u26 u27 u28 u29 u30 u31 u32 u33 u34 u35 u36 u37 u38 u39 u40 : Value), a' = { tmps := #[.pointer (some ⟨x, 0, none⟩), .int .i64 id, .int .i64 until_, u3, u4, u5, .pointer (some ⟨B, 0, none⟩), u7, u8, u9, u10, u11, u12, u13, u14, u15, u16, u17, u18, u19, u20, u21, u22, u23, u24, u25, u26, u27, u28, u29, u30, u31, u32, u33, u34, u35, u36, u37, u38, u39, u40], defers := [] } ∧
    Tm base x (.slice (some ⟨g, 0, none⟩) (l.length + 1) c) m (l ++ [(id, until_)]) D w' ∧ Mvp (Own x v m) (Own x (.slice (some ⟨g, 0, none⟩) (l.length + 1) c) m) w w' ∧ w'.heap[B]? = some (.cells #[.int .i64 id, .int .i64 until_] 51 (0, 0))
set_option maxRecDepth 100000 in
set_option maxHeartbeats 4000000 in
theorem set_any (h : Tm base x v m l D w) (hg : Good l D) (hl : l.length ≤ 999998) {id until_ : Int} (hwf : wf64 id) :
    Calls Try.prog 9 #[.pointer (some ⟨x, 0, none⟩), .int .i64 id, .int .i64 until_] w fun e w' => e = .returned (.tuple #[]) ∧ Kept base x v m (put id until_ l) w w' := by
  have CD := hid (drop_any h hg (by omega) hwf)
  have hx0 := h.lt
  have HL := hid hl
  clear h hg hl
  go_enter Try.func9, Try.ntmps9
  go_wp2_with fail
  refine CD.out.mono ?_
  rintro e w1 ⟨rfl, h1⟩
  obtain ⟨v1, m1, l1, D1, T1, G1, P1, M1⟩ := h1
  have hno : ∀ e ∈ l1, e.1 ≠ id := fun e he => (mem_others.1 (P1.mem_iff.1 he)).2
  have hl1 : l1.length ≤ 999998 := by
    have := P1.length_eq
    have := List.length_filter_le (fun e : En => e.1 != id) l
    have := HL.out
    unfold others at *
    omega
  obtain ⟨-, c1, -, f1⟩ := T1.cells
  have hx1 := T1.lt
  have HP1 := hid P1
  have HM1 := hid M1
  have HNO := hid hno
  have HL1 := hid hl1
  have HG1 := hid G1
  have hmm := @run_makeMap Try.prog
  have qT : ∀ (w : World) (r : Option Nat), (binOp .eql 47 (.map r) (.map none)).run Try.prog w = .ok (.bool r.isNone) w := fun w r => run_eql_map_nil w _ _ _ r Try.underlying47
  clear CD HL P1 M1 hno hl1 G1
  rcases T1.map with ⟨rfl, rfl⟩ | ⟨b, rfl, -, -⟩
  · have T2 := hid T1.made
    have M2 := hid (made_mv (x := x) (v := v1) (w := w1) (u := .map (some w1.heap.size)))
    clear T1
    go_wp2_with fail
    have hB : w1.heap.size + 1 = ((w1.setCell ⟨x, 1, none⟩ (.map (some w1.heap.size))).alloc (.map #[] 0)).heap.size := by simp [World.setCell]
    generalize (w1.setCell ⟨x, 1, none⟩ (.map (some w1.heap.size))).alloc (.map #[] 0) = w2 at *
    generalize w1.heap.size + 1 = B at *
    have G2 := HG1
    have X3 : Ext w2 (w2.alloc (.cells #[.int .i64 id, .int .i64 until_] 51)) := Ext.alloc (Ext.refl w2) _
    have b0 : (w2.alloc (.cells #[.int .i64 id, .int .i64 until_] 51)).heap[B]? = some (.cells #[.int .i64 id, .int .i64 until_] 51 (0, 0)) := by rw [hB]; exact heap_alloc_new w2 _
    generalize w2.alloc (.cells #[.int .i64 id, .int .i64 until_] 51) = w3 at *
    have T3 := hid (T2.out.ext X3)
    have k0 : w3.cell? ⟨B, 0, none⟩ = some (.int .i64 id) := by simp [World.cell?, b0]
    have k1 : w3.cell? ⟨B, 1, none⟩ = some (.int .i64 until_) := by simp [World.cell?, b0]
    have B0 := hid b0
    obtain ⟨c0, -, f0, -⟩ := T3.out.cells
    have hx3 : x < w3.heap.size := T3.out.lt
    have hB3 : B < w3.heap.size := lt_blk b0
    have NB : Hid (¬ Own x v1 _ B) := fun e => absurd (T2.out.own _ e).2 (by omega)
    have HB := hid hB
    clear b0 hB c1 f1
    refine wp_meetQ (SetM base x B id until_ l1 v1 (.map (some w1.heap.size)) (.map []) w3) ?_ ?_
    · go_region_law (refine step_push_row Try.underlying46 enT (w := w3.drew) rfl (.tmp 26) (.tmp 28) rfl (id, until_) (rest := []) (by rw [List.append_nil]; exact T3.out.row) (by have := HL1.out; omega) (by simp [Act.eval]) (nb := w3.heap.size) (by simp [Act.eval]) (by rfl) (by have := T3.out.bx; simp; omega) (by rfl) ?_; intro g c w4 hr1 ho1 hg1 hs1; clear hs1; obtain ⟨q0, qf, hI, hM⟩ := T3.out.push (s := (id, until_)) (Ext.alloc (Ext.drew (Ext.refl w3)) _) hr1 ho1 hg1)
      all_goals
        exact ⟨g, c, _, _, _, _, _, _, _, _, _, _, _, _, _, _, _, _, _, _, _, _, _, _, _, _, _, _, _, _, _, _, _, _, _, _, _, _, _, rfl, hI, hM, hM.blk B0.out (fun e => NB.out e)⟩
    refine fun a5 w5 => ex_elim fun g => ex_elim fun c => ex_elim fun u3 => ex_elim fun u4 => ex_elim fun u5 => ex_elim fun u7 => ex_elim fun u8 => ex_elim fun u9 => ex_elim fun u10 => ex_elim fun u11 => ex_elim fun u12 => ex_elim fun u13 => ex_elim fun u14 => ex_elim fun u15 => ex_elim fun u16 => ex_elim fun u17 => ex_elim fun u18 => ex_elim fun u19 => ex_elim fun u20 => ex_elim fun u21 => ex_elim fun u22 => ex_elim fun u23 => ex_elim fun u24 => ex_elim fun u25 => ex_elim fun u26 => ex_elim fun u27 => ex_elim fun u28 => ex_elim fun u29 => ex_elim fun u30 => ex_elim fun u31 => ex_elim fun u32 => ex_elim fun u33 => ex_elim fun u34 => ex_elim fun u35 => ex_elim fun u36 => ex_elim fun u37 => ex_elim fun u38 => ex_elim fun u39 => ex_elim fun u40 => ?_
    rintro ⟨rfl, tP, mP, b5⟩
    have TP := hid tP
    have MP := hid mP
    clear tP mP c0 f0 k0 k1 hmm qT
    simp only [Exit.then]
    refine ‹∀ (a : Act) (w : World), Code.wp _ _ _ a w → _› _ _ ?_
    obtain ⟨c0, -, -, -⟩ := TP.out.cells
    have k0 : w5.cell? ⟨B, 0, none⟩ = some (.int .i64 id) := by simp [World.cell?, b5]
    have k1 : w5.cell? ⟨B, 1, none⟩ = some (.int .i64 until_) := by simp [World.cell?, b5]
    have e1 : IntKind.i64.wrap (l1.length : Int) = (l1.length : Int) := IntWalk.i64_in _ (by have := HL1.out; omega)
    have CS := hid (settle_last (TP.out.ext (Ext.drew (Ext.refl _))) G2.out (by have := HL1.out; omega) HNO.out hwf)
    go_wp2_with fail
    refine wp_region_T 8 1 (fun u => u.cell? ⟨x, 0, none⟩ = some (.slice (some ⟨g, 0, none⟩) (l1.length + 1) c) ∧ u.cell? ⟨B, 0, none⟩ = some (.int .i64 id) ∧ u.cell? ⟨B, 1, none⟩ = some (.int .i64 until_)) (by kernel_rfl) (by kernel_rfl) ?_
    have HSS : w5.drew.cell? ⟨x, 0, none⟩ = some (.slice (some ⟨g, 0, none⟩) (l1.length + 1) c) ∧ w5.drew.cell? ⟨B, 0, none⟩ = some (.int .i64 id) ∧ w5.drew.cell? ⟨B, 1, none⟩ = some (.int .i64 until_) := ⟨c0, k0, k1⟩
    refine wpT_take 0 (v := ?v8) rfl (by kernel_rfl) (by kernel_rfl) (by kernel_rfl) (by kernel_rfl) (by intro _ _ _ h; first | exact h | (obtain ⟨h, _⟩ := h; cases h)) (by rfl) HSS ?hy8 ?_
    case hy8 => (intro u hu; obtain ⟨h1, h2, h3⟩ := hu; go_simp; first | done | (with_reducible rfl))
    (try simp only [Act.put, List.getElem_toArray, List.getElem_cons_zero, List.setIfInBounds_toArray, List.set_cons_zero, List.set_cons_succ])
    refine wpT_take 1 (v := ?v9) rfl (by kernel_rfl) (by kernel_rfl) (by kernel_rfl) (by kernel_rfl) (by intro _ _ _ h; first | exact h | (obtain ⟨h, _⟩ := h; cases h)) (by rfl) HSS ?hy9 ?_
    case hy9 => (intro u hu; obtain ⟨h1, h2, h3⟩ := hu; go_simp; first | done | (with_reducible rfl))
    (try simp only [Act.put, List.getElem_toArray, List.getElem_cons_zero, List.getElem_cons_succ, List.setIfInBounds_toArray, List.set_cons_zero, List.set_cons_succ])
    refine wpT_take 2 (v := ?v10) rfl (by kernel_rfl) (by kernel_rfl) (by kernel_rfl) (by kernel_rfl) (by intro _ _ _ h; first | exact h | (obtain ⟨h, _⟩ := h; cases h)) (by rfl) HSS ?hy10 ?_
    case hy10 => (intro u hu; obtain ⟨h1, h2, h3⟩ := hu; go_simp; first | done | (with_reducible rfl))
    (try simp only [Act.put, List.getElem_toArray, List.getElem_cons_zero, List.getElem_cons_succ, List.setIfInBounds_toArray, List.set_cons_zero, List.set_cons_succ])
    refine wpT_take 3 (v := ?v11) rfl (by kernel_rfl) (by kernel_rfl) (by kernel_rfl) (by kernel_rfl) (by intro _ _ _ h; first | exact h | (obtain ⟨h, _⟩ := h; cases h)) (by rfl) HSS ?hy11 ?_
    case hy11 => (intro u hu; obtain ⟨h1, h2, h3⟩ := hu; go_simp; first | done | (with_reducible rfl))
    (try simp only [Act.put, List.getElem_toArray, List.getElem_cons_zero, List.getElem_cons_succ, List.setIfInBounds_toArray, List.set_cons_zero, List.set_cons_succ])
    refine wpT_take 4 (v := ?v12) rfl (by kernel_rfl) (by kernel_rfl) (by kernel_rfl) (by kernel_rfl) (by intro _ _ _ h; first | exact h | (obtain ⟨h, _⟩ := h; cases h)) (by rfl) HSS ?hy12 ?_
    case hy12 => (intro u hu; obtain ⟨h1, h2, h3⟩ := hu; go_simp; first | done | (with_reducible rfl))
    (try simp only [Act.put, List.getElem_toArray, List.getElem_cons_zero, List.getElem_cons_succ, List.setIfInBounds_toArray, List.set_cons_zero, List.set_cons_succ])
    refine wpT_take 5 (v := ?v13) rfl (by kernel_rfl) (by kernel_rfl) (by kernel_rfl) (by kernel_rfl) (by intro _ _ _ h; first | exact h | (obtain ⟨h, _⟩ := h; cases h)) (by rfl) HSS ?hy13 ?_
    case hy13 => (intro u hu; obtain ⟨h1, h2, h3⟩ := hu; go_simp; first | done | (with_reducible rfl))
    (try simp only [Act.put, List.getElem_toArray, List.getElem_cons_zero, List.getElem_cons_succ, List.setIfInBounds_toArray, List.set_cons_zero, List.set_cons_succ])
    refine wpT_take 6 (v := ?v14) rfl (by kernel_rfl) (by kernel_rfl) (by kernel_rfl) (by kernel_rfl) (by intro _ _ _ h; first | exact h | (obtain ⟨h, _⟩ := h; cases h)) (by rfl) HSS ?hy14 ?_
    case hy14 => (intro u hu; obtain ⟨h1, h2, h3⟩ := hu; go_simp; first | done | (with_reducible rfl))
    (try simp only [Act.put, List.getElem_toArray, List.getElem_cons_zero, List.getElem_cons_succ, List.setIfInBounds_toArray, List.set_cons_zero, List.set_cons_succ])
    refine wpT_take 7 (v := ?v15) rfl (by kernel_rfl) (by kernel_rfl) (by kernel_rfl) (by kernel_rfl) (by intro _ _ _ h; first | exact h | (obtain ⟨h, _⟩ := h; cases h)) (by rfl) HSS ?hy15 ?_
    case hy15 => (intro u hu; obtain ⟨h1, h2, h3⟩ := hu; go_simp; first | done | (with_reducible rfl))
    (try simp only [Act.put, List.getElem_toArray, List.getElem_cons_zero, List.getElem_cons_succ, List.setIfInBounds_toArray, List.set_cons_zero, List.set_cons_succ])
    refine wpT_done (by kernel_rfl) ?_
    refine wpAny_one 8 rfl (by kernel_rfl) (by rfl) (fun K' hK => ?_)
    go_simp
    (with_reducible refine CS.out.mono ?_)
    rintro e w6 ⟨rfl, v6, m6, l6, D6, t6, g6, p6, m6'⟩
    refine hK.out _ _ ?_
    refine wpAny_done (by kernel_rfl) ?_ _
    go_returns
    refine ⟨rfl, v6, m6, l6, D6, t6, g6, p6.trans ((List.Perm.cons _ HP1.out)), ?_⟩
    exact HM1.out.trans (M2.out.trans (Mvp.ahead X3 (MP.out.trans (Mvp.ahead (Ext.drew (Ext.refl _)) m6'))))
  · have T2 := hid T1
    have M2 := hid (Mvp.refl (Own x v1 (.map (some b))) w1)
    clear T1
    go_wp2_with fail
    generalize w1 = w2 at *
    obtain ⟨B, hB⟩ : ∃ B, B = w2.heap.size := ⟨_, rfl⟩
    rw [← hB]
    have G2 := HG1
    have X3 : Ext w2 (w2.alloc (.cells #[.int .i64 id, .int .i64 until_] 51)) := Ext.alloc (Ext.refl w2) _
    have b0 : (w2.alloc (.cells #[.int .i64 id, .int .i64 until_] 51)).heap[B]? = some (.cells #[.int .i64 id, .int .i64 until_] 51 (0, 0)) := by rw [hB]; exact heap_alloc_new w2 _
    generalize w2.alloc (.cells #[.int .i64 id, .int .i64 until_] 51) = w3 at *
    have T3 := hid (T2.out.ext X3)
    have k0 : w3.cell? ⟨B, 0, none⟩ = some (.int .i64 id) := by simp [World.cell?, b0]
    have k1 : w3.cell? ⟨B, 1, none⟩ = some (.int .i64 until_) := by simp [World.cell?, b0]
    have B0 := hid b0
    obtain ⟨c0, -, f0, -⟩ := T3.out.cells
    have hx3 : x < w3.heap.size := T3.out.lt
    have hB3 : B < w3.heap.size := lt_blk b0
    have NB : Hid (¬ Own x v1 _ B) := fun e => absurd (T2.out.own _ e).2 (by omega)
    have HB := hid hB
    clear b0 hB c1 f1
    refine wp_meetQ (SetM base x B id until_ l1 v1 (.map (some b)) D1 w3) ?_ ?_
    · go_region_law (refine step_push_row Try.underlying46 enT (w := w3.drew) rfl (.tmp 26) (.tmp 28) rfl (id, until_) (rest := []) (by rw [List.append_nil]; exact T3.out.row) (by have := HL1.out; omega) (by simp [Act.eval]) (nb := w3.heap.size) (by simp [Act.eval]) (by rfl) (by have := T3.out.bx; simp; omega) (by rfl) ?_; intro g c w4 hr1 ho1 hg1 hs1; clear hs1; obtain ⟨q0, qf, hI, hM⟩ := T3.out.push (s := (id, until_)) (Ext.alloc (Ext.drew (Ext.refl w3)) _) hr1 ho1 hg1)
      all_goals
        exact ⟨g, c, _, _, _, _, _, _, _, _, _, _, _, _, _, _, _, _, _, _, _, _, _, _, _, _, _, _, _, _, _, _, _, _, _, _, _, _, _, rfl, hI, hM, hM.blk B0.out (fun e => NB.out e)⟩
    refine fun a5 w5 => ex_elim fun g => ex_elim fun c => ex_elim fun u3 => ex_elim fun u4 => ex_elim fun u5 => ex_elim fun u7 => ex_elim fun u8 => ex_elim fun u9 => ex_elim fun u10 => ex_elim fun u11 => ex_elim fun u12 => ex_elim fun u13 => ex_elim fun u14 => ex_elim fun u15 => ex_elim fun u16 => ex_elim fun u17 => ex_elim fun u18 => ex_elim fun u19 => ex_elim fun u20 => ex_elim fun u21 => ex_elim fun u22 => ex_elim fun u23 => ex_elim fun u24 => ex_elim fun u25 => ex_elim fun u26 => ex_elim fun u27 => ex_elim fun u28 => ex_elim fun u29 => ex_elim fun u30 => ex_elim fun u31 => ex_elim fun u32 => ex_elim fun u33 => ex_elim fun u34 => ex_elim fun u35 => ex_elim fun u36 => ex_elim fun u37 => ex_elim fun u38 => ex_elim fun u39 => ex_elim fun u40 => ?_
    rintro ⟨rfl, tP, mP, b5⟩
    have TP := hid tP
    have MP := hid mP
    clear tP mP c0 f0 k0 k1 hmm qT
    simp only [Exit.then]
    refine ‹∀ (a : Act) (w : World), Code.wp _ _ _ a w → _› _ _ ?_
    obtain ⟨c0, -, -, -⟩ := TP.out.cells
    have k0 : w5.cell? ⟨B, 0, none⟩ = some (.int .i64 id) := by simp [World.cell?, b5]
    have k1 : w5.cell? ⟨B, 1, none⟩ = some (.int .i64 until_) := by simp [World.cell?, b5]
    have e1 : IntKind.i64.wrap (l1.length : Int) = (l1.length : Int) := IntWalk.i64_in _ (by have := HL1.out; omega)
    have CS := hid (settle_last (TP.out.ext (Ext.drew (Ext.refl _))) G2.out (by have := HL1.out; omega) HNO.out hwf)
    go_wp2_with fail
    refine wp_region_T 8 1 (fun u => u.cell? ⟨x, 0, none⟩ = some (.slice (some ⟨g, 0, none⟩) (l1.length + 1) c) ∧ u.cell? ⟨B, 0, none⟩ = some (.int .i64 id) ∧ u.cell? ⟨B, 1, none⟩ = some (.int .i64 until_)) (by kernel_rfl) (by kernel_rfl) ?_
    have HSS : w5.drew.cell? ⟨x, 0, none⟩ = some (.slice (some ⟨g, 0, none⟩) (l1.length + 1) c) ∧ w5.drew.cell? ⟨B, 0, none⟩ = some (.int .i64 id) ∧ w5.drew.cell? ⟨B, 1, none⟩ = some (.int .i64 until_) := ⟨c0, k0, k1⟩
    refine wpT_take 0 (v := ?v16) rfl (by kernel_rfl) (by kernel_rfl) (by kernel_rfl) (by kernel_rfl) (by intro _ _ _ h; first | exact h | (obtain ⟨h, _⟩ := h; cases h)) (by rfl) HSS ?hy16 ?_
    case hy16 => (intro u hu; obtain ⟨h1, h2, h3⟩ := hu; go_simp; first | done | (with_reducible rfl))
    (try simp only [Act.put, List.getElem_toArray, List.getElem_cons_zero, List.setIfInBounds_toArray, List.set_cons_zero, List.set_cons_succ])
    refine wpT_take 1 (v := ?v17) rfl (by kernel_rfl) (by kernel_rfl) (by kernel_rfl) (by kernel_rfl) (by intro _ _ _ h; first | exact h | (obtain ⟨h, _⟩ := h; cases h)) (by rfl) HSS ?hy17 ?_
    case hy17 => (intro u hu; obtain ⟨h1, h2, h3⟩ := hu; go_simp; first | done | (with_reducible rfl))
    (try simp only [Act.put, List.getElem_toArray, List.getElem_cons_zero, List.getElem_cons_succ, List.setIfInBounds_toArray, List.set_cons_zero, List.set_cons_succ])
    refine wpT_take 2 (v := ?v18) rfl (by kernel_rfl) (by kernel_rfl) (by kernel_rfl) (by kernel_rfl) (by intro _ _ _ h; first | exact h | (obtain ⟨h, _⟩ := h; cases h)) (by rfl) HSS ?hy18 ?_
    case hy18 => (intro u hu; obtain ⟨h1, h2, h3⟩ := hu; go_simp; first | done | (with_reducible rfl))
    (try simp only [Act.put, List.getElem_toArray, List.getElem_cons_zero, List.getElem_cons_succ, List.setIfInBounds_toArray, List.set_cons_zero, List.set_cons_succ])
    refine wpT_take 3 (v := ?v19) rfl (by kernel_rfl) (by kernel_rfl) (by kernel_rfl) (by kernel_rfl) (by intro _ _ _ h; first | exact h | (obtain ⟨h, _⟩ := h; cases h)) (by rfl) HSS ?hy19 ?_
    case hy19 => (intro u hu; obtain ⟨h1, h2, h3⟩ := hu; go_simp; first | done | (with_reducible rfl))
    (try simp only [Act.put, List.getElem_toArray, List.getElem_cons_zero, List.getElem_cons_succ, List.setIfInBounds_toArray, List.set_cons_zero, List.set_cons_succ])
    refine wpT_take 4 (v := ?v20) rfl (by kernel_rfl) (by kernel_rfl) (by kernel_rfl) (by kernel_rfl) (by intro _ _ _ h; first | exact h | (obtain ⟨h, _⟩ := h; cases h)) (by rfl) HSS ?hy20 ?_
    case hy20 => (intro u hu; obtain ⟨h1, h2, h3⟩ := hu; go_simp; first | done | (with_reducible rfl))
    (try simp only [Act.put, List.getElem_toArray, List.getElem_cons_zero, List.getElem_cons_succ, List.setIfInBounds_toArray, List.set_cons_zero, List.set_cons_succ])
    refine wpT_take 5 (v := ?v21) rfl (by kernel_rfl) (by kernel_rfl) (by kernel_rfl) (by kernel_rfl) (by intro _ _ _ h; first | exact h | (obtain ⟨h, _⟩ := h; cases h)) (by rfl) HSS ?hy21 ?_
    case hy21 => (intro u hu; obtain ⟨h1, h2, h3⟩ := hu; go_simp; first | done | (with_reducible rfl))
    (try simp only [Act.put, List.getElem_toArray, List.getElem_cons_zero, List.getElem_cons_succ, List.setIfInBounds_toArray, List.set_cons_zero, List.set_cons_succ])
    refine wpT_take 6 (v := ?v22) rfl (by kernel_rfl) (by kernel_rfl) (by kernel_rfl) (by kernel_rfl) (by intro _ _ _ h; first | exact h | (obtain ⟨h, _⟩ := h; cases h)) (by rfl) HSS ?hy22 ?_
    case hy22 => (intro u hu; obtain ⟨h1, h2, h3⟩ := hu; go_simp; first | done | (with_reducible rfl))
    (try simp only [Act.put, List.getElem_toArray, List.getElem_cons_zero, List.getElem_cons_succ, List.setIfInBounds_toArray, List.set_cons_zero, List.set_cons_succ])
    refine wpT_take 7 (v := ?v23) rfl (by kernel_rfl) (by kernel_rfl) (by kernel_rfl) (by kernel_rfl) (by intro _ _ _ h; first | exact h | (obtain ⟨h, _⟩ := h; cases h)) (by rfl) HSS ?hy23 ?_
    case hy23 => (intro u hu; obtain ⟨h1, h2, h3⟩ := hu; go_simp; first | done | (with_reducible rfl))
    (try simp only [Act.put, List.getElem_toArray, List.getElem_cons_zero, List.getElem_cons_succ, List.setIfInBounds_toArray, List.set_cons_zero, List.set_cons_succ])
    refine wpT_done (by kernel_rfl) ?_
    refine wpAny_one 8 rfl (by kernel_rfl) (by rfl) (fun K' hK => ?_)
    go_simp
    (with_reducible refine CS.out.mono ?_)
    rintro e w6 ⟨rfl, v6, m6, l6, D6, t6, g6, p6, m6'⟩
    refine hK.out _ _ ?_
    refine wpAny_done (by kernel_rfl) ?_ _
    go_returns
    refine ⟨rfl, v6, m6, l6, D6, t6, g6, p6.trans ((List.Perm.cons _ HP1.out)), ?_⟩
    exact HM1.out.trans (M2.out.trans (Mvp.ahead X3 (MP.out.trans (Mvp.ahead (Ext.drew (Ext.refl _)) m6'))))
end
end Ti
end Go.Proofs.Ytlpklkkjidaecaa
