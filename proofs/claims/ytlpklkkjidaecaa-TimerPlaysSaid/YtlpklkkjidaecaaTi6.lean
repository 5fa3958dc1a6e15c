/- Due. -/
import Derived.Test.YtlpklkkjidaecaaTi5
import Derived.Test.YtlpklkkjidaecaaSort
import Derived.Sort.OwnSortedInts
import Derived.Maps.AppendAt
import Derived.WalkKit
import Derived.WalkSpells
import Derived.WalkLawsBesides
import Derived.OwnWalk
import Derived.Handy
namespace Go.Proofs.Ytlpklkkjidaecaa
open Go.RowKit

theorem Mvp.beside {A B : Nat → Prop} {w w1 w2 : World} {b : Option Nat} (h : Mvp A B w w1) (k : w1.grownBy w2 b) (hb : ∀ i, b = some i → w.heap.size ≤ i) : Mvp A B w w2 :=
  ⟨k.os.trans h.os, k.tape.trans h.tape, k.output.trans h.output, Nat.le_trans h.size k.size,
    fun i hi hA => (k.block i (Nat.lt_of_lt_of_le hi h.size) fun e => absurd (hb i e.symm) (by omega)).trans (h.block i hi hA), h.own⟩
theorem infoI : (Try.prog.info? 3).map (fun i => (i.zero, i.size, i.bytes)) = some (some (.int .i64 0), 1, 8) := by kernel_rfl
/-- A row owned is kept by what doesn't touch its block. -/
theorem owns_keep {w w' : World} {base T n m : Nat} {v : Value} {xs : List Value} (h : w.ownsRow base T n v m xs) (k : ∀ g, v.ownBlock = some g → w'.heap[g]? = w.heap[g]?) : w'.ownsRow base T n v m xs := by
  refine ⟨h.1, ?_⟩
  rcases h.2 with hn | ⟨g, cap, cur, e1, e2, e3, r⟩
  · exact .inl hn
  · exact .inr ⟨g, cap, cur, e1, e2, by rw [k g (by rw [e1]; rfl)]; exact e3, r⟩
theorem owns_below {w : World} {base T n m : Nat} {v : Value} {xs : List Value} (h : w.ownsRow base T n v m xs) : ∀ g, v.ownBlock = some g → base ≤ g ∧ g < w.heap.size := by
  intro g hg
  rcases h.2 with ⟨rfl, _⟩ | ⟨g', cap, cur, rfl, e2, e3, _⟩
  · cases hg
  · simp only [Value.ownBlock, Option.some.injEq] at hg
    subst hg
    exact ⟨e2, lt_blk e3⟩

namespace Ti
open Rw
open Go.Maps (Tidy IsMap Keyed)

/-- Whose time has come; who sleeps on; the ids in their order. -/
def isDue (tick : Int) (l : List En) : List En := l.filter fun e => decide (e.2 ≤ tick)
def sleepOn (tick : Int) (l : List En) : List En := l.filter fun e => !decide (e.2 ≤ tick)
abbrev sortI (l : List Int) : List Int := l.mergeSort fun x y => decide (x ≤ y)
def dueIds (tick : Int) (l : List En) : List Int := sortI ((isDue tick l).map (·.1))
theorem sortI_perm {a b : List Int} (h : a.Perm b) : sortI a = sortI b := by
  have tr : ∀ (x y z : Int), decide (x ≤ y) = true → decide (y ≤ z) = true → decide (x ≤ z) = true := fun x y z h1 h2 => by simp at h1 h2 ⊢; omega
  have tt : ∀ (x y : Int), (decide (x ≤ y) || decide (y ≤ x)) = true := fun x y => by simp; omega
  have s1 := List.pairwise_mergeSort tr tt a
  have s2 := List.pairwise_mergeSort tr tt b
  refine List.Perm.eq_of_pairwise (le := fun x y => decide (x ≤ y) = true) (fun x y _ _ h1 h2 => by simp at h1 h2; omega) s1 s2 ?_
  exact ((List.mergeSort_perm a _).trans h).trans (List.mergeSort_perm b _).symm

/-- Ahead of each look: who was taken was due. -/
structure Taken (tick : Int) (l0 tk l : List En) : Prop where
  perm : (tk ++ l).Perm l0
  due : ∀ e ∈ tk, e.2 ≤ tick
theorem Taken.start (tick : Int) (l : List En) : Taken tick l [] l := ⟨List.Perm.refl _, fun e h => by cases h⟩
theorem Taken.step {tick : Int} {l0 tk l m : List En} {a : En} (H : Taken tick l0 tk l) (hA : Apart l) (ha : a ∈ l) (hd : a.2 ≤ tick) (hm : m.Perm (others a.1 l)) : Taken tick l0 (tk ++ [a]) m := by
  have h1 : l.Perm (a :: others a.1 l) := by
    obtain ⟨i, hi, e⟩ := List.getElem_of_mem ha
    have h2 := List.mem_iff_append.1 ha
    obtain ⟨s, t, rfl⟩ := h2
    have h3 : (s ++ a :: t).Perm (a :: (s ++ t)) := List.perm_middle
    refine h3.trans (List.Perm.cons _ ?_)
    have h4 := (hA.perm h3).tail
    have h5 := others_perm (id := a.1) h3
    have h6 : others a.1 (a :: (s ++ t)) = s ++ t := by
      unfold others
      rw [List.filter_cons, if_neg (by simp)]
      exact others_self h4
    rw [h6] at h5
    exact h5.symm
  refine ⟨?_, fun e he => ?_⟩
  · rw [List.append_assoc]
    refine List.Perm.trans ?_ H.perm
    refine List.Perm.append_left _ ?_
    exact (List.Perm.cons a hm).trans h1.symm
  · rcases List.mem_append.1 he with h | h
    · exact H.due e h
    · rw [List.mem_singleton.1 h]; exact hd
theorem Taken.done {tick : Int} {l0 tk l : List En} (H : Taken tick l0 tk l) (hl : ∀ e ∈ l, tick < e.2) : tk.Perm (isDue tick l0) ∧ l.Perm (sleepOn tick l0) := by
  have h1 : isDue tick (tk ++ l) = tk := by
    unfold isDue
    rw [List.filter_append, List.filter_eq_self.2 (fun e he => by simpa using H.due e he), List.filter_eq_nil_iff.2 (fun e he => by have := hl e he; simp; omega), List.append_nil]
  have h2 : sleepOn tick (tk ++ l) = l := by
    unfold sleepOn
    rw [List.filter_append, List.filter_eq_nil_iff.2 (fun e he => by have := H.due e he; simpa using this), List.filter_eq_self.2 (fun e he => by have := hl e he; simp; omega), List.nil_append]
  exact ⟨h1 ▸ H.perm.filter _, h2 ▸ H.perm.filter _⟩

section
variable {base x : Nat} {v m : Value} {l : List En} {D : DataW Unit} {w w' : World}
/-- Another block turned. -/
theorem Tm.beside {b : Option Nat} (h : Tm base x v m l D w) (k : w.grownBy w' b) (hb : ∀ i, b = some i → ¬ Own x v m i) : Tm base x v m l D w' := by
  refine ⟨?_, h.row.keep fun g hg => ?_, h.map.keep fun g hg => ?_, h.bx⟩
  · rw [k.block x h.lt (fun e => hb x e.symm (.inl rfl))]; exact h.blk
  · exact k.block g (h.own g (.inr (.inl hg))).2 (fun e => hb g e.symm (.inr (.inl hg)))
  · exact k.block g (h.own g (.inr (.inr hg))).2 (fun e => hb g e.symm (.inr (.inr hg)))

/-- At the label. -/
def DueI (base x : Nat) (v m : Value) (tick : Int) (l0 : List En) (w : World) (vd : Value) (w' : World) (l : List En) : Prop :=
  ∃ v' m' D tk, Tm base x v' m' l D w' ∧ Good l D ∧ Mvp (Own x v m) (Own x v' m') w w' ∧ Taken tick l0 tk l ∧ w'.ownsRow w.heap.size 3 1 vd tk.length (tk.map fun e => .int .i64 e.1) ∧ ∀ k, vd.ownBlock = some k → ¬ Own x v' m' k
def DueJ (base x : Nat) (v m : Value) (tick : Int) (l0 : List En) (w : World) (a' : Act) (w' : World) : Prop :=
  ∃ (vd : Value) (u4 u6 u7 u8 u9 u10 u11 u12 u13 u14 u15 u16 u17 u18 u19 u20 u21 u22 u23 u24 u25 u26 u27 u28 u29 u30 u31 u32 u33 u34 u35 u36 : Value), a' = { tmps := #[.pointer (some ⟨x, 0, none⟩), .int .i64 tick, undef, undef, u4, vd, u6, u7, u8, u9, u10, u11, u12, u13, u14, u15, u16, u17, u18, u19, u20, u21, u22, u23, u24, u25, u26, u27, u28, u29, u30, u31, u32, u33, u34, u35, u36], defers := [] } ∧ ∃ l, DueI base x v m tick l0 w vd w' l
def DuePost (base x : Nat) (v m : Value) (tick : Int) (l0 : List En) (w : World) (r : Ending) (w' : World) : Prop :=
  ∃ vd, r = .returned vd ∧ w'.ownsRow w.heap.size 3 1 vd (dueIds tick l0).length ((dueIds tick l0).map fun k => .int .i64 k) ∧
    ∃ v' m' l' D', Tm base x v' m' l' D' w' ∧ Good l' D' ∧ l'.Perm (sleepOn tick l0) ∧ Mvp (Own x v m) (Own x v' m') w w' ∧ ∀ k, vd.ownBlock = some k → ¬ Own x v' m' k

def lenAt (x : Nat) (w : World) : Nat := match w.cell? ⟨x, 0, none⟩ with
  | some (.slice _ n _) => n
  | _ => 0
theorem Tm.lenAt (h : Tm base x v m l D w) : lenAt x w = l.length := by
  obtain ⟨p, cap, rfl, -, -, -⟩ := h.row.slice
  unfold Ti.lenAt
  rw [h.cells.1]
theorem isDue_eq {tick : Int} {l0 tk l : List En} (H : Taken tick l0 tk l) (hl : ∀ e ∈ l, tick < e.2) : sortI (tk.map (·.1)) = dueIds tick l0 := sortI_perm ((H.done hl).1.map _)
theorem nextV_nil : nextV [] = .tuple #[.int .i64 0, .bool false] := rfl

set_option maxRecDepth 100000 in
set_option maxHeartbeats 8000000 in
theorem due_any {tick : Int} {l0 : List En} (h : Tm base x v m l0 D w) (hg : Good l0 D) (hl : l0.length ≤ 1000000) :
    Calls Try.prog 14 #[.pointer (some ⟨x, 0, none⟩), .int .i64 tick] w (DuePost base x v m tick l0 w) := by
  have HL := hid hl
  have HI := hid h
  have HG := hid hg
  clear h hg hl
  obtain ⟨i0, hi, hz0, hz1, hz2⟩ := info_parts infoI
  go_enter Try.func14, Try.ntmps14
  go_wp2_with fail
  refine wp_goto 0 (DueJ base x v m tick l0 w) (fun _ w' => lenAt x w') rfl ?_ ?_
  · refine fun a' w1 => ex_elim fun vd => ex_elim fun u4 => ex_elim fun u6 => ex_elim fun u7 => ex_elim fun u8 => ex_elim fun u9 => ex_elim fun u10 => ex_elim fun u11 => ex_elim fun u12 => ex_elim fun u13 => ex_elim fun u14 => ex_elim fun u15 => ex_elim fun u16 => ex_elim fun u17 => ex_elim fun u18 => ex_elim fun u19 => ex_elim fun u20 => ex_elim fun u21 => ex_elim fun u22 => ex_elim fun u23 => ex_elim fun u24 => ex_elim fun u25 => ex_elim fun u26 => ex_elim fun u27 => ex_elim fun u28 => ex_elim fun u29 => ex_elim fun u30 => ex_elim fun u31 => ex_elim fun u32 => ex_elim fun u33 => ex_elim fun u34 => ex_elim fun u35 => ex_elim fun u36 => ?_
    rintro ⟨rfl, l, v', m', D, tk, hT, hG, hMV, hTK, hrow, hfar⟩
    have hx := hT.lt
    have CN := hid (next_any hT)
    have T := hid hT
    have G := hid hG
    have MV := hid hMV
    have TK := hid hTK
    have FAR := hid hfar
    clear hT hG hMV hTK hfar
    cases l with
    | nil =>
      have ALL := hid (show ∀ e ∈ ([] : List En), tick < e.2 from fun e he => by cases he)
      have HT := hid (isDue_eq TK.out ALL.out)
      rcases hrow.2 with ⟨rfl, hnil⟩ | ⟨g, cap, cur, rfl, hgb, hgc, hn1, hn2, hn3, hn4⟩
      · have htk : tk = [] := by simpa using hnil
        subst htk
        clear hrow
        go_wp2_with (first | (go_at_call 16; (with_reducible refine CN.out.mono ?_); rintro e w2 ⟨rfl, hw2⟩; rw [hw2]; clear hw2; clear w2; simp only [nextV]) | (go_at_call 21; (with_reducible refine (slices_Sort_int_none none 0 _).mono ?_); rintro e w2 ⟨rfl, hw2⟩; rw [hw2]; clear hw2; clear w2))
        go_returns
        have hd : dueIds tick l0 = [] := by rw [← HT.out]; simp [sortI]
        refine ⟨.slice none 0 0, rfl, by rw [hd]; exact World.ownsRow_nil _ _ _ _, v', m', _, D, T.out, G.out, (TK.out.done ALL.out).2, MV.out, fun k hk => by cases hk⟩
      · have hlen : (tk.map (fun e : En => e.1)).length = tk.length := List.length_map ..
        have HH := holds_of_blockI (ss := tk.map (fun e : En => e.1)) hgc (by rw [List.length_map, ← Nat.mul_one tk.length, hn4, List.map_map]; rfl)
        have CS := slices_Sort_int g 0 cap (tk.map (fun e : En => e.1)) w1 HH (lt_blk hgc) (by rw [List.length_map]; have := TK.out.perm.length_eq; have := HL.out; rw [List.length_append] at *; omega)
        rw [hlen] at CS
        have CS := hid CS
        have HC := hid (⟨hgb, hgc, hn1, hn2, hn3⟩ : w.heap.size ≤ g ∧ w1.heap[g]? = some (.cells cur 3 (0, 0)) ∧ tk.length ≤ cap ∧ cap ≤ maxLen ∧ cur.size = cap * 1)
        clear hrow hgb hgc hn1 hn2 hn3 hn4 HH
        go_wp2_with (first | (go_at_call 16; (with_reducible refine CN.out.mono ?_); rintro e w2 ⟨rfl, hw2⟩; rw [hw2]; clear hw2; clear w2; simp only [nextV]) | (go_at_call 21; (with_reducible refine CS.out.mono ?_); rintro e w2 ⟨rfl, n2, os2, hw2⟩; have HW2 := hid hw2; clear hw2))
        go_returns
        obtain ⟨hgb, hgc, hn1, hn2, hn3⟩ := HC.out
        have hd : (dueIds tick l0).length = tk.length := by rw [← HT.out]; simp [sortI]
        have hgr : w1.grownBy w2 (some g) := by rw [HW2.out]; exact grownBy_sortedI _
        refine ⟨.slice (some ⟨g, 0, none⟩) tk.length cap, rfl, ?_, v', m', _, D, T.out.beside hgr (fun i e => by cases e; exact FAR.out g rfl), G.out, (TK.out.done ALL.out).2, MV.out.beside hgr (fun i e => by cases e; exact hgb), FAR.out⟩
        rw [hd, ← HT.out, HW2.out]
        have := ownsRow_sortedI (w := w1) (n := n2) (os := os2) (ss := tk.map (fun e : En => e.1)) (ts := sortI (tk.map (fun e : En => e.1))) (by simp [sortI]) hgb hgc (by rw [hlen]; exact hn1) hn2 hn3
        rw [hlen] at this
        exact this
    | cons q rest =>
      by_cases hd : q.2 ≤ tick
      · have hlen : (q :: rest).length ≤ 1000000 := by have := TK.out.perm.length_eq; have := HL.out; rw [List.length_append] at *; omega
        obtain ⟨g, cap, rfl, hgb, hgl, hc1, hc2⟩ := T.out.row.shape (by simp)
        obtain ⟨d0, -, -, -⟩ := T.out.row.cell (i := 0) (p := q) rfl
        simp only [Nat.zero_mul] at d0
        obtain ⟨c0, -, -, -⟩ := T.out.cells
        have i0' : (0 : Int) < ((q :: rest).length : Int) := by rw [List.length_cons]; omega
        have hvd := owns_below hrow
        have HFR : Hid (∀ (o : Obj) (w2 : World) (vd' : Value), (w1.alloc o).grownBy w2 vd.ownBlock → (vd'.ownBlock = vd.ownBlock ∨ vd'.ownBlock = some (w1.alloc o).heap.size) → w2.ownsRow w.heap.size 3 1 vd' (tk.length + 1) ((tk ++ [q]).map fun e => .int .i64 e.1) →
            Tm base x (.slice (some ⟨g, 0, none⟩) (q :: rest).length cap) m' (q :: rest) D w2 ∧ Mvp (Own x v m) (Own x (.slice (some ⟨g, 0, none⟩) (q :: rest).length cap) m') w w2 ∧ ∀ k, vd'.ownBlock = some k → ¬ Own x (.slice (some ⟨g, 0, none⟩) (q :: rest).length cap) m' k) := fun o w2 vd' hgr hloc hown => by
          have X1 : Ext w1 (w1.alloc o) := Ext.alloc (Ext.refl _) o
          refine ⟨(T.out.ext X1).beside hgr (fun i e => FAR.out i e), (MV.out.ext X1).beside hgr (fun i e => (hvd i e).1), fun k hk => ?_⟩
          rcases hloc with h1 | h1
          · exact FAR.out k (h1 ▸ hk)
          · rw [hk] at h1
            intro e
            have h2 := (T.out.own k e).2
            have h3 : k = (w1.alloc o).heap.size := Option.some.inj h1
            simp at h3
            omega
        have htl : tk.length ≤ 1000000 := by have := TK.out.perm.length_eq; have := HL.out; rw [List.length_append] at *; omega
        have hws := MV.out.size
        go_wp2_with (first | (go_at_call 16; (with_reducible refine CN.out.mono ?_); rintro e w2 ⟨rfl, hw2⟩; rw [hw2]; clear hw2; clear w2; simp only [nextV]) | (at_builtin; refine wpList_append_own_at _ rfl _ _ 35 rfl w.heap.size 3 i0 (.int .i64 0) 1 8 Try.underlying35 hi hz0 hz1 hz2 rfl (by decide) _ _ _ rfl (hrow.alloc _) ⟨w1.heap.size, 0, none⟩ 1 1 [.int .i64 q.1] rfl rfl (cell_one_new _ _ _) (ints_oneCell .i64 [q.1]) (by unfold maxLen; omega) (by omega) (by simp; omega) ?_; intro vd' w2 hown' hgrow hnil hloc; have HO : Hid (w2.ownsRow w.heap.size 3 1 vd' (tk.length + 1) ((tk ++ [q]).map fun e => .int .i64 e.1)) := (by rw [List.map_append]; exact hown'); have H2 := hid (HFR.out _ _ _ hgrow hloc HO.out); clear hnil hloc hgrow hown'; have CD := hid (drop_yes H2.out.1 G.out hlen (i := 0) (a := q) rfl)) | (go_at_call 11; (with_reducible refine CD.out.mono ?_); rintro e w3 ⟨rfl, h3⟩; have H3 := hid h3; clear h3))
        go_step3
        simp only [Exit.then]
        obtain ⟨v3, m3, l3, D3, t3, g3, p3, mv3⟩ := H3.out
        have hb2 := owns_below HO.out
        refine ⟨rfl, ⟨vd', _, _, _, _, _, _, _, _, _, _, _, _, _, _, _, _, _, _, _, _, _, _, _, _, _, _, _, _, _, _, _, _, rfl, l3, v3, m3, D3, tk ++ [q], t3, g3, H2.out.2.1.trans mv3, TK.out.step G.out.apart (by simp) hd p3, ?_, fun k hk hO => ?_⟩, ?_⟩
        · rw [show (tk ++ [q]).length = tk.length + 1 by simp]
          exact owns_keep HO.out fun k hk => mv3.block k (hb2 k hk).2 (H2.out.2.2 k hk)
        · rcases mv3.own k hO with h1 | h1
          · exact H2.out.2.2 k hk h1
          · have := (hb2 k hk).2
            omega
        · rw [t3.lenAt, T.out.lenAt]
          have := p3.length_eq
          rw [this]
          unfold others
          rw [List.filter_cons, if_neg (by simp)]
          have := List.length_filter_le (fun e : En => e.1 != q.1) rest
          simp only [List.length_cons]
          omega
      · have ALL := hid (show ∀ e ∈ (q :: rest), tick < e.2 from fun e he => by
          obtain ⟨i, hi, h1⟩ := List.getElem_of_mem he
          have := G.out.heap.first (a := q) rfl i e (by rw [List.getElem?_eq_getElem hi, h1])
          omega)
        clear hx
        have HT := hid (isDue_eq TK.out ALL.out)
        rcases hrow.2 with ⟨rfl, hnil⟩ | ⟨g, cap, cur, rfl, hgb, hgc, hn1, hn2, hn3, hn4⟩
        · have htk : tk = [] := by simpa using hnil
          subst htk
          clear hrow
          go_wp2_with (first | (go_at_call 16; (with_reducible refine CN.out.mono ?_); rintro e w2 ⟨rfl, hw2⟩; rw [hw2]; clear hw2; clear w2; simp only [nextV]) | (go_at_call 21; (with_reducible refine (slices_Sort_int_none none 0 _).mono ?_); rintro e w2 ⟨rfl, hw2⟩; rw [hw2]; clear hw2; clear w2))
          go_returns
          have hd : dueIds tick l0 = [] := by rw [← HT.out]; simp [sortI]
          refine ⟨.slice none 0 0, rfl, by rw [hd]; exact World.ownsRow_nil _ _ _ _, v', m', _, D, T.out, G.out, (TK.out.done ALL.out).2, MV.out, fun k hk => by cases hk⟩
        · have hlen : (tk.map (fun e : En => e.1)).length = tk.length := List.length_map ..
          have HH := holds_of_blockI (ss := tk.map (fun e : En => e.1)) hgc (by rw [List.length_map, ← Nat.mul_one tk.length, hn4, List.map_map]; rfl)
          have CS := slices_Sort_int g 0 cap (tk.map (fun e : En => e.1)) w1 HH (lt_blk hgc) (by rw [List.length_map]; have := TK.out.perm.length_eq; have := HL.out; rw [List.length_append] at *; omega)
          rw [hlen] at CS
          have CS := hid CS
          have HC := hid (⟨hgb, hgc, hn1, hn2, hn3⟩ : w.heap.size ≤ g ∧ w1.heap[g]? = some (.cells cur 3 (0, 0)) ∧ tk.length ≤ cap ∧ cap ≤ maxLen ∧ cur.size = cap * 1)
          clear hrow hgb hgc hn1 hn2 hn3 hn4 HH
          go_wp2_with (first | (go_at_call 16; (with_reducible refine CN.out.mono ?_); rintro e w2 ⟨rfl, hw2⟩; rw [hw2]; clear hw2; clear w2; simp only [nextV]) | (go_at_call 21; (with_reducible refine CS.out.mono ?_); rintro e w2 ⟨rfl, n2, os2, hw2⟩; have HW2 := hid hw2; clear hw2))
          go_returns
          obtain ⟨hgb, hgc, hn1, hn2, hn3⟩ := HC.out
          have hd : (dueIds tick l0).length = tk.length := by rw [← HT.out]; simp [sortI]
          have hgr : w1.grownBy w2 (some g) := by rw [HW2.out]; exact grownBy_sortedI _
          refine ⟨.slice (some ⟨g, 0, none⟩) tk.length cap, rfl, ?_, v', m', _, D, T.out.beside hgr (fun i e => by cases e; exact FAR.out g rfl), G.out, (TK.out.done ALL.out).2, MV.out.beside hgr (fun i e => by cases e; exact hgb), FAR.out⟩
          rw [hd, ← HT.out, HW2.out]
          have := ownsRow_sortedI (w := w1) (n := n2) (os := os2) (ss := tk.map (fun e : En => e.1)) (ts := sortI (tk.map (fun e : En => e.1))) (by simp [sortI]) hgb hgc (by rw [hlen]; exact hn1) hn2 hn3
          rw [hlen] at this
          exact this
  · intro start
    have Start := hid start
    clear start
    go_wp2_with fail
    go_step3
    simp only [Exit.then]
    refine ‹∀ (a : Act) (w : World), Code.wp _ _ _ a w → _› _ _ ?_
    exact Start.out _ _ ⟨.slice none 0 0, _, _, _, _, _, _, _, _, _, _, _, _, _, _, _, _, _, _, _, _, _, _, _, _, _, _, _, _, _, _, _, _, rfl, l0, v, m, D, [], HI.out, HG.out, Mvp.refl _ _, Taken.start _ _, World.ownsRow_nil _ _ _ _, fun k hk => by cases hk⟩
end
end Ti
end Go.Proofs.Ytlpklkkjidaecaa
