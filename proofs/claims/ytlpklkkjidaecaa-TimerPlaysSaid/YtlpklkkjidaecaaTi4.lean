/- Drop. -/
import Derived.Test.YtlpklkkjidaecaaTi3
import Derived.WalkKit
import Derived.WalkSpells
import Derived.WalkLawsBesides
import Derived.Deep.RegionLaw
import Derived.Handy
import Derived.IntWalk
namespace Go.Proofs.Ytlpklkkjidaecaa
open Go.RowKit
namespace Ti
open Rw
open Go.Maps (Tidy IsMap Keyed)

theorem look_yes {w : World} {b : Nat} {D : DataW Unit} (h : OM w b D) {k : Int} (hk : wf64 k) (hy : hasK D k = true) {i : Nat} (ha : atK D k = num i) : (Instr.lookup 47 (.map (some b)) (.int .i64 k) true).run Try.prog w = .ok (.tuple #[.int .i64 i, .bool true]) w := by
  obtain ⟨v, ps, h1, h2⟩ := World.ownsMap.look_ok h law Try.underlying47 (zeroI w) (plainElem_int (H := Unit) Try.underlying3 (by decide)) (Go.Maps.keyOf_int_mk Try.underlying3 hk.lit)
  obtain ⟨c, rfl, hc, -⟩ := plainElem_int_inv Try.underlying3 h2
  have hc := congrArg Prod.fst hc
  simp only at hc
  have e1 : DataW.atKey D (key k) (.lit (.int .i64 0)) = num i := ha
  rw [e1] at hc
  have e2 : Maps.has D (key k) = true := hy
  rw [e2] at h1
  injection hc with hc
  injection hc with _ hc
  rw [← hc] at h1
  exact h1
theorem look_no {w : World} {b : Nat} {D : DataW Unit} (h : OM w b D) {k : Int} (hk : wf64 k) (hy : hasK D k = false) : ∃ c, (Instr.lookup 47 (.map (some b)) (.int .i64 k) true).run Try.prog w = .ok (.tuple #[.int .i64 c, .bool false]) w := by
  obtain ⟨v, ps, h1, h2⟩ := World.ownsMap.look_ok h law Try.underlying47 (zeroI w) (plainElem_int (H := Unit) Try.underlying3 (by decide)) (Go.Maps.keyOf_int_mk Try.underlying3 hk.lit)
  obtain ⟨c, rfl, hc, -⟩ := plainElem_int_inv Try.underlying3 h2
  have e2 : Maps.has D (key k) = false := hy
  rw [e2] at h1
  exact ⟨c, h1⟩
theorem look_nil (w : World) {k : Int} (hk : wf64 k) : (Instr.lookup 47 (.map none) (.int .i64 k) true).run Try.prog w = .ok (.tuple #[.int .i64 0, .bool false]) w :=
  Go.Maps.look_nil true law Try.underlying47 (zeroI w) (Go.Maps.keyOf_int_mk Try.underlying3 hk.lit)

/-- All is in order. -/
structure Good (l : List En) (D : DataW Unit) : Prop where
  heap : Heap l
  full : Full D l
  apart : Apart l
  wf : ∀ e ∈ l, wf64 e.1
/-- Behind a change: in order again, these entries. -/
def Kept (base x : Nat) (v m : Value) (M : List En) (w w' : World) : Prop :=
  ∃ v' m' l' D', Tm base x v' m' l' D' w' ∧ Good l' D' ∧ l'.Perm M ∧ Mvp (Own x v m) (Own x v' m') w w'

def others (id : Int) (l : List En) : List En := l.filter fun e => e.1 != id
theorem mem_others {id : Int} {l : List En} {e : En} : e ∈ others id l ↔ e ∈ l ∧ e.1 ≠ id := by simp [others, List.mem_filter]
theorem others_self {id : Int} {l : List En} (h : ∀ e ∈ l, e.1 ≠ id) : others id l = l := List.filter_eq_self.2 fun e he => by simpa using h e he
theorem others_perm {id : Int} {l m : List En} (h : l.Perm m) : (others id l).Perm (others id m) := h.filter _
theorem Apart.tail {a : En} {l : List En} (h : Apart (a :: l)) : ∀ e ∈ l, e.1 ≠ a.1 := by
  intro e he e'
  simp only [Apart, List.map_cons, List.nodup_cons] at h
  exact h.1 (e' ▸ List.mem_map_of_mem he)
theorem others_open {l : List En} {i : Nat} {s a : En} (hA : Apart (l ++ [s])) (ha : l[i]? = some a) : (l.set i s).Perm (others a.1 (l ++ [s])) := by
  have h1 := last_swap (s := s) ha
  have h2 := others_perm (id := a.1) h1
  have h3 := (hA.perm h1).tail
  have h4 : others a.1 (a :: l.set i s) = l.set i s := by
    unfold others
    rw [List.filter_cons, if_neg (by simp)]
    exact others_self h3
  rw [h4] at h2
  exact h2.symm
theorem others_last {l : List En} {s : En} (hA : Apart (l ++ [s])) : others s.1 (l ++ [s]) = l := by
  unfold others
  rw [List.filter_append, List.filter_cons, if_neg (by simp), List.filter_nil, List.append_nil]
  have h1 : Apart (s :: l) := hA.perm (List.perm_append_singleton s l)
  exact others_self h1.tail
theorem open_apart {l : List En} {i : Nat} {s a : En} (hA : Apart (l ++ [s])) (ha : l[i]? = some a) : Apart (l.set i s) := by
  have := hA.perm (last_swap (s := s) ha)
  simp only [Apart, List.map_cons, List.nodup_cons] at this
  exact this.2

section
variable {base x : Nat} {v m : Value} {l : List En} {D : DataW Unit} {w : World}
theorem Kept.refl (h : Tm base x v m l D w) (hg : Good l D) : Kept base x v m l w w := ⟨v, m, l, D, h, hg, List.Perm.refl _, Mvp.refl _ _⟩
theorem Good.absent (hg : Good l D) {id : Int} (hid : ∀ e ∈ l, e.1 ≠ id) : hasK D id = false := by
  cases h : hasK D id with
  | false => rfl
  | true =>
    obtain ⟨i, e, h1, h2⟩ := hg.full.only id h
    exact absurd h2 (hid e (List.mem_of_getElem? h1))
/-- Another row laid in it. -/
theorem Tm.lay {v' : Value} {l' : List En} (h : Tm base x v m l D w) (hr : Row 51 w base v' l'.length l') : Tm base x v' m l' D (w.setCell ⟨x, 0, none⟩ v') := by
  refine ⟨by rw [set_same h.blk]; rfl, hr.keep fun g hg => ?_, h.map.keep fun b hb => ?_, h.bx⟩
  · have hne : g ≠ x := by
      intro e
      subst e
      exact hr.far h.blk (by decide) hg
    exact Below.heap_setCell _ _ _ _ (by simpa using hne)
  · exact Below.heap_setCell _ _ _ _ (by simpa using (h.mapFar hb).1)

set_option maxHeartbeats 2000000 in
theorem drop_no (h : Tm base x v m l D w) (hg : Good l D) {id : Int} (hwf : wf64 id) (hab : ∀ e ∈ l, e.1 ≠ id) :
    Calls Try.prog 11 #[.pointer (some ⟨x, 0, none⟩), .int .i64 id] w fun e w' => e = .returned (.bool false) ∧ w' = w := by
  obtain ⟨-, c1, -, -⟩ := h.cells
  have hx := h.lt
  rcases h.map with ⟨rfl, -⟩ | ⟨b, rfl, -, ho⟩
  · have hk := look_nil w hwf
    clear h hg hab
    go_enter Try.func11, Try.ntmps11
    go_wp2
    go_returns
    exact ⟨rfl, rfl⟩
  · obtain ⟨c, hk⟩ := look_no ho hwf (hg.absent hab)
    clear h hg hab ho
    go_enter Try.func11, Try.ntmps11
    go_wp2
    go_returns
    exact ⟨rfl, rfl⟩
theorem Good.here (hg : Good l D) {i : Nat} {a : En} (ha : l[i]? = some a) (h : Tm base x v m l D w) : ∃ b, m = .map (some b) ∧ OM w b D := by
  rcases h.map with ⟨rfl, rfl⟩ | ⟨b, rfl, -, ho⟩
  · have := (hg.full.place i a ha).1
    simp [hasK, Maps.has] at this
  · exact ⟨b, rfl, ho⟩

theorem Tm.less {g cap n : Nat} {l' : List En} {s : En} (h : Tm base x (.slice (some ⟨g, 0, none⟩) (n + 1) cap) m (l' ++ [s]) D w) (hn : l'.length = n) : Tm base x (.slice (some ⟨g, 0, none⟩) n cap) m l' D (w.setCell ⟨x, 0, none⟩ (.slice (some ⟨g, 0, none⟩) n cap)) := by
  have hr := h.row
  rw [show (l' ++ [s]).length = n + 1 by simp [hn]] at hr
  refine h.lay ?_
  have := (hr.cut (m := n) (by simp; omega)).forget (by omega)
  rw [hn]
  exact this

set_option maxRecDepth 100000 in
set_option maxHeartbeats 4000000 in
theorem drop_yes (h : Tm base x v m l D w) (hg : Good l D) (hl : l.length ≤ 1000000) {i : Nat} {a : En} (ha : l[i]? = some a) :
    Calls Try.prog 11 #[.pointer (some ⟨x, 0, none⟩), .int .i64 a.1] w fun e w' => e = .returned (.bool true) ∧ Kept base x v m (others a.1 l) w w' := by
  have hil := get_some ha
  obtain ⟨l', s, rfl⟩ : ∃ l' s, l = l' ++ [s] := ⟨l.dropLast, l.getLast (by intro e; rw [e] at hil; simp at hil), (List.dropLast_concat_getLast _).symm⟩
  obtain ⟨b, rfl, ho⟩ := hg.here ha h
  obtain ⟨g, cap, rfl, hgb, hgl, hc1, hc2⟩ := h.row.shape (by simp)
  have hwf := hg.wf a (List.mem_of_getElem? ha)
  have hk := look_yes ho hwf (hg.full.place i a ha).1 (hg.full.place i a ha).2
  obtain ⟨c0, c1, f0, f1⟩ := h.cells
  have hx := h.lt
  have hs : (l' ++ [s])[l'.length]? = some s := by simp
  obtain ⟨n, hn⟩ : ∃ n, l'.length = n := ⟨_, rfl⟩
  have hn1 : (l' ++ [s]).length = n + 1 := by simp [hn]
  rw [hn1] at h c0 hc1 hl hil
  rw [hn] at hs
  have HI := hid h
  have HG := hid hg
  have HA := hid ha
  have HS := hid hs
  have HC1 := hid hc1
  have HN := hid hn
  have HN1 := hid hn1
  have i1 : (n : Int) < (n : Int) + 1 := by omega
  have i2 : (n : Int) ≤ (cap : Int) := by omega
  have i3 : (0 : Int) ≤ (n : Int) := by omega
  clear h hg ha hs hc1 hn1 hn
  have e1 : IntKind.i64.wrap (n : Int) = (n : Int) := IntWalk.i64_in _ (by omega)
  by_cases hin : i < n
  · have i4 : decide (i < n) = true := by simpa using hin
    have hal : l'[i]? = some a := by have h1 := HA.out; rw [List.getElem?_append_left (by rw [HN.out]; exact hin)] at h1; exact h1
    have HAL := hid hal
    have LT := hid (show i < l'.length by rw [HN.out]; exact hin)
    have L6 := hid (show l'.length ≤ 1000000 by rw [HN.out]; omega)
    have HP := hid (show Hole l' i ∧ Part (D.del (key a.1)) l' i s ∧ Apart (l'.set i s) ∧ ∀ e ∈ l'.set i s, wf64 e.1 from ⟨by
      have := HG.out.heap.take n
      rw [List.take_append_of_le_length (by rw [HN.out]; exact Nat.le_refl _), List.take_of_length_le (by rw [HN.out]; exact Nat.le_refl _)] at this
      exact this.hole i, HG.out.full.open HG.out.apart hal, open_apart HG.out.apart hal, fun e he => HG.out.wf e ((mem_others.1 ((others_open HG.out.apart hal).mem_iff.1 he)).1)⟩)
    clear hal hin
    go_enter Try.func11, Try.ntmps11
    go_wp2_with (first | (at_delete; refine wpList_delete_own _ rfl _ _ 47 3 rfl 3 law Try.underlying47 _ b _ D rfl ho _ _ rfl (Go.Maps.keyOf_int_mk Try.underlying3 hwf.lit) ?_; intro w1 ho1 ht1; have H1 := hid (HI.out.mapped ho1 ht1.grown); have M1 := hid ((Mvp.refl (Own x (.slice (some ⟨g, 0, none⟩) (n + 1) cap) (.map (some b))) w).grown (.inr (.inr rfl)) ht1.grown); obtain ⟨d0, -, k0, -⟩ := H1.out.cells; obtain ⟨q0, q1, -, -⟩ := (HN1.out ▸ H1.out.row).cell HS.out; have hx1 := H1.out.lt; have hg1 := (H1.out.own g (.inr (.inl rfl))).2) | (go_at_call 20; (with_reducible refine (settle_any ((H1.out.less HN.out).ext (Ext.alloc (Ext.refl _) (.cells #[.int .i64 s.1, .int .i64 s.2] 51))) s LT.out L6.out (HP.out.1) HP.out.2.1 HP.out.2.2.1 HP.out.2.2.2).mono ?_); rintro e w2 ⟨rfl, h2⟩; have H2 := hid h2; clear h2))
    go_returns
    obtain ⟨l2, D2, t2, hh, hf, ha2, hp2, hl2, hm2⟩ := H2.out
    refine ⟨rfl, _, _, l2, D2, t2, ⟨hh, hf, ha2, fun e he => HP.out.2.2.2 e (hp2.mem_iff.1 he)⟩, hp2.trans (others_open HG.out.apart HAL.out), ?_⟩
    rw [HN1.out]
    have X2 : Ext (w1.setCell ⟨x, 0, none⟩ (.slice (some ⟨g, 0, none⟩) n cap)) _ := Ext.alloc (Ext.refl _) (.cells #[.int .i64 s.1, .int .i64 s.2] 51)
    have M2 : Mvp (Own x (.slice (some ⟨g, 0, none⟩) (n + 1) cap) (.map (some b))) (Own x (.slice (some ⟨g, 0, none⟩) n cap) (.map (some b))) w _ := ((M1.out.set (g := x) (.inl rfl) 0 (.slice (some ⟨g, 0, none⟩) n cap)).ext X2).owns fun k hk => hk
    exact M2.trans hm2
  · have i4 : decide (i < n) = false := by simpa using hin
    have HE := hid (show i = n by omega)
    clear hin hil
    go_enter Try.func11, Try.ntmps11
    go_wp2_with (at_delete; refine wpList_delete_own _ rfl _ _ 47 3 rfl 3 law Try.underlying47 _ b _ D rfl ho _ _ rfl (Go.Maps.keyOf_int_mk Try.underlying3 hwf.lit) ?_; intro w1 ho1 ht1; have H1 := hid (HI.out.mapped ho1 ht1.grown); have M1 := hid ((Mvp.refl (Own x (.slice (some ⟨g, 0, none⟩) (n + 1) cap) (.map (some b))) w).grown (.inr (.inr rfl)) ht1.grown); obtain ⟨d0, -, k0, -⟩ := H1.out.cells; obtain ⟨q0, q1, -, -⟩ := (HN1.out ▸ H1.out.row).cell HS.out; have hx1 := H1.out.lt; have hg1 := (H1.out.own g (.inr (.inl rfl))).2)
    go_returns
    have hsa : s = a := by have h1 := HS.out; rw [← HE.out, HA.out] at h1; exact (Option.some.inj h1).symm
    subst hsa
    have X2 : Ext (w1.setCell ⟨x, 0, none⟩ (.slice (some ⟨g, 0, none⟩) n cap)) _ := Ext.alloc (Ext.refl _) (.cells #[.int .i64 s.1, .int .i64 s.2] 51)
    refine ⟨rfl, _, _, l', _, ((H1.out.less HN.out).ext X2), ⟨?_, HG.out.full.last HG.out.apart, ?_, fun e he => HG.out.wf e (by simp [he])⟩, by rw [others_last HG.out.apart], ?_⟩
    · have := HG.out.heap.take n
      rw [List.take_append_of_le_length (by rw [HN.out]; exact Nat.le_refl _), List.take_of_length_le (by rw [HN.out]; exact Nat.le_refl _)] at this
      exact this
    · have := HG.out.apart
      simp only [Apart, List.map_append, List.nodup_append] at this
      exact this.1
    · rw [HN1.out]
      exact ((M1.out.set (g := x) (.inl rfl) 0 _).ext X2).owns fun k hk => hk
end
end Ti
end Go.Proofs.Ytlpklkkjidaecaa
