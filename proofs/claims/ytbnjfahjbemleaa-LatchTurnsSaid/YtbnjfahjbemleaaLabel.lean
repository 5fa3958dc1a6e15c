/- What the functions of package label come to, and the document's own ones beside them. -/
import Derived.Test.YtbnjfahjbemleaaRows
import Derived.Test.YtbnjfahjbemleaaLib
import Derived.Test.YtbnjfahjbemleaaMath1
import Derived.WalkKit
import Derived.WalkSpells
import Derived.WalkLawsBesides
import Derived.Deep.QuietTactic
import Derived.BigQuiet
import Derived.Deep.RegionHeld3
import Derived.Handy
namespace Go.Proofs.Ytbnjfahjbemleaa
open Go.RowKit


@[go_sem high] theorem run_eql_lbl (a b c d : Int) (w : World) : (binOp .eql 56 (.agg #[.int .i64 a, .int .u64 b]) (.agg #[.int .i64 c, .int .u64 d])).run Try.prog w = .ok (.bool (eqB a b c d)) w := by
  by_cases h1 : a = c <;> by_cases h2 : b = d <;> simp [eqB, h1, h2, go_sem]
@[go_sem high] theorem run_neq_lbl (a b c d : Int) (w : World) : (binOp .neq 56 (.agg #[.int .i64 a, .int .u64 b]) (.agg #[.int .i64 c, .int .u64 d])).run Try.prog w = .ok (.bool (!(eqB a b c d))) w := by
  by_cases h1 : a = c <;> by_cases h2 : b = d <;> simp [eqB, h1, h2, go_sem]

set_option maxHeartbeats 400000 in
theorem leq_any (a b c d : Int) (w : World) :
    Calls Try.prog 40 #[.agg #[.int .i64 a, .int .u64 b], .agg #[.int .i64 c, .int .u64 d]] w (Yields w (.bool (leqB a b c d))) := by
  by_cases h : a ≤ c <;>
  · go_enter Try.func40, Try.ntmps40
    go_wp2
    go_ret
    exact ⟨by simp [leqB]; try omega, ext_by⟩

set_option maxHeartbeats 400000 in
theorem rleq_any (a b c d : Int) (w : World) :
    Calls Try.prog 30 #[.agg #[.int .i64 a, .int .u64 b], .agg #[.int .i64 c, .int .u64 d]] w (Yields w (.bool (leqB a b c d))) := by
  by_cases h : a ≤ c <;>
  · go_enter Try.func30, Try.ntmps30
    go_wp2
    go_ret
    exact ⟨by simp [leqB]; try omega, ext_by⟩

set_option maxHeartbeats 400000 in
theorem is_any (a b : Int) (w : World) :
    Calls Try.prog 32 #[.agg #[.int .i64 a, .int .u64 b]] w (Yields w (.bool (isB a))) := by
  by_cases h : 0 ≤ a <;>
  · go_enter Try.func32, Try.ntmps32
    go_wp2
    go_ret
    exact ⟨by simp [isB]; try omega, ext_by⟩

set_option maxHeartbeats 400000 in
theorem ris_any (a b : Int) (w : World) :
    Calls Try.prog 20 #[.agg #[.int .i64 a, .int .u64 b]] w (Yields w (.bool (isB a))) := by
  by_cases h : 0 ≤ a <;>
  · go_enter Try.func20, Try.ntmps20
    go_wp2
    go_ret
    exact ⟨by simp [isB]; try omega, ext_by⟩

set_option maxHeartbeats 400000 in
theorem rises_any (a b c d : Int) (w : World) :
    Calls Try.prog 39 #[.agg #[.int .i64 a, .int .u64 b], .agg #[.int .i64 c, .int .u64 d]] w (Yields w (.bool (risesB a b c d))) := by
  go_enter Try.func39, Try.ntmps39
  go_wp2_with (go_at_call 40; refine (leq_any _ _ _ _ _).mono ?_; rintro e w' ⟨rfl, hb⟩)
  all_goals
    go_returns
    exact ⟨by simp [risesB, *], ext_by⟩

/-- A label in memory. -/
def LblAt (w : World) (b off : Nat) (x : Int × Int) : Prop := w.cell? ⟨b, off, none⟩ = some (.int .i64 x.1) ∧ w.cell? ⟨b, off + 1, none⟩ = some (.int .u64 x.2) ∧ U64 x.2
/-- A row of labels at the value v. -/
abbrev Labels (w : World) (v : Value) (l : List (Int × Int)) : Prop := Slc 2 LblAt w v l
theorem LblAt.ext {w w' : World} (h : Ext w w') {b off : Nat} {x : Int × Int} (hl : LblAt w b off x) : LblAt w' b off x := ⟨h.cell hl.1, h.cell hl.2.1, hl.2.2⟩
theorem Labels.ext {w w' : World} (h : Ext w w') {v : Value} {l : List (Int × Int)} (hl : Labels w v l) : Labels w' v l := hl.mono fun _ _ _ => LblAt.ext h

set_option maxHeartbeats 1000000 in
theorem chain_any (w : World) (v : Value) (l : List (Int × Int)) (h : Labels w v l) :
    Calls Try.prog 38 #[v] w (Yields w (.bool (chainB l))) := by
  obtain ⟨p, cap, rfl, _, hmax, hc⟩ := h
  unfold maxLen at hmax
  have Hc := hid hc
  clear hc
  go_enter Try.func38, Try.ntmps38
  go_wp2
  refine wp_goto 0 (fun a' w' => Ext w w' ∧ ∃ (k : Nat) (u1 u3 u4 u5 u6 u7 u8 u9 u10 u11 u12 u13 u14 u15 u16 u17 u18 u19 : Value), a' = { tmps := #[.slice p l.length cap, undef, .bool false, u3, u4, u5, u6, u7, u8, u9, u10, u11, u12, u13, u14, u15, u16, u17, u18, u19], defers := [] } ∧ u1 = undef ∧ u3 = .int .i64 ((k : Int) + 1) ∧ k < l.length + 1 ∧ chainB l = chainB (l.drop k)) (fun a' _ => l.length + 1 - (intOf (a'.tmps.getD 3 undef)).toNat) rfl ?_ ?_
  · rintro a' w' ⟨hb, k, u1, u3, u4, u5, u6, u7, u8, u9, u10, u11, u12, u13, u14, u15, u16, u17, u18, u19, rfl, rfl, rfl, hk, hch⟩
    have Hch := hid hch
    clear hch
    by_cases hlt : k + 1 < l.length
    · obtain ⟨b, off, rfl, hc⟩ := Hc.out (by omega)
      have hx := hc k l[k] (by simp)
      have hy := hc (k + 1) l[k + 1] (by simp)
      have c0 := more_cell (hb.cell hx.1)
      have c1 := more_cell (hb.cell hx.2.1)
      have c2 := more_cell (hb.cell hy.1)
      have c3 := more_cell (hb.cell hy.2.1)
      have hd := chainB_drop' l k hlt
      clear hx hy hc
      generalize l[k] = x at *
      generalize l[k + 1] = y at *
      have Hd := hid hd
      clear hd
      have i0 : (0 : Int) ≤ (k : Int) := by omega
      have i1 : (k : Int) < (l.length : Int) := by omega
      have i2 : (k : Int) + 1 < (l.length : Int) := by omega
      have i3 : (0 : Int) ≤ (k : Int) + 1 := by omega
      have i4 : ((k : Int) + 1).toNat = k + 1 := by omega
      go_wp2
      ((first | refine wp_region_more (by kernel_rfl) (by kernel_rfl) ?_ | refine wp_region_ext (by kernel_rfl) (by kernel_rfl) ?_); (try dsimp only [append_cons', append_nil']); (repeat (go_big_quiet_step ((go_at_call 39; refine Calls.more_of (rises_any _ _ _ _ _))))); refine wpQuiet_nil ?_; rintro _ ⟨pq, rfl⟩)
      have hq := hb.trans (ext_more w' pq)
      go_wp2
      · go_step3
        simp only [Exit.then]
        exact ⟨rfl, ⟨hq, k + 1, _, _, _, _, _, _, _, _, _, _, _, _, _, _, _, _, _, _, rfl, rfl, by simp, by omega, by rw [Hch.out, Hd.out]; simp [*]⟩, by simp [intOf]; omega⟩
      · simp only [Exit.jump]
        go_ret
        exact ⟨by rw [Hch.out, Hd.out]; simp [*], hq⟩
    · have i0 : ¬ (k : Int) + 1 < (l.length : Int) := by omega
      go_wp2
      simp only [Exit.jump]
      go_ret
      exact ⟨by rw [Hch.out, chainB_end l k (by omega)]; simp, hb⟩
  · intro start
    have Start := hid start
    clear start
    go_wp2
    go_step3
    simp only [Exit.then]
    refine ‹∀ (a : Act) (w : World), Code.wp _ _ _ a w → _› _ _ ?_
    exact Start.out _ _ ⟨Ext.refl _, 0, _, _, _, _, _, _, _, _, _, _, _, _, _, _, _, _, _, _, rfl, rfl, rfl, by omega, rfl⟩

set_option maxHeartbeats 1000000 in
theorem rchain_any (w : World) (v : Value) (l : List (Int × Int)) (h : Labels w v l) :
    Calls Try.prog 29 #[v] w (Yields w (.bool (chainB l))) := by
  obtain ⟨p, cap, rfl, _, hmax, hc⟩ := h
  unfold maxLen at hmax
  have Hc := hid hc
  clear hc
  go_enter Try.func29, Try.ntmps29
  go_wp2
  go_loopw [3] (fun v3 wr => Ext w wr ∧ ∃ k : Nat, v3 = .int .i64 ((k : Int) + 1) ∧ k < l.length + 1 ∧ chainB l = chainB (l.drop k)) (fun v3 _ => l.length + 1 - (intOf v3).toNat)
  case atStart => exact ⟨Ext.refl _, 0, by simp, by omega, rfl⟩
  case round =>
    obtain ⟨hb, k, rfl, hk, hch⟩ := hrel
    have Hch := hid hch
    clear hch
    by_cases hlt : k + 1 < l.length
    · obtain ⟨b, off, rfl, hc⟩ := Hc.out (by omega)
      have hx := hc k l[k] (by simp)
      have hy := hc (k + 1) l[k + 1] (by simp)
      have c0 := more_cell (hb.cell hx.1)
      have c1 := more_cell (hb.cell hx.2.1)
      have c2 := more_cell (hb.cell hy.1)
      have c3 := more_cell (hb.cell hy.2.1)
      have hd := chainB_drop' l k hlt
      clear hx hy hc
      generalize l[k] = x at *
      generalize l[k + 1] = y at *
      have Hd := hid hd
      clear hd
      have i0 : (0 : Int) ≤ (k : Int) := by omega
      have i1 : (k : Int) < (l.length : Int) := by omega
      have i2 : (k : Int) + 1 < (l.length : Int) := by omega
      have i3 : (0 : Int) ≤ (k : Int) + 1 := by omega
      have i4 : ((k : Int) + 1).toNat = k + 1 := by omega
      cases hl : leqB x.1 x.2 y.1 y.2 <;> cases he : eqB x.1 x.2 y.1 y.2
      all_goals
        go_wp2
        ((first | refine wp_region_more (by kernel_rfl) (by kernel_rfl) ?_ | refine wp_region_ext (by kernel_rfl) (by kernel_rfl) ?_); (try dsimp only [append_cons', append_nil']); (repeat (go_big_quiet_step ((go_at_call 30; refine Calls.more_of (rleq_any _ _ _ _ _))))); refine wpQuiet_nil ?_; rintro _ ⟨pq, rfl⟩)
        have hq := hb.trans (ext_more wr pq)
        go_wp2
      · go_returns
        exact ⟨by rw [Hch.out, Hd.out]; simp [risesB, *], hq⟩
      · go_returns
        exact ⟨by rw [Hch.out, Hd.out]; simp [risesB, *], hq⟩
      · go_roundw
        case rel => exact ⟨hq, k + 1, by simp, by omega, by rw [Hch.out, Hd.out]; simp [risesB, *]⟩
        case measure => simp [intOf]; omega
      · go_returns
        exact ⟨by rw [Hch.out, Hd.out]; simp [risesB, *], hq⟩
    · have i0 : ¬ (k : Int) + 1 < (l.length : Int) := by omega
      go_wp2
      go_ret
      exact ⟨by rw [Hch.out, chainB_end l k (by omega)]; simp, hb⟩

end Go.Proofs.Ytbnjfahjbemleaa
