/- Signal, Row. -/
import Derived.Test.YtoimkocjfijlkaaDoorOb6
import Derived.Maps.AppendAt
import Derived.WalkKit
import Derived.OwnWalk
import Derived.Handy
namespace Go.Proofs.YtoimkocjfijlkaaDoor
open Go.RowKit
set_option linter.unusedSimpArgs false
namespace Ob
open Go.Maps (Tidy IsMap Keyed)

section
variable {base x : Nat} {c : Nat → Int} {r : Nat → List Wt} {m : Value} {D : DataW Value} {w w' w3 w4 : World}
set_option maxHeartbeats 2000000 in
theorem signal_form (w : World) {o : Int} (h : o < 0 ∨ 4 ≤ o) : Calls Tryd.prog 9 #[ptrV x, .int .i64 o] w fun e w' => e = .returned (.tuple #[.int .i64 0, .bool false, errV 10]) ∧ w' = w := by
  have CF := hid (find_out w (x := x) h)
  clear h
  rw [errV_pos (by decide)]
  go_enter Tryd.func9, Tryd.ntmps9
  go_wp2_with (go_at_call 17; (with_reducible refine CF.out.mono ?_); rintro e w2 ⟨rfl, hw2⟩; rw [hw2]; clear hw2; clear w2)
  go_returns
  exact ⟨rfl, rfl⟩
set_option maxHeartbeats 2000000 in
theorem signal_none (h : Obs base x c r m D w) {i : Nat} (hi : i < 4) (hr : r i = []) :
    Calls Tryd.prog 9 #[ptrV x, .int .i64 i] w fun v w' => v = .returned (.tuple #[.int .i64 0, .bool false, .nilIface]) ∧ Obs base x (upd c i (min (c i + 1) 255)) r m D w' ∧ Mvp (Own x m r) (Own x m r) w w' := by
  have CF := hid (find_in w h.at' hi)
  obtain ⟨c0, c1, -⟩ := h.at'.cell hi
  simp only [hr, headOr] at c1
  have f0 := h.at'.free (i * 3)
  have hx := h.lt
  have hcb := h.cb i hi
  have HH := hid h
  have HI := hid hi
  have HC := hid hcb
  have hwr : IntKind.i64.wrap (c i + 1) = c i + 1 := IntWalk.i64_in _ (by omega)
  clear h hcb hi hr
  by_cases hlt : c i < 255
  · have hm1 : min (c i + 1) 255 = c i + 1 := by omega
    go_enter Tryd.func9, Tryd.ntmps9
    go_wp2_with (go_at_call 17; (with_reducible refine CF.out.mono ?_); rintro e w2 ⟨rfl, hw2⟩; rw [hw2]; clear hw2; clear w2)
    go_returns
    all_goals first
      | exact ⟨rfl, HH.out.setC HI.out (by have := HC.out; omega), (Mvp.refl _ w).set (g := x) (.inl rfl) _ _⟩
      | (rw [hm1]; exact ⟨rfl, HH.out.setC HI.out (by have := HC.out; omega), (Mvp.refl _ w).set (g := x) (.inl rfl) _ _⟩)
  · have hce : c i = 255 := by have := HC.out; omega
    have hm1 : min (c i + 1) 255 = 255 := by omega
    rw [hce] at c0
    go_enter Tryd.func9, Tryd.ntmps9
    go_wp2_with (go_at_call 17; (with_reducible refine CF.out.mono ?_); rintro e w2 ⟨rfl, hw2⟩; rw [hw2]; clear hw2; clear w2)
    go_returns
    rw [hm1]
    exact ⟨rfl, HH.out.setC HI.out (by omega), (Mvp.refl _ w).set (g := x) (.inl rfl) _ _⟩
/-- The first one goes. -/
def Signaled (base x : Nat) (c : Nat → Int) (r : Nat → List Wt) (m : Value) (i : Nat) (id : Int) (M : List Wt) (w : World) (e : Ending) (w' : World) : Prop :=
  e = .returned (.tuple #[.int .i64 id, .bool true, .nilIface]) ∧ ∃ D', Obs base x c (upd r i M) m D' w' ∧ Mvp (Own x m r) (Own x m (upd r i M)) w w'
set_option maxHeartbeats 2000000 in
theorem signal_one (h : Obs base x c r m D w) {i : Nat} (hi : i < 4) {e : Wt} {L : List Wt} (hr : r i = e :: L) :
    Calls Tryd.prog 9 #[ptrV x, .int .i64 i] w (Signaled base x c r m i e.1 L w) := by
  have CF := hid (find_in w h.at' hi)
  have CD := hid (drop_yes h hi (L1 := []) (e := e) (L2 := L) hr)
  obtain ⟨-, c1, -⟩ := h.at'.cell hi
  simp only [hr, headOr] at c1
  have hs := h.seg i hi
  rw [hr] at hs
  obtain ⟨e0, -, -, -⟩ := hs.1.cells
  have hx := h.lt
  have hel := hs.1.lt
  clear h hi hr hs
  go_enter Tryd.func9, Tryd.ntmps9
  go_wp2_with (first | (go_at_call 17; (with_reducible refine CF.out.mono ?_); rintro e w2 ⟨rfl, hw2⟩; rw [hw2]; clear hw2; clear w2) | (go_at_call 11; (with_reducible refine CD.out.mono ?_); rintro v w2 hd; obtain rfl := hd.1; have HD := hid hd.2; clear hd))
  go_returns
  exact ⟨rfl, HD.out⟩

set_option maxHeartbeats 1000000 in
theorem row_out (w : World) {o : Int} (h : o < 0 ∨ 4 ≤ o) : Calls Tryd.prog 14 #[ptrV x, .int .i64 o] w fun e w' => e = .returned (.slice none 0 0) ∧ w' = w := by
  have CF := hid (find_out w (x := x) h)
  clear h
  go_enter Tryd.func14, Tryd.ntmps14
  go_wp2_with fail
  refine wp_goto 0 (fun _ _ => False) (fun _ _ => 0) rfl (fun _ _ h => h.elim) fun start => ?_
  clear start
  go_wp2_with (go_at_call 17; (with_reducible refine CF.out.mono ?_); rintro e w2 ⟨rfl, hw2⟩; rw [hw2]; clear hw2; clear w2)
  simp only [Exit.jump]
  go_ret
  exact ⟨rfl, rfl⟩

def lenOf : Value → Nat
  | .slice _ n _ => n
  | _ => 0
/-- At the label: so many are told. -/
def RowJ (x i : Nat) (L : List Wt) (w : World) (a' : Act) (w' : World) : Prop :=
  ∃ (p : Option Addr) (n cap : Nat) (L2 : List Wt) (u4 u8 u9 u10 u11 u12 u13 u14 u15 u16 u17 u18 u19 u20 u21 u22 u23 u24 u25 u26 u27 u28 u29 u30 : Value), a' = { tmps := #[ptrV x, .int .i64 i, undef, undef, u4, objV x i, .slice p n cap, headOr L2 nilV, u8, u9, u10, u11, u12, u13, u14, u15, u16, u17, u18, u19, u20, u21, u22, u23, u24, u25, u26, u27, u28, u29, u30], defers := [] } ∧
    ∃ L1, L = L1 ++ L2 ∧ n = L1.length ∧ Ext w w' ∧ w'.ownsRow w.heap.size 3 1 (.slice p n cap) n (L1.map fun e => .int .i64 e.1)
set_option maxRecDepth 100000 in
set_option maxHeartbeats 2000000 in
theorem row_in (h : Obs base x c r m D w) {i : Nat} (hi : i < 4) (hl : (r i).length ≤ 1000000) :
    Calls Tryd.prog 14 #[ptrV x, .int .i64 i] w fun e w' => ∃ vd, e = .returned vd ∧ Ext w w' ∧ w'.ownsRow w.heap.size 3 1 vd (r i).length ((r i).map fun e => .int .i64 e.1) := by
  have CF := hid (find_in w h.at' hi)
  obtain ⟨-, c1, -⟩ := h.at'.cell hi
  have HS := hid (h.seg i hi)
  have hx := h.lt
  generalize r i = L at *
  have HL := hid hl
  clear h hl
  obtain ⟨i0, hi0, hz0, hz1, hz2⟩ := info_parts infoI
  go_enter Tryd.func14, Tryd.ntmps14
  go_wp2_with fail
  refine wp_goto 0 (RowJ x i L w) (fun a' _ => L.length - lenOf (a'.tmps.getD 6 undef)) rfl ?_ ?_
  · refine fun a' w1 => ex_elim fun p => ex_elim fun n => ex_elim fun cap => ex_elim fun L2 => ex_elim fun u4 => ex_elim fun u8 => ex_elim fun u9 => ex_elim fun u10 => ex_elim fun u11 => ex_elim fun u12 => ex_elim fun u13 => ex_elim fun u14 => ex_elim fun u15 => ex_elim fun u16 => ex_elim fun u17 => ex_elim fun u18 => ex_elim fun u19 => ex_elim fun u20 => ex_elim fun u21 => ex_elim fun u22 => ex_elim fun u23 => ex_elim fun u24 => ex_elim fun u25 => ex_elim fun u26 => ex_elim fun u27 => ex_elim fun u28 => ex_elim fun u29 => ex_elim fun u30 => ?_
    rintro ⟨rfl, L1, hL, hn, hX, hrow⟩
    clear c1
    cases L2 with
    | nil =>
      have HF : Hid (L = L1 ∧ n = L1.length) := ⟨by rw [hL, List.append_nil], hn⟩
      clear hL hn
      simp only [headOr]
      go_wp2
      simp only [Exit.jump]
      go_ret
      obtain ⟨h1, h2⟩ := HF.out
      subst h1 h2
      exact ⟨_, rfl, hX, hrow⟩
    | cons q L2 =>
      have hS := HS.out
      rw [hL, Seg.append] at hS
      have hq := hS.2.1
      obtain ⟨q0, -, -, q3⟩ := hq.cells
      have k0 := hX.cell q0
      have k3 := hX.cell q3
      have hql := hq.lt
      have hql1 : q.2 < w1.heap.size := Nat.lt_of_lt_of_le hql hX.size
      have hws := hX.size
      have hnL : n + 1 ≤ L.length := by rw [hL, hn]; simp
      have HF : Hid (L = L1 ++ q :: L2 ∧ n = L1.length) := ⟨hL, hn⟩
      have HNL := hid hnL
      have hb : n ≤ 1000000 := by have := HL.out; omega
      clear hS hq q0 k3 hL hn hnL
      simp only [headOr]
      go_wp2_with (at_builtin; refine wpList_push_own rfl (.tmp 19) (.tmp 24) 28 3 (.int .i64 0) 1 8 rfl Tryd.underlying28 infoI rfl (by decide) (w := w1) (base := w.heap.size) hrow (news := [.int .i64 q.1]) rfl (ints_oneCell .i64 [q.1]) (by unfold maxLen; omega) (by omega) hws (by rfl) (nb := w1.heap.size) (by rfl) rfl ?_; intro p2 c2 w2 ho2 hb2; have X2 : Ext w w2 := ⟨Below.trans hX.below hb2⟩; have k3 := X2.cell q3; have hql2 : q.2 < w2.heap.size := Nat.lt_of_lt_of_le hql X2.size; have HX2 := hid X2; have HO2 := hid ho2; clear X2 ho2 hb2)
      go_step3
      simp only [Exit.then]
      obtain ⟨h1, h2⟩ := HF.out
      refine ⟨rfl, ⟨p2, n + 1, c2, L2, _, _, _, _, _, _, _, _, _, _, _, _, _, _, _, _, _, _, _, _, _, _, _, _, rfl, L1 ++ [q], by rw [h1]; simp, by rw [h2]; simp, HX2.out, by rw [List.map_append]; exact HO2.out⟩, ?_⟩
      have := HNL.out
      simp [lenOf]
      omega
  · intro start
    have Start := hid start
    clear start
    go_wp2_with (go_at_call 17; (with_reducible refine CF.out.mono ?_); rintro e w2 ⟨rfl, hw2⟩; rw [hw2]; clear hw2; clear w2)
    go_step3
    simp only [Exit.then]
    refine ‹∀ (a : Act) (w : World), Code.wp _ _ _ a w → _› _ _ ?_
    exact Start.out _ _ ⟨none, 0, 0, L, _, _, _, _, _, _, _, _, _, _, _, _, _, _, _, _, _, _, _, _, _, _, _, _, rfl, [], rfl, rfl, Ext.refl _, World.ownsRow_nil _ _ _ _⟩
end
end Ob
end Go.Proofs.YtoimkocjfijlkaaDoor
