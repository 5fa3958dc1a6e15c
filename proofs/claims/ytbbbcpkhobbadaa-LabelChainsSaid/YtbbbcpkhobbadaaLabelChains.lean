/- LabelChains: of every row of labels and every place to cut it, in whatever memory: the law answers true, and its arguments read as they did. No conditions. -/
import Derived.Test.YtbbbcpkhobbadaaKnown
import Derived.Test.YtbbbcpkhobbadaaOwn
namespace Go.Proofs.Ytbbbcpkhobbadaa
open Go.ChangeShapes Go.WideShapes Go.ChangeAt Go.RowKit Go.Joins Go.Deep

namespace labelChains
theorem leq_known {a b c d : Int} {r : Bool} (h : leqB a b c d = r) (w : World) : Calls Try.prog 11 #[.agg #[.int .i64 a, .int .u64 b], .agg #[.int .i64 c, .int .u64 d]] w (Yields w (.bool r)) := h ▸ leq_any a b c d w
theorem take_part {α : Type} {n : Nat} {E : World → Nat → Nat → α → Prop} {w : World} {b off cap k : Nat} {l : List α} (hc : ∀ i x, l[i]? = some x → E w b (off + i * n) x) (hk : k ≤ l.length) (h1 : l.length ≤ cap) (h2 : cap ≤ maxLen) :
    Slc n E w (.slice (some ⟨b, off, none⟩) k cap) (l.take k) := by
  refine ⟨_, cap, by rw [List.length_take, Nat.min_eq_left hk], by rw [List.length_take]; omega, h2, fun _ => ⟨b, off, rfl, fun i x hi => hc i x ?_⟩⟩
  rw [List.getElem?_take] at hi
  split at hi
  · exact hi
  · cases hi
theorem drop_part {α : Type} {n : Nat} {E : World → Nat → Nat → α → Prop} {w : World} {b off cap k : Nat} {l : List α} (hc : ∀ i x, l[i]? = some x → E w b (off + i * n) x) (h1 : l.length ≤ cap) (h2 : cap ≤ maxLen) :
    Slc n E w (.slice (some ⟨b, off + k * n, none⟩) (l.length - k) (cap - k)) (l.drop k) := by
  refine ⟨_, cap - k, by rw [List.length_drop], by rw [List.length_drop]; omega, by omega, fun _ => ⟨b, off + k * n, rfl, fun i x hi => ?_⟩⟩
  rw [List.getElem?_drop] at hi
  have := hc (k + i) x hi
  rwa [show off + (k + i) * n = off + k * n + i * n from by rw [Nat.add_mul]; omega] at this


set_option maxRecDepth 100000 in
set_option maxHeartbeats 4000000 in
theorem walk_short (v : Value) (l : List (Int × Int)) (n : Int) (w : World) (hl : Labels w v l) (hlen : l.length < 2 ∨ 12 < l.length) :
    Calls Try.prog 6 #[v, .int .u8 n] w (Yields w (.bool true)) := by
  obtain ⟨p, cap, rfl, hcap, hmax, _⟩ := hl
  unfold maxLen at hmax
  rcases hlen with h | h
  all_goals
    go_enter Try.func6, Try.ntmps6
    go_wp2_with (go_at_call 8; refine (known_any _).yields ?_; intro p)
    go_returns
    exact ⟨rfl, (by repeat (first | exact Ext.refl _ | assumption | refine Ext.more ?_ _ | refine Ext.drew ?_ | refine Ext.drewN ?_ _ | refine Ext.alloc ?_ _ | refine Ext.setCell ?_ (by simp; try omega) _ | refine Ext.trans ?_ (by assumption)))⟩

set_option maxRecDepth 100000 in
set_option maxHeartbeats 4000000 in
theorem walk_long (b off cap : Nat) (l : List (Int × Int)) (n : Int) (hn : 0 ≤ n) (hn' : n ≤ 255) (w : World) (hcap : l.length ≤ cap) (hmax : cap ≤ maxLen) (hc : ∀ i x, l[i]? = some x → LblAt w b (off + i * 2) x) (h2 : 2 ≤ l.length) (h12 : l.length ≤ 12) :
    Calls Try.prog 6 #[.slice (some ⟨b, off, none⟩) l.length cap, .int .u8 n] w (Yields w (.bool true)) := by
  unfold maxLen at hmax
  have Hc := hid hc
  clear hc
  have h2' : (2 : Int) ≤ l.length := by omega
  have h12' : (l.length : Int) ≤ 12 := by omega
  go_enter Try.func6, Try.ntmps6
  go_wp2_with (go_at_call 8; refine (known_any _).yields ?_; intro p)
  generalize hk : n % (l.length : Int) = kk
  have hkk : 0 ≤ kk ∧ kk < l.length := by
    rw [← hk]
    exact ⟨Int.emod_nonneg _ (by omega), Int.emod_lt_of_pos _ (by omega)⟩
  obtain ⟨k, rfl⟩ := Int.eq_ofNat_of_zero_le hkk.1
  clear hk
  have hk0 : k < l.length := by omega
  have i1 : (k : Int) < (l.length : Int) := by omega
  have i2 : (k : Int) + 1 ≤ (cap : Int) := by omega
  have i3 : (0 : Int) ≤ (k : Int) := by omega
  have i4 : (k : Int) ≤ (l.length : Int) := by omega
  have hcut := hid (chainB_cut l k hk0)
  have hL : ∀ w', Ext w w' → Labels w' (.slice (some ⟨b, off, none⟩) l.length cap) l := fun w' hx => ⟨_, cap, rfl, hcap, by unfold maxLen; omega, fun _ => ⟨b, off, rfl, fun i x hi => LblAt.ext hx (Hc.out i x hi)⟩⟩
  have HL := hid hL
  clear hL hkk
  have hu : ∀ z ∈ l, U64 z.2 := fun z hz => by
    obtain ⟨i, hi⟩ := List.getElem?_of_mem hz
    exact (Hc.out i z hi).2.2
  have hends := hid (fun h => chainB_ends' l hu h2 h)
  have g0 : l[0]? = some (l.getD 0 (0, 0)) := by simp [List.getElem?_eq_getElem (show 0 < l.length by omega)]
  have g1 : l[l.length - 1]? = some (l.getD (l.length - 1) (0, 0)) := by simp [List.getElem?_eq_getElem (show l.length - 1 < l.length by omega)]
  have e0 := Hc.out _ _ g0
  have e1 := Hc.out _ _ g1
  clear g0 g1
  generalize l.getD 0 (0, 0) = x at *
  generalize l.getD (l.length - 1) (0, 0) = y at *
  simp only [Nat.zero_mul, Nat.add_zero] at e0
  obtain ⟨q0, q1, _⟩ := e0
  obtain ⟨q2, q3, _⟩ := e1
  have i5 : (0 : Int) ≤ (l.length : Int) - 1 := by omega
  have i6 : (l.length : Int) - 1 < (l.length : Int) := by omega
  have i7 : ((l.length : Int) - 1).toNat = l.length - 1 := by omega
  have i8 : (0 : Int) < (l.length : Int) := by omega
  have m0 := more_cell q0
  have m1 := more_cell q1
  have m2 := more_cell q2
  have m3 := more_cell q3
  clear q0 q1 q2 q3
  refine (chain_any _ _ l (HL.out _ (by repeat (first | exact Ext.refl _ | assumption | refine Ext.more ?_ _ | refine Ext.drew ?_ | refine Ext.drewN ?_ _ | refine Ext.alloc ?_ _ | refine Ext.setCell ?_ (by simp; try omega) _ | refine Ext.trans ?_ (by assumption))))).yields ?_
  intro p1
  cases hC : chainB l <;> cases ht : chainB (l.take (k + 1)) <;> cases hd : chainB (l.drop k)
  all_goals
    have hbad := hcut.out
    rw [hC, ht, hd] at hbad
    first
    | (exfalso; simp at hbad; done)
    | (clear hbad
       have hf : chainB l = true → eqB x.1 x.2 y.1 y.2 = false ∧ leqB x.1 x.2 y.1 y.2 = true := hends.out
       rw [hC] at hf
       simp only [forall_const, Bool.false_eq_true, false_implies] at hf
       go_wp2_with fail
       refine (chain_any _ _ (l.take (k + 1)) (take_part (fun i x hi => LblAt.ext (by repeat (first | exact Ext.refl _ | assumption | refine Ext.more ?_ _ | refine Ext.drew ?_ | refine Ext.drewN ?_ _ | refine Ext.alloc ?_ _ | refine Ext.setCell ?_ (by simp; try omega) _ | refine Ext.trans ?_ (by assumption))) (Hc.out i x hi)) (by omega) hcap (by unfold maxLen; omega))).yields ?_
       intro p2
       rw [ht]
       go_wp2_with fail
       try
         refine (chain_any _ _ (l.drop k) (drop_part (fun i x hi => LblAt.ext (by repeat (first | exact Ext.refl _ | assumption | refine Ext.more ?_ _ | refine Ext.drew ?_ | refine Ext.drewN ?_ _ | refine Ext.alloc ?_ _ | refine Ext.setCell ?_ (by simp; try omega) _ | refine Ext.trans ?_ (by assumption))) (Hc.out i x hi)) hcap (by unfold maxLen; omega))).yields ?_
         intro p3
         rw [hd]
         go_wp2_with fail
       try obtain ⟨hf1, hf2⟩ := hf
       ((first | refine wp_region_more (by kernel_rfl) (by kernel_rfl) ?_ | refine wp_region_ext (by kernel_rfl) (by kernel_rfl) ?_); (try dsimp only [append_cons', append_nil']); (repeat (go_big_quiet_step ((go_at_call 11; refine Calls.more_of (leq_known hf2 _))))); refine wpQuiet_nil ?_; rintro _ ⟨pq, rfl⟩)
       go_wp2
       go_returns
       exact ⟨by simp [*], (by repeat (first | exact Ext.refl _ | assumption | refine Ext.more ?_ _ | refine Ext.drew ?_ | refine Ext.drewN ?_ _ | refine Ext.alloc ?_ _ | refine Ext.setCell ?_ (by simp; try omega) _ | refine Ext.trans ?_ (by assumption)))⟩)
theorem walk (v : Value) (l : List (Int × Int)) (n : Int) (hn : 0 ≤ n) (hn' : n ≤ 255) (w : World) (hl : Labels w v l) :
    Calls Try.prog 6 #[v, .int .u8 n] w (Yields w (.bool true)) := by
  by_cases h : l.length < 2 ∨ 12 < l.length
  · exact walk_short v l n w hl h
  · obtain ⟨p, cap, rfl, hcap, hmax, hc⟩ := hl
    obtain ⟨b, off, rfl, hc'⟩ := hc (by omega)
    exact walk_long b off cap l n hn hn' w hcap hmax hc' (by omega) (by omega)

set_option linter.unusedVariables false in
set_option maxRecDepth 100000 in
theorem lifted (os : Os) (started : os.Started) (H : Type) (enc : TypeId × Value → H) :
    ReturnsInHanded {} Try.checked os 6 .any (Rows.labelChainsSpec.pre6 enc Try.prog Try.f6 Rows.labelChainsRow.domain false) (Rows.labelChainsSpec.post enc Try.prog Try.f6 false true false false) := by
  refine returnsInHanded_of_change (C := Try.checked) Own.own started (by kernel_rfl) Try.func6
    (ChangeSpec.witness6 (enc := enc) (C := Try.checked) false ⟨#[], #[.slice none 0 0, .int .u8 0], []⟩ 8 (by kernel_rfl) (by kernel_rfl) (by kernel_rfl) (by kernel_rfl)) ?_
  intro W base args ds gs before hval0 hW hcnd _
  have hval : ∀ (j : Nat) t v, Try.f6.params[j]? = some t → args[j]? = some v → Value.okWide Try.prog W .any base t v := hval0
  have hW' := hW
  obtain ⟨p, q, hA0, hV, rfl, hfz, hnd⟩ := hW
  have hA : DataW.TrodAll enc Try.prog W 0 (fun _ => true) true Try.f6.params.toList args.toList ds p := hA0
  rw [Try.params6] at hA hval
  obtain ⟨v0, vs0, d0, ds0, p0, q0, hargs, rfl, rfl, h0, r0⟩ := trodAll_cons hA
  obtain ⟨v1, vs1, d1, ds1, p1, q1, rfl, rfl, rfl, h1, r1⟩ := trodAll_cons r0
  obtain ⟨rfl, rfl, rfl⟩ := trodAll_nil r1
  obtain rfl : args = #[v0, v1] := by cases args; simp_all
  obtain ⟨rfl, rfl⟩ := trodVars_none hV
  have k0 := h0
  have lt0 : ∀ x ∈ p0, x.block < W.heap.size := by obtain ⟨m, hm⟩ := k0; exact DataW.trod_lt m _ _ _ hm
  have k1 := h1
  have lt1 : ∀ x ∈ p1, x.block < W.heap.size := by obtain ⟨m, hm⟩ := k1; exact DataW.trod_lt m _ _ _ hm
  obtain ⟨a0, len0, cap0, rfl⟩ := okWide_slice Try.underlying25 (hval 0 25 v0 rfl rfl)
  obtain ⟨l, hl⟩ := Own.open_labels h0
  obtain ⟨n, rfl, rfl, rfl, wn⟩ := open_int Try.underlying5 (hval 1 5 v1 rfl rfl) h1
  have bn := bounds_u8 wn
  clear hA0 hval0
  refine (walk _ l n (by omega) (by omega) W hl).mono fun e W' ⟨he, hx⟩ => ?_
  subst he
  exact ⟨_, rfl, _, _, _, [], _, [], hW', trodAll_mk1 (shut_bool Try.underlying4 _), (trodAll_cons_mk (Below.trod Own.laidOut (by kernel_rfl) (of_decide_eq_true (by kernel_rfl)) k0 hx.below lt0) (trodAll_cons_mk (Below.trod Own.laidOut (by kernel_rfl) (of_decide_eq_true (by kernel_rfl)) k1 hx.below lt1) trodAll_mk0)), rfl, hx.below.frame _, fun h => by cases h⟩

theorem proved : Rows.LabelChainsSaid :=
  OpenClaim.holds_of_wide 6 Try.f6 rfl rfl rfl rfl rfl rfl rfl ⟨rfl, rfl, rfl, rfl, rfl⟩ rfl rfl rfl rfl rfl (by kernel_rfl) Try.func6 (by kernel_rfl)
    (of_decide_eq_true (by kernel_rfl)) (by unfold Func.isWrapper; first | (rw [if_pos (by decide +kernel)]; kernel_rfl) | (rw [if_neg (by decide +kernel)]; exact ⟨rfl, rfl⟩))
    (fun os started H enc _ => lifted os started H enc)

end labelChains
end Go.Proofs.Ytbbbcpkhobbadaa
