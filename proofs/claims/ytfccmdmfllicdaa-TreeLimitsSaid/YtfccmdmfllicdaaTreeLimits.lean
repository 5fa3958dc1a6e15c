/- TreeLimits: as many nodes as may be, and one more; groups as deep as may be, and one deeper: the law answers true. No conditions. -/
import Derived.Test.YtfccmdmfllicdaaTm3
import Derived.Test.YtfccmdmfllicdaaTk
import Derived.Test.YtfccmdmfllicdaaOwn2
namespace Go.Proofs.Ytfccmdmfllicdaa
open Go.ChangeShapes Go.WideShapes Go.ChangeAt Go.RowKit Go.Joins Go.Deep
set_option linter.unusedSimpArgs false

namespace treeLimits
/-- Behind k groups, each in the one ahead of it. -/
def InvD (w0 : World) (x : Nat) (k : Nat) (wr : World) : Prop := ∃ l, TSt w0 x l [] wr ∧ Wf l ∧ l.length = k + 1 ∧ (∀ n ∈ l, n.id ≤ k ∧ n.thr = false) ∧ Up l (k + 1) k
/-- Behind k threads in the root. -/
def InvF (w0 : World) (x : Nat) (k : Nat) (wr : World) : Prop := ∃ l, TSt w0 x l [] wr ∧ Wf l ∧ l.length = k + 1 ∧ ∀ n ∈ l, n.id ≤ k
theorem InvD_ext {w0 w w' : World} {x k : Nat} (h : Hid (InvD w0 x k w)) (e : Ext w w') : Hid (InvD w0 x k w') := by
  obtain ⟨l, s, r⟩ := h.out
  exact ⟨l, s.ext e, r⟩
theorem InvF_ext {w0 w w' : World} {x k : Nat} (h : Hid (InvF w0 x k w)) (e : Ext w w') : Hid (InvF w0 x k w') := by
  obtain ⟨l, s, r⟩ := h.out
  exact ⟨l, s.ext e, r⟩
theorem InvD_xt {w0 w : World} {x k : Nat} (h : Hid (InvD w0 x k w)) : Ext w0 w := by
  obtain ⟨l, s, r⟩ := h.out
  exact s.xt
theorem invD_start {w0 : World} {x : Nat} {wr : World} (h : TSt w0 x [rootN] [] wr) : InvD w0 x 0 wr :=
  ⟨[rootN], h, rootN_wf, rfl, fun n hn => by rw [List.mem_singleton.1 hn]; exact ⟨Int.le_refl 0, rfl⟩, rootN_wf.up0⟩
theorem invF_start {w0 : World} {x : Nat} {wr : World} (h : TSt w0 x [rootN] [] wr) : InvF w0 x 0 wr :=
  ⟨[rootN], h, rootN_wf, rfl, fun n hn => by rw [List.mem_singleton.1 hn]; exact Int.le_refl 0⟩
theorem invD_ok {l : List Nd} {k : Nat} (hw : Wf l) (hl : l.length = k + 1) (hids : ∀ n ∈ l, n.id ≤ k ∧ n.thr = false) (hu : Up l (k + 1) k) (hk : k < 3) : addC l (k + 1) k (k + 1) 1 false = 0 := by
  obtain ⟨p, hp, hpe, -⟩ := hu
  refine addC_zero rfl (by omega) hw.sk.ids hp hpe (hids p hp).2 (getU_none.2 fun n hn e => ?_) (fun _ => by omega) (by omega)
  have := (hids n hn).1
  omega
theorem deep_ok {w0 : World} {x : Nat} {wr : World} {k : Nat} (h : InvD w0 x k wr) (hk : k < 3) (p i : Int) (hp : p = k) (hi : i = k + 1) :
    Calls Try.prog 13 #[.pointer (some ⟨x, 0, none⟩), .int .i64 p, .int .i64 i, .int .i64 1, .bool false] wr fun e w' => e = .returned .nilIface ∧ InvD w0 x (k + 1) w' := by
  subst hp hi
  obtain ⟨l, s, hwf, hlen, hids, hup⟩ := h
  have hac := invD_ok hwf hlen hids hup hk
  refine (ts_add s hwf (k + 1) k ((k : Int) + 1) 1 false (by omega) hup hac).mono fun e w2 h => ⟨h.1, _, h.2, hwf.add hac hup, by rw [insT_length, hlen], fun m hm => ?_, ?_⟩
  · rcases mem_insT.1 hm with rfl | hm
    · exact ⟨by show (k : Int) + 1 ≤ ((k + 1 : Nat) : Int); omega, rfl⟩
    · have := hids m hm; exact ⟨by omega, this.2⟩
  · obtain ⟨hc1, hc2, ⟨p, hp, hpe, hpt⟩, hc4, -, -⟩ := addC_ok hac
    refine ⟨_, mem_insT.2 (.inl rfl), by show (k : Int) + 1 = ((k + 1 : Nat) : Int); omega, ?_⟩
    have := up_ins (d := newN l k ((k : Int) + 1) 1 false) hwf.sk.clo (by show (0 : Int) ≤ (k : Int) + 1; omega) hc4 k p hp (by rw [hpe]; exact hup) hwf.sk.ids
    rw [hpe] at this
    exact this
theorem deep_is {w0 : World} {x : Nat} {wr : World} {k : Nat} (h : InvD w0 x k wr) (hk : k ≤ 3) (i : Int) (hi : i = k) :
    Calls Try.prog 21 #[.pointer (some ⟨x, 0, none⟩), .int .i64 i] wr fun e w' => e = .returned (.int .i64 (i + 1)) ∧ InvD w0 x k w' := by
  subst hi
  obtain ⟨l, s, hwf, hlen, hids, hup⟩ := h
  exact (ts_deep s hwf k (k + 1) (by omega) hup).mono fun e w2 h => ⟨h.1, _, h.2, hwf, hlen, hids, hup⟩
theorem deep_large {w0 : World} {x : Nat} {wr : World} (h : InvD w0 x 3 wr) :
    Calls Try.prog 13 #[.pointer (some ⟨x, 0, none⟩), .int .i64 3, .int .i64 4, .int .i64 1, .bool false] wr fun e w' => e = .returned (.iface 51 (.int .i64 12)) ∧ InvD w0 x 3 w' := by
  obtain ⟨l, s, hwf, hlen, hids, hup⟩ := h
  have hac : addC l 4 3 4 1 false = 12 := by
    obtain ⟨p, hp, hpe, -⟩ := hup
    refine addC_large rfl (by omega) hwf.sk.ids hp hpe (hids p hp).2 (getU_none.2 fun n hn e => ?_) (by omega)
    have := (hids n hn).1
    omega
  refine (ts_adde s hwf 4 3 4 1 false (by omega) hup hac (by decide)).mono fun e w2 h => ⟨?_, _, h.2, hwf, hlen, hids, hup⟩
  rw [h.1, errV_pos (by decide)]; rfl
theorem deep_none {w0 : World} {x : Nat} {wr : World} (h : InvD w0 x 3 wr) (p i : Int) (hp : 3 < p) (hi : 0 < i) :
    Calls Try.prog 13 #[.pointer (some ⟨x, 0, none⟩), .int .i64 p, .int .i64 i, .int .i64 1, .bool false] wr fun e w' => e = .returned (.iface 51 (.int .i64 13)) ∧ InvD w0 x 3 w' := by
  obtain ⟨l, s, hwf, hlen, hids, hup⟩ := h
  have hn : getU l p = none := getU_none.2 fun n hn e => by have := (hids n hn).1; omega
  refine (ts_adde s hwf 0 p i 1 false (by omega) hn (addC_nobody rfl hi hn) (by decide)).mono fun e w2 h => ⟨?_, _, h.2, hwf, hlen, hids, hup⟩
  rw [h.1, errV_pos (by decide)]; rfl
theorem flat_ok {w0 : World} {x : Nat} {wr : World} {k : Nat} (h : InvF w0 x k wr) (hk : k < 59) (i : Int) (hi : i = k + 1) :
    Calls Try.prog 13 #[.pointer (some ⟨x, 0, none⟩), .int .i64 0, .int .i64 i, .int .i64 1, .bool true] wr fun e w' => e = .returned .nilIface ∧ InvF w0 x (k + 1) w' := by
  subst hi
  obtain ⟨l, s, hwf, hlen, hids⟩ := h
  obtain ⟨r, hr, hr0, -, hrt⟩ := hwf.root
  have hac : addC l 1 0 ((k : Int) + 1) 1 true = 0 := addC_zero rfl (by omega) hwf.sk.ids hr hr0 hrt (getU_none.2 fun n hn e => by have := hids n hn; omega) (fun h => by cases h) (by omega)
  refine (ts_add s hwf 1 0 ((k : Int) + 1) 1 true (by omega) hwf.up0 hac).mono fun e w2 h => ⟨h.1, _, h.2, hwf.add hac hwf.up0, by rw [insT_length, hlen], fun m hm => ?_⟩
  rcases mem_insT.1 hm with rfl | hm
  · show (k : Int) + 1 ≤ ((k + 1 : Nat) : Int); omega
  · have := hids m hm; omega
theorem flat_full {w0 : World} {x : Nat} {wr : World} (h : InvF w0 x 59 wr) (i : Int) (hi : 59 < i) :
    Calls Try.prog 13 #[.pointer (some ⟨x, 0, none⟩), .int .i64 0, .int .i64 i, .int .i64 1, .bool true] wr fun e w' => e = .returned (.iface 51 (.int .i64 14)) ∧ InvF w0 x 59 w' := by
  obtain ⟨l, s, hwf, hlen, hids⟩ := h
  obtain ⟨r, hr, hr0, -, hrt⟩ := hwf.root
  have hac : addC l 1 0 i 1 true = 14 := addC_full rfl (by omega) hwf.sk.ids hr hr0 hrt (getU_none.2 fun n hn e => by have := hids n hn; omega) (fun h => by cases h) (by omega)
  refine (ts_adde s hwf 1 0 i 1 true (by omega) hwf.up0 hac (by decide)).mono fun e w2 h => ⟨?_, _, h.2, hwf, hlen, hids⟩
  rw [h.1, errV_pos (by decide)]; rfl
theorem flat_len {w0 : World} {x : Nat} {wr : World} {k : Nat} (h : InvF w0 x k wr) :
    Calls Try.prog 19 #[.pointer (some ⟨x, 0, none⟩)] wr fun e w' => ∃ g c, e = .returned (.slice (some ⟨g, 0, none⟩) (k + 1) c) ∧ Ext w0 w' := by
  obtain ⟨l, s, hwf, hlen, hids⟩ := h
  refine (ts_nodes s hwf (fun e => by rw [e] at hlen; cases hlen)).mono fun e w2 h => ?_
  obtain ⟨g, c, cur, h1, -, -, h2, -⟩ := h
  exact ⟨g, c, by rw [h1, hlen], h2.xt⟩

set_option maxRecDepth 100000 in
set_option linter.unusedVariables false in
set_option maxHeartbeats 8000000 in
theorem walk (n : Int) (deep : Bool) (hn : 0 ≤ n) (hn' : n ≤ 255) (w : World) :
    Calls Try.prog 6 #[.int .u8 n, .bool deep] w (Yields w (.bool true)) := by
  have hnn := fun w => run_neq_nil_nil' (P := Try.prog) w Try.underlying29
  have hen := fun w => run_eql_nil_nil' (P := Try.prog) w Try.underlying29
  have hm1 : 0 ≤ n % 8 := by omega
  have hm2 : n % 8 < 8 := by omega
  go_enter Try.func6, Try.ntmps6
  go_wp2_with fail
  refine (known_any _).yields ?_
  intro p0
  have hE0 := hid (ext_more w p0)
  generalize more w p0 = w0 at *
  go_wp2_with fail
  (with_reducible refine (ts_new w0).mono ?_)
  rintro e w1 ⟨x, rfl, s1⟩
  cases deep with
  | true =>
    have S1 := hid (invD_start s1)
    clear s1
    go_wp2_with fail
    go_loopw [6] (fun v6 wr => ∃ i : Int, v6 = .int .i64 i ∧ 1 ≤ i ∧ i ≤ 8 ∧ Hid (InvD w0 x (min (i - 1) 3).toNat wr)) (fun v6 _ => (9 - intOf v6).toNat)
    case atStart => exact ⟨1, rfl, by omega, by omega, S1⟩
    case round =>
      obtain ⟨i, rfl, h1, h8, hinv⟩ := hrel
      clear S1
      by_cases hlt : i ≤ n % 8
      · have hc : i = 1 ∨ i = 2 ∨ i = 3 ∨ i = 4 ∨ i = 5 ∨ i = 6 ∨ i = 7 := by omega
        clear h1 h8
        rcases hc with rfl | rfl | rfl | rfl | rfl | rfl | rfl
        · have hinv : Hid (InvD w0 x 0 wr) := hinv
          go_wp2_with fail
          (with_reducible refine (deep_ok hinv.out (by decide) 0 1 rfl rfl).mono ?_)
          rintro e w2 ⟨rfl, s2⟩
          have HS := hid s2
          clear s2 hinv
          go_wp2_with fail
          (with_reducible refine (deep_is HS.out (by decide) 1 rfl).mono ?_)
          rintro e w3 ⟨rfl, s3⟩
          have HS3 : Hid (InvD w0 x 1 w3) := hid s3
          clear s3 HS
          go_wp2
          go_roundw
          case rel => exact ⟨2, by go_num, by omega, by omega, HS3⟩
          case measure => simp [intOf]
        · have hinv : Hid (InvD w0 x 1 wr) := hinv
          go_wp2_with fail
          (with_reducible refine (deep_ok hinv.out (by decide) 1 2 rfl rfl).mono ?_)
          rintro e w2 ⟨rfl, s2⟩
          have HS := hid s2
          clear s2 hinv
          go_wp2_with fail
          (with_reducible refine (deep_is HS.out (by decide) 2 rfl).mono ?_)
          rintro e w3 ⟨rfl, s3⟩
          have HS3 : Hid (InvD w0 x 2 w3) := hid s3
          clear s3 HS
          go_wp2
          go_roundw
          case rel => exact ⟨3, by go_num, by omega, by omega, HS3⟩
          case measure => simp [intOf]
        · have hinv : Hid (InvD w0 x 2 wr) := hinv
          go_wp2_with fail
          (with_reducible refine (deep_ok hinv.out (by decide) 2 3 rfl rfl).mono ?_)
          rintro e w2 ⟨rfl, s2⟩
          have HS := hid s2
          clear s2 hinv
          go_wp2_with fail
          (with_reducible refine (deep_is HS.out (by decide) 3 rfl).mono ?_)
          rintro e w3 ⟨rfl, s3⟩
          have HS3 : Hid (InvD w0 x 3 w3) := hid s3
          clear s3 HS
          go_wp2
          go_roundw
          case rel => exact ⟨4, by go_num, by omega, by omega, HS3⟩
          case measure => simp [intOf]
        · have hinv : Hid (InvD w0 x 3 wr) := hinv
          go_wp2_with fail
          (with_reducible refine (deep_large hinv.out).mono ?_)
          rintro e w2 ⟨rfl, s2⟩
          have HS : Hid (InvD w0 x 3 w2) := hid s2
          clear s2 hinv
          go_wp2_with (go_at_call 22; (with_reducible refine (is_errno_to (r := true) rfl _).yields ?_); intro p1)
          go_roundw
          case rel => exact ⟨5, by go_num, by omega, by omega, InvD_ext HS (by repeat (first | exact Ext.refl _ | assumption | refine Ext.more ?_ _ | refine Ext.drew ?_ | refine Ext.drewN ?_ _ | refine Ext.alloc ?_ _ | refine Ext.setCell ?_ (by simp; try omega) _ | refine Ext.trans ?_ (by assumption)))⟩
          case measure => simp [intOf]
        · have hinv : Hid (InvD w0 x 3 wr) := hinv
          go_wp2_with fail
          (with_reducible refine (deep_none hinv.out 4 5 (by decide) (by decide)).mono ?_)
          rintro e w2 ⟨rfl, s2⟩
          have HS : Hid (InvD w0 x 3 w2) := hid s2
          clear s2 hinv
          go_wp2_with (go_at_call 22; (with_reducible refine (is_errno_to (r := true) rfl _).yields ?_); intro p1)
          go_roundw
          case rel => exact ⟨6, by go_num, by omega, by omega, InvD_ext HS (by repeat (first | exact Ext.refl _ | assumption | refine Ext.more ?_ _ | refine Ext.drew ?_ | refine Ext.drewN ?_ _ | refine Ext.alloc ?_ _ | refine Ext.setCell ?_ (by simp; try omega) _ | refine Ext.trans ?_ (by assumption)))⟩
          case measure => simp [intOf]
        · have hinv : Hid (InvD w0 x 3 wr) := hinv
          go_wp2_with fail
          (with_reducible refine (deep_none hinv.out 5 6 (by decide) (by decide)).mono ?_)
          rintro e w2 ⟨rfl, s2⟩
          have HS : Hid (InvD w0 x 3 w2) := hid s2
          clear s2 hinv
          go_wp2_with (go_at_call 22; (with_reducible refine (is_errno_to (r := true) rfl _).yields ?_); intro p1)
          go_roundw
          case rel => exact ⟨7, by go_num, by omega, by omega, InvD_ext HS (by repeat (first | exact Ext.refl _ | assumption | refine Ext.more ?_ _ | refine Ext.drew ?_ | refine Ext.drewN ?_ _ | refine Ext.alloc ?_ _ | refine Ext.setCell ?_ (by simp; try omega) _ | refine Ext.trans ?_ (by assumption)))⟩
          case measure => simp [intOf]
        · have hinv : Hid (InvD w0 x 3 wr) := hinv
          go_wp2_with fail
          (with_reducible refine (deep_none hinv.out 6 7 (by decide) (by decide)).mono ?_)
          rintro e w2 ⟨rfl, s2⟩
          have HS : Hid (InvD w0 x 3 w2) := hid s2
          clear s2 hinv
          go_wp2_with (go_at_call 22; (with_reducible refine (is_errno_to (r := true) rfl _).yields ?_); intro p1)
          go_roundw
          case rel => exact ⟨8, by go_num, by omega, by omega, InvD_ext HS (by repeat (first | exact Ext.refl _ | assumption | refine Ext.more ?_ _ | refine Ext.drew ?_ | refine Ext.drewN ?_ _ | refine Ext.alloc ?_ _ | refine Ext.setCell ?_ (by simp; try omega) _ | refine Ext.trans ?_ (by assumption)))⟩
          case measure => simp [intOf]
      · have hx := hid (InvD_xt hinv)
        go_wp2
        go_returns
        exact ⟨rfl, hE0.out.trans hx.out⟩
  | false =>
    have S1 := hid (invF_start s1)
    clear s1
    go_wp2_with fail
    go_loopw [9] (fun v9 wr => ∃ i : Int, v9 = .int .i64 i ∧ 1 ≤ i ∧ i ≤ 57 + n % 8 ∧ Hid (InvF w0 x (min (i - 1) 59).toNat wr)) (fun v9 _ => (100 - intOf v9).toNat)
    case atStart => exact ⟨1, rfl, by omega, by omega, S1⟩
    case round =>
      obtain ⟨i, rfl, h1, h8, hinv⟩ := hrel
      clear S1
      by_cases hlt : i ≤ 56 + n % 8
      · by_cases h60 : i < 60
        · have he : (min (i - 1) 59).toNat = (i - 1).toNat := by omega
          have HF := hid (flat_ok (he ▸ hinv.out) (by omega) i (by omega))
          have he2 : (i - 1).toNat + 1 = (min (i + 1 - 1) 59).toNat := by omega
          rw [he2] at HF
          clear he he2 hinv
          go_wp2_with fail
          (with_reducible refine HF.out.mono ?_)
          rintro e w2 ⟨rfl, s2⟩
          have HS := hid s2
          clear s2 HF
          go_wp2
          go_roundw
          case rel => exact ⟨i + 1, by go_num, by omega, by omega, HS⟩
          case measure => simp [intOf]; omega
        · have he : (min (i - 1) 59).toNat = 59 := by omega
          have HF := hid (flat_full (he ▸ hinv.out) i (by omega))
          have he2 : Hid (59 = (min (i + 1 - 1) 59).toNat) := hid (by omega)
          clear he hinv
          go_wp2_with fail
          (with_reducible refine HF.out.mono ?_)
          rintro e w2 ⟨rfl, s2⟩
          have HS := hid s2
          clear s2 HF
          go_wp2_with (go_at_call 22; (with_reducible refine (is_errno_to (r := true) rfl _).yields ?_); intro p1)
          go_roundw
          case rel => exact ⟨i + 1, by go_num, by omega, by omega, he2.out ▸ InvF_ext HS (by repeat (first | exact Ext.refl _ | assumption | refine Ext.more ?_ _ | refine Ext.drew ?_ | refine Ext.drewN ?_ _ | refine Ext.alloc ?_ _ | refine Ext.setCell ?_ (by simp; try omega) _ | refine Ext.trans ?_ (by assumption)))⟩
          case measure => simp [intOf]; omega
      · obtain rfl : i = 57 + n % 8 := by omega
        have HF := hid (flat_len hinv.out)
        have he : (min (57 + n % 8 - 1) 59).toNat + 1 = (min (57 + n % 8) 60).toNat := by omega
        rw [he] at HF
        clear he hinv
        go_wp2_with fail
        (with_reducible refine HF.out.mono ?_)
        rintro e w2 ⟨g, c, rfl, hx⟩
        have HX := hid hx
        clear hx HF
        go_wp2
        all_goals go_returns
        all_goals exact ⟨by simp; omega, hE0.out.trans HX.out⟩

set_option linter.unusedVariables false in
set_option maxRecDepth 100000 in
theorem lifted (os : Os) (started : os.Started) (H : Type) (enc : TypeId × Value → H) :
    ReturnsInHanded {} Try.checked os 6 .any (Rows.treeLimitsSpec.pre6 enc Try.prog Try.f6 Rows.treeLimitsRow.domain false) (Rows.treeLimitsSpec.post enc Try.prog Try.f6 false true false false) := by
  refine returnsInHanded_of_change (C := Try.checked) Own.own started (by kernel_rfl) Try.func6
    (ChangeSpec.witness6 (enc := enc) (C := Try.checked) false ⟨#[], #[.int .u8 0, .bool false], []⟩ 8 (by kernel_rfl) (by kernel_rfl) (by kernel_rfl) (by kernel_rfl)) ?_
  intro W base args ds gs before hval0 hW hcnd _
  have hval : ∀ (j : Nat) t v, Try.f6.params[j]? = some t → args[j]? = some v → Value.okWide Try.prog W .any base t v := hval0
  have hW' := hW
  obtain ⟨p, q, hA0, hV, rfl, hfz, hnd⟩ := hW
  have hA : DataW.TrodAll enc Try.prog W 0 (fun _ => true) true Try.f6.params.toList args.toList ds p := hA0
  rw [Try.params6] at hA hval
  obtain ⟨v0, vs0, d0, ds0, p0, q0, hargs, rfl, rfl, h0, r0⟩ := trodAll_cons hA
  obtain ⟨v1, vs1, d1, ds1, p1, q1, rfl, rfl, rfl, h1, r1⟩ := trodAll_cons r0
  obtain ⟨rfl, rfl, rfl⟩ := trodAll_nil r1
  obtain rfl : args = #[v0, v1] := by cases args; simp_all
  obtain ⟨rfl, rfl⟩ := trodVars_none hV
  have k0 := h0
  have lt0 : ∀ x ∈ p0, x.block < W.heap.size := by obtain ⟨m, hm⟩ := k0; exact DataW.trod_lt m _ _ _ hm
  have k1 := h1
  have lt1 : ∀ x ∈ p1, x.block < W.heap.size := by obtain ⟨m, hm⟩ := k1; exact DataW.trod_lt m _ _ _ hm
  obtain ⟨n, rfl, rfl, rfl, wn⟩ := open_int Try.underlying5 (hval 0 5 v0 rfl rfl) h0
  obtain ⟨b, rfl, rfl, rfl⟩ := open_bool Try.underlying4 (hval 1 4 v1 rfl rfl) h1
  have bn := bounds_u8 wn
  clear hA0 hval0
  refine (walk n b (by omega) (by omega) W).mono fun e W' ⟨he, hx⟩ => ?_
  subst he
  exact ⟨_, rfl, _, _, _, [], _, [], hW', trodAll_mk1 (shut_bool Try.underlying4 _), (trodAll_cons_mk (Below.trod Own.laidOut (by kernel_rfl) (of_decide_eq_true (by kernel_rfl)) k0 hx.below lt0) (trodAll_cons_mk (Below.trod Own.laidOut (by kernel_rfl) (of_decide_eq_true (by kernel_rfl)) k1 hx.below lt1) trodAll_mk0)), rfl, hx.below.frame _, fun h => by cases h⟩

theorem proved : Rows.TreeLimitsSaid :=
  OpenClaim.holds_of_wide 6 Try.f6 rfl rfl rfl rfl rfl rfl rfl ⟨rfl, rfl, rfl, rfl, rfl⟩ rfl rfl rfl rfl rfl (by kernel_rfl) Try.func6 (by kernel_rfl)
    (of_decide_eq_true (by kernel_rfl)) (by unfold Func.isWrapper; first | (rw [if_pos (by decide +kernel)]; kernel_rfl) | (rw [if_neg (by decide +kernel)]; exact ⟨rfl, rfl⟩))
    (fun os started H enc _ => lifted os started H enc)

end treeLimits
end Go.Proofs.Ytfccmdmfllicdaa
