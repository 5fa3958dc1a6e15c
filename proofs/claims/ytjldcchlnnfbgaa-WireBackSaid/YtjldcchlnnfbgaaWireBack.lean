/- WireBack: of every row of numbers and every row of sets of bits, in whatever memory: the law answers true, and its arguments read as they did. No conditions. -/
import Derived.Test.YtjldcchlnnfbgaaWireKnown
import Derived.Test.YtjldcchlnnfbgaaOwn2
import Derived.Deep.RegionWith
namespace Go.Proofs.Ytjldcchlnnfbgaa
open Go.ChangeShapes Go.WideShapes Go.ChangeAt Go.RowKit Go.Joins Go.Deep

namespace wireBack
theorem int_eq {k : IntKind} {a b : Int} (h : a = b) : Value.int k a = Value.int k b := by rw [h]
def encL (l : List Int) : List UInt8 := l.flatMap numB
def encM (l : List Int) : List UInt8 := l.flatMap bitsB
theorem encL_len : ∀ l : List Int, (encL l).length ≤ 3 * l.length
  | [] => by simp [encL]
  | x :: l => by
    have := encL_len l
    have := numB_length x
    simp only [encL, List.flatMap_cons, List.length_append, List.length_cons] at *
    omega
theorem encM_len : ∀ l : List Int, (encM l).length = 8 * l.length
  | [] => by simp [encM]
  | x :: l => by
    have := encM_len l
    have := bitsB_length x
    simp only [encM, List.flatMap_cons, List.length_append, List.length_cons] at *
    omega
theorem encL_snoc (l : List Int) (k : Nat) (h : k < l.length) : encL (l.take (k + 1)) = encL (l.take k) ++ numB l[k] := by
  unfold encL; rw [List.take_succ_eq_append_getElem h, List.flatMap_append, List.flatMap_cons, List.flatMap_nil, List.append_nil]
theorem encM_snoc (l : List Int) (k : Nat) (h : k < l.length) : encM (l.take (k + 1)) = encM (l.take k) ++ bitsB l[k] := by
  unfold encM; rw [List.take_succ_eq_append_getElem h, List.flatMap_append, List.flatMap_cons, List.flatMap_nil, List.append_nil]
theorem encL_drop (l : List Int) (k : Nat) (h : k < l.length) : encL (l.drop k) = numB l[k] ++ encL (l.drop (k + 1)) := by
  unfold encL; rw [List.drop_eq_getElem_cons h, List.flatMap_cons]
theorem encM_drop (l : List Int) (k : Nat) (h : k < l.length) : encM (l.drop k) = bitsB l[k] ++ encM (l.drop (k + 1)) := by
  unfold encM; rw [List.drop_eq_getElem_cons h, List.flatMap_cons]
theorem numB_len {n : Int} (h : -1 ≤ n) (h' : n ≤ 1048576) : (numB n).length = 1 + (if 127 ≤ n then 1 else 0) + (if 16383 ≤ n then 1 else 0) := by
  have := heldN_in h h'
  unfold numB
  rw [encN_length (heldN_le n)]
  congr 1
  · congr 1
    by_cases h1 : 127 ≤ n
    · rw [if_pos h1, if_pos (by omega)]
    · rw [if_neg h1, if_neg (by omega)]
  · by_cases h1 : 16383 ≤ n
    · rw [if_pos h1, if_pos (by omega)]
    · rw [if_neg h1, if_neg (by omega)]
theorem num_at {x : Int} (h : -1 ≤ x) (h' : x ≤ 1048576) (t : List UInt8) : (⟨numB x ++ t, 0⟩ : Rd).num 1048576 = x ∧ (⟨numB x ++ t, 0⟩ : Rd).afterNum 1048576 = ⟨t, 0⟩ := by
  have := Rd.num_good (r := ⟨numB x ++ t, 0⟩) (most := 1048576) rfl ((scan_num h h' t).trans (if_neg (by omega)))
  simpa using this
theorem bits_at {x : Int} (h : 0 ≤ x) (h' : x < 18446744073709551616) (t : List UInt8) : (⟨bitsB x ++ t, 0⟩ : Rd).bits = x ∧ (⟨bitsB x ++ t, 0⟩ : Rd).afterBits = ⟨t, 0⟩ := by
  have hl := bitsB_length x
  have h8 : 8 ≤ (bitsB x ++ t).length := by rw [List.length_append]; omega
  have ht : (bitsB x ++ t).take 8 = bitsB x := by rw [← hl, List.take_left]
  have hd : (bitsB x ++ t).drop 8 = t := by rw [← hl, List.drop_left]
  refine ⟨?_, ?_⟩
  · simp only [Rd.bits, h8, and_self, if_true, ht]
    unfold bitsB
    rw [unLe_leB 8 x.toNat (by omega)]
    omega
  · simp only [Rd.afterBits, h8, if_true, hd]
theorem inU64 {x : Int} (h : (Lit.int .u64 x).wf = true) : 0 ≤ x ∧ x < 18446744073709551616 := by
  have := bounds_u64 h
  exact ⟨by omega, by omega⟩

set_option maxRecDepth 100000 in
set_option maxHeartbeats 8000000 in
theorem walk (v v2 : Value) (l m : List Int) (w : World) (hl : Nums .i64 w v l) (hm : Nums .u64 w v2 m) :
    Calls Try.prog 3 #[v, v2] w (Yields w (.bool true)) := by
  obtain ⟨p, cap, rfl, hcap, hmax, hc⟩ := hl
  obtain ⟨p2, cap2, rfl, hcap2, hmax2, hc2⟩ := hm
  have HC := hid hc
  have HC2 := hid hc2
  clear hc hc2
  unfold maxLen at hmax hmax2
  go_enter Try.func3, Try.ntmps3
  go_wp2_with fail
  refine (known_any _).yields ?_
  intro p0
  by_cases hlen : 30 < l.length
  · go_wp2_with fail
    go_returns
    exact ⟨rfl, (by repeat (first | exact Ext.refl _ | assumption | refine Ext.more ?_ _ | refine Ext.drew ?_ | refine Ext.drewN ?_ _ | refine Ext.alloc ?_ _ | refine Ext.setCell ?_ (by simp; try omega) _ | refine Ext.trans ?_ (by assumption)))⟩
  by_cases hlen2 : 30 < m.length
  · have hlen' : (l.length : Int) ≤ 30 := by omega
    have hlb : decide ((30 : Int) < (l.length : Int)) = false := by simpa using hlen'
    go_wp2_with fail
    go_returns
    exact ⟨rfl, (by repeat (first | exact Ext.refl _ | assumption | refine Ext.more ?_ _ | refine Ext.drew ?_ | refine Ext.drewN ?_ _ | refine Ext.alloc ?_ _ | refine Ext.setCell ?_ (by simp; try omega) _ | refine Ext.trans ?_ (by assumption)))⟩
  have hlen' : (l.length : Int) ≤ 30 := by omega
  have hlen2' : (m.length : Int) ≤ 30 := by omega
  go_wp2_with fail
  have hE0 : Ext w (more w p0) := ext_more w p0
  generalize more w p0 = w0 at *
  refine (new_any _).mono ?_
  rintro e w1 ⟨rfl, rfl⟩
  have hw1 := Wr.new w0
  have k1 : Below w0.heap.size w0 (w0.alloc (.cells #[.slice none 0 0] 49 (0, 0))) := (Below.refl _ _).alloc (Nat.le_refl _) _
  generalize w0.alloc (.cells #[.slice none 0 0] 49 (0, 0)) = w1 at *
  have hs0 := hE0.size
  have hB1 : Below w.heap.size w w1 := hE0.below.trans (k1.mono hs0)
  have hw1' : Wr w.heap.size w0.heap.size [] w1 := ⟨hs0, by
    obtain ⟨_, v, hb, ho⟩ := hw1
    refine ⟨v, hb, ho.1, ?_⟩
    rcases ho.2 with hn | ⟨g, cap, cur, e1, e2, r⟩
    · exact .inl hn
    · exact .inr ⟨g, cap, cur, e1, by omega, r⟩⟩
  clear hw1 k1 hE0
  generalize w0.heap.size = b at *
  go_wp2_with fail
  go_loopw [6, 7] (fun v6 v7 wr => ∃ k : Nat, v7 = .int .i64 k ∧ k ≤ l.length ∧ (∃ sz : Nat, v6 = .int .i64 sz ∧ Hid (sz = (encL (l.take k)).length) ∧ sz ≤ 90) ∧ Wr w.heap.size b (encL (l.take k)) wr ∧ Below w.heap.size w wr ∧ ∀ i (hi : i < l.length), i < k → -1 ≤ l[i] ∧ l[i] ≤ 1048576) (fun _ v7 _ => (l.length - intOf v7).toNat)
  case atStart => exact ⟨0, rfl, by omega, ⟨0, rfl, rfl, by omega⟩, hw1', hB1, fun i hi h => by omega⟩
  case round =>
    obtain ⟨k, rfl, hk, ⟨sz, rfl, HSZ, hsz90⟩, hw, hb, hin⟩ := hrel
    have HI := hid hin
    clear hin
    by_cases hlt : k < l.length
    · obtain ⟨gb, off, rfl, hcells⟩ := HC.out (by omega)
      obtain ⟨c0, _⟩ := hcells k l[k] (by simp)
      simp only [Nat.mul_one] at c0
      have HS := hid (encL_snoc l k hlt)
      have hln := encL_len (l.take k)
      rw [List.length_take, Nat.min_eq_left hk] at hln
      have HX : Hid (∀ i (hi : i < l.length), i < k + 1 → i < k ∨ l[i] = l[k]) := fun i hi h => by
        by_cases he : i = k
        · subst he; exact .inr rfl
        · exact .inl (by omega)
      clear hcells
      have i1 : (k : Int) < (l.length : Int) := by omega
      have a0 := Ext.cell ⟨hb⟩ c0
      generalize hx : l[k] = x at *
      have HXX := hid hx
      clear hx
      by_cases h1 : x < -1
      · go_wp2_with fail
        go_returns
        exact ⟨rfl, ⟨hb⟩⟩
      by_cases h2 : 1048576 < x
      · have h1' : -1 ≤ x := by omega
        have h1b : decide (x < -1) = false := by simpa using h1'
        go_wp2_with fail
        go_returns
        exact ⟨rfl, ⟨hb⟩⟩
      have h1' : -1 ≤ x := by omega
      have h2' : x ≤ 1048576 := by omega
      have hnl := hid (numB_len h1' h2')
      go_wp2_with fail
      refine (wnum_to _ _ _ (encL (l.take (k + 1))) _ _ hw (by omega) (by rw [HS.out])).mono ?_
      rintro e w2 ⟨rfl, b2, hw2⟩
      have hb2 := hb.trans b2
      have a2 := Ext.cell ⟨hb2⟩ c0
      have HIN : Hid (∀ i (hi : i < l.length), i < k + 1 → -1 ≤ l[i] ∧ l[i] ≤ 1048576) := fun i hi h => by
        rcases HX.out i hi h with h | h
        · exact HI.out i hi h
        · rw [h]; exact ⟨h1', h2'⟩
      have hsz : Hid ((encL (l.take (k + 1))).length = (encL (l.take k)).length + (1 + (if 127 ≤ x then 1 else 0) + (if 16383 ≤ x then 1 else 0))) := by
        unfold Hid; rw [HS.out, List.length_append, hnl.out]
      have HL90 : Hid ((encL (l.take (k + 1))).length ≤ 90) := by
        have := encL_len (l.take (k + 1))
        rw [List.length_take, Nat.min_eq_left (by omega)] at this
        unfold Hid; omega
      rcases (show x < 127 ∨ (127 ≤ x ∧ x < 16383) ∨ 16383 ≤ x from by omega) with h3 | h3 | h3
      all_goals
        go_wp2
        go_roundw
        case rel => exact ⟨k + 1, by go_num, by omega, ⟨_, int_eq (by have := HSZ.out; rw [hsz.out]; ((first | rw [if_pos (by omega), if_pos (by omega)] | rw [if_pos (by omega), if_neg (by omega)] | rw [if_neg (by omega), if_neg (by omega)]); omega)), hid rfl, HL90.out⟩, hw2, hb2, HIN.out⟩
        case measure => simp [intOf]; omega
    · obtain rfl : k = l.length := by omega
      rw [List.take_length] at hw HSZ
      have hIN : Hid (∀ i (hi : i < l.length), -1 ≤ l[i] ∧ l[i] ≤ 1048576) := fun i hi => HI.out i hi hi
      have hLL := encL_len l
      clear HI hB1 hw1'
      have hb0 := hb
      go_wp2_with fail
      go_loopw [8] (fun v8 wr => ∃ k : Nat, v8 = .int .i64 k ∧ k ≤ m.length ∧ Wr w.heap.size b (encL l ++ encM (m.take k)) wr ∧ Below w.heap.size w wr) (fun v8 _ => (m.length - intOf v8).toNat)
      case atStart => exact ⟨0, rfl, by omega, by simpa [encM] using hw, hb⟩
      case round =>
        obtain ⟨k, rfl, hk, hw, hb⟩ := hrel
        by_cases hlt : k < m.length
        · obtain ⟨gb, off, rfl, hcells⟩ := HC2.out (by omega)
          obtain ⟨c0, hwf⟩ := hcells k m[k] (by simp)
          simp only [Nat.mul_one] at c0
          obtain ⟨u1, u2⟩ := inU64 hwf
          have HU := hid u2
          have HS := hid (encM_snoc m k hlt)
          have hlm := encM_len (m.take k)
          rw [List.length_take, Nat.min_eq_left hk] at hlm
          have hle : (encL l ++ encM (m.take k)).length ≤ 1000000 := by rw [List.length_append]; omega
          have HLE := hid hle
          clear hcells hlm hle hwf u2
          have i1 : (k : Int) < (m.length : Int) := by omega
          have a0 := Ext.cell ⟨hb⟩ c0
          generalize hx : m[k] = x at *
          go_wp2_with fail
          refine (wbits_to _ _ _ (encL l ++ encM (m.take (k + 1))) _ u1 HU.out _ hw HLE.out (by rw [HS.out, List.append_assoc])).mono ?_
          rintro e w2 ⟨rfl, b2, hw2⟩
          have hb2 := hb.trans b2
          go_wp2
          go_roundw
          case rel => exact ⟨k + 1, by go_num, by omega, hw2, hb2⟩
          case measure => simp [intOf]; omega
        · obtain rfl : k = m.length := by omega
          rw [List.take_length] at hw
          have hLM := encM_len m
          have hSZ := HSZ.out
          go_wp2_with fail
          refine (wstr_any _ _ _ _ hw).mono ?_
          rintro e w4 ⟨rfl, rfl⟩
          go_wp2_with fail
          refine (of_any _ _).mono ?_
          rintro e w5 ⟨rfl, rfl⟩
          have r5 := Rr.new (encL l ++ encM m) w4
          have k5 : Below w4.heap.size w4 (w4.alloc (.cells #[.string (str (encL l ++ encM m)), .nilIface] 51 (0, 0))) := (Below.refl _ _).alloc (Nat.le_refl _) _
          generalize w4.alloc (.cells #[.string (str (encL l ++ encM m)), .nilIface] 51 (0, 0)) = w5 at *
          have hw5 := hw.keep k5
          have hb5 : Below w.heap.size w w5 := hb.trans (k5.mono hb.size)
          have hsc : w.heap.size ≤ w4.heap.size := hb.size
          clear k5 hw hb
          generalize w4.heap.size = c at *
          go_wp2_with fail
          refine (wstr_any _ _ _ _ hw5).mono ?_
          rintro e w6 ⟨rfl, rfl⟩
          go_wp2_with fail
          clear hSZ
          have hLT : (encL l ++ encM m).length ≤ 1000 := by rw [List.length_append]; omega
          go_loopw [10] (fun v10 wr => ∃ k : Nat, v10 = .int .i64 k ∧ k ≤ l.length ∧ Rr c ⟨encL (l.drop k) ++ encM m, 0⟩ wr ∧ Below w.heap.size w wr) (fun v10 _ => (l.length - intOf v10).toNat)
          case atStart => exact ⟨0, rfl, by omega, by simpa using r5, hb5⟩
          case round =>
            obtain ⟨k, rfl, hk, hr, hb⟩ := hrel
            by_cases hlt : k < l.length
            · obtain ⟨gb, off, rfl, hcells⟩ := HC.out (by omega)
              obtain ⟨c0, _⟩ := hcells k l[k] (by simp)
              simp only [Nat.mul_one] at c0
              have HD := encL_drop l k hlt
              have hx := hIN.out k hlt
              have hln : (encL (l.drop k) ++ encM m).length ≤ 140737488355328 := by
                have := encL_len (l.drop k)
                rw [List.length_drop] at this
                rw [List.length_append]; omega
              rw [HD, List.append_assoc] at hr hln
              have hN := num_at hx.1 hx.2 (encL (l.drop (k + 1)) ++ encM m)
              clear hcells HD
              have i1 : (k : Int) < (l.length : Int) := by omega
              have a0 := Ext.cell ⟨hb⟩ c0
              generalize l[k] = x at *
              go_wp2_with fail
              have hrd : Rr c ⟨numB x ++ (encL (l.drop (k + 1)) ++ encM m), 0⟩ wr.drew := hr
              have hH := hid (And.intro hln hN)
              clear hln hN
              go_region_with (go_at_call 12; refine (rnum_to _ _ ⟨encL (l.drop (k + 1)) ++ encM m, 0⟩ _ x _ hrd hH.out.1 hH.out.2.1 hH.out.2.2).mono ?_; rintro e w6 ⟨rfl, r6, o6⟩; have hd := hb.drew.trans (o6.below (base := w.heap.size) hsc hb.size); have d0 := Ext.cell ⟨hd⟩ c0)
              all_goals
                go_wp2
                go_roundw
                case rel => exact ⟨k + 1, by go_num, by omega, by assumption, by assumption⟩
                case measure => simp [intOf]; omega
            · obtain rfl : k = l.length := by omega
              rw [List.drop_length] at hr
              have hr' : Rr c ⟨encM m, 0⟩ wr := hr
              go_wp2_with fail
              go_loopw [11] (fun v11 wr => ∃ k : Nat, v11 = .int .i64 k ∧ k ≤ m.length ∧ Rr c ⟨encM (m.drop k), 0⟩ wr ∧ Below w.heap.size w wr) (fun v11 _ => (m.length - intOf v11).toNat)
              case atStart => exact ⟨0, rfl, by omega, by simpa using hr', hb⟩
              case round =>
                obtain ⟨k, rfl, hk, hr, hb⟩ := hrel
                by_cases hlt : k < m.length
                · obtain ⟨gb, off, rfl, hcells⟩ := HC2.out (by omega)
                  obtain ⟨c0, hwf⟩ := hcells k m[k] (by simp)
                  simp only [Nat.mul_one] at c0
                  obtain ⟨u1, u2⟩ := inU64 hwf
                  have HD := encM_drop m k hlt
                  have hln : (encM (m.drop k)).length ≤ 140737488355328 := by
                    have := encM_len (m.drop k)
                    rw [List.length_drop] at this
                    omega
                  rw [HD] at hr hln
                  have hN := bits_at u1 u2 (encM (m.drop (k + 1)))
                  clear hcells HD hwf u2
                  have i1 : (k : Int) < (m.length : Int) := by omega
                  have a0 := Ext.cell ⟨hb⟩ c0
                  generalize m[k] = x at *
                  go_wp2_with fail
                  have hrd : Rr c ⟨bitsB x ++ encM (m.drop (k + 1)), 0⟩ wr.drew := hr
                  have hH := hid (And.intro hln hN)
                  clear hln hN
                  go_region_with (go_at_call 13; refine (rbits_to _ _ ⟨encM (m.drop (k + 1)), 0⟩ x _ hrd hH.out.1 hH.out.2.1 hH.out.2.2).mono ?_; rintro e w6 ⟨rfl, r6, o6⟩; have hd := hb.drew.trans (o6.below (base := w.heap.size) hsc hb.size); have d0 := Ext.cell ⟨hd⟩ c0)
                  all_goals
                    go_wp2
                    go_roundw
                    case rel => exact ⟨k + 1, by go_num, by omega, by assumption, by assumption⟩
                    case measure => simp [intOf]; omega
                · obtain rfl : k = m.length := by omega
                  rw [List.drop_length] at hr
                  have hr' : Rr c ⟨[], 0⟩ wr := hr
                  go_wp2_with fail
                  refine (left_any _ _ _ hr').mono ?_
                  rintro e w6 ⟨rfl, rfl⟩
                  go_wp2_with fail
                  refine (err_any _ _ _ hr').mono ?_
                  rintro e w7 ⟨rfl, rfl⟩
                  rw [errV_0]
                  go_wp2_with fail
                  go_returns
                  exact ⟨rfl, ⟨hb⟩⟩

set_option linter.unusedVariables false in
set_option maxRecDepth 100000 in
theorem lifted (os : Os) (started : os.Started) (H : Type) (enc : TypeId × Value → H) :
    ReturnsInHanded {} Try.checked os 3 .any (Rows.wireBackSpec.pre6 enc Try.prog Try.f3 Rows.wireBackRow.domain false) (Rows.wireBackSpec.post enc Try.prog Try.f3 false true false false) := by
  refine returnsInHanded_of_change (C := Try.checked) Own.own started (by kernel_rfl) Try.func3
    (ChangeSpec.witness6 (enc := enc) (C := Try.checked) false ⟨#[], #[.slice none 0 0, .slice none 0 0], []⟩ 8 (by kernel_rfl) (by kernel_rfl) (by kernel_rfl) (by kernel_rfl)) ?_
  intro W base args ds gs before hval0 hW hcnd _
  have hval : ∀ (j : Nat) t v, Try.f3.params[j]? = some t → args[j]? = some v → Value.okWide Try.prog W .any base t v := hval0
  have hW' := hW
  obtain ⟨p, q, hA0, hV, rfl, hfz, hnd⟩ := hW
  have hA : DataW.TrodAll enc Try.prog W 0 (fun _ => true) true Try.f3.params.toList args.toList ds p := hA0
  rw [Try.params3] at hA hval
  obtain ⟨v0, vs0, d0, ds0, p0, q0, hargs, rfl, rfl, h0, r0⟩ := trodAll_cons hA
  obtain ⟨v1, vs1, d1, ds1, p1, q1, rfl, rfl, rfl, h1, r1⟩ := trodAll_cons r0
  obtain ⟨rfl, rfl, rfl⟩ := trodAll_nil r1
  obtain rfl : args = #[v0, v1] := by cases args; simp_all
  obtain ⟨rfl, rfl⟩ := trodVars_none hV
  have k0 := h0
  have lt0 : ∀ x ∈ p0, x.block < W.heap.size := by obtain ⟨m, hm⟩ := k0; exact DataW.trod_lt m _ _ _ hm
  have k1 := h1
  have lt1 : ∀ x ∈ p1, x.block < W.heap.size := by obtain ⟨m, hm⟩ := k1; exact DataW.trod_lt m _ _ _ hm
  obtain ⟨a0, len0, cap0, rfl⟩ := okWide_slice Try.underlying22 (hval 0 22 v0 rfl rfl)
  obtain ⟨a1, len1, cap1, rfl⟩ := okWide_slice Try.underlying23 (hval 1 23 v1 rfl rfl)
  obtain ⟨l, hl⟩ := Own.open_nums Try.underlying22 Try.underlying3 (by kernel_rfl) h0
  obtain ⟨m, hm⟩ := Own.open_nums Try.underlying23 Try.underlying29 (by kernel_rfl) h1
  clear hA0 hval0
  refine (walk _ _ l m W hl hm).mono fun e W' ⟨he, hx⟩ => ?_
  subst he
  exact ⟨_, rfl, _, _, _, [], _, [], hW', trodAll_mk1 (shut_bool Try.underlying4 _), (trodAll_cons_mk (Below.trod Own.laidOut (by kernel_rfl) (of_decide_eq_true (by kernel_rfl)) k0 hx.below lt0) (trodAll_cons_mk (Below.trod Own.laidOut (by kernel_rfl) (of_decide_eq_true (by kernel_rfl)) k1 hx.below lt1) trodAll_mk0)), rfl, hx.below.frame _, fun h => by cases h⟩

theorem proved : Rows.WireBackSaid :=
  OpenClaim.holds_of_wide 3 Try.f3 rfl rfl rfl rfl rfl rfl rfl ⟨rfl, rfl, rfl, rfl, rfl⟩ rfl rfl rfl rfl rfl (by kernel_rfl) Try.func3 (by kernel_rfl)
    (of_decide_eq_true (by kernel_rfl)) (by unfold Func.isWrapper; first | (rw [if_pos (by decide +kernel)]; kernel_rfl) | (rw [if_neg (by decide +kernel)]; exact ⟨rfl, rfl⟩))
    (fun os started H enc _ => lifted os started H enc)

end wireBack
end Go.Proofs.Ytjldcchlnnfbgaa
