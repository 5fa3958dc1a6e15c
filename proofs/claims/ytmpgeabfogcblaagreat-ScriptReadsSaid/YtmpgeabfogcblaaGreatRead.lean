/- What the calls of wire's Reader come to. -/
import Derived.Test.YtmpgeabfogcblaaGreatRows
import Derived.Test.YtmpgeabfogcblaaGreatStr
import Derived.Test.YtmpgeabfogcblaaGreatErrV
import Derived.Test.YtmpgeabfogcblaaGreatMath2
import Derived.WalkKit
import Derived.WalkSpells
import Derived.WalkLawsBesides
import Derived.OwnWalk
import Derived.Deep.QuietTactic
import Derived.BigQuiet
import Derived.Handy
import Derived.LaidEql
namespace Go.Proofs.YtmpgeabfogcblaaGreat
open Go.RowKit

/-! ### Blocks of cells -/
theorem blk_cell {w : World} {b : Nat} {cs : Array Value} {T : TypeId} (h : w.heap[b]? = some (.cells cs T (0, 0))) (j : Nat) : w.cell? ⟨b, j, none⟩ = cs[j]? := by simp [World.cell?, h]
theorem blk_free {w : World} {b : Nat} {cs : Array Value} {T : TypeId} (h : w.heap[b]? = some (.cells cs T (0, 0))) (j : Nat) : w.frozen? ⟨b, j, none⟩ = false := by simp [World.frozen?, h]
theorem blk_set {w : World} {b : Nat} {cs : Array Value} {T : TypeId} (h : w.heap[b]? = some (.cells cs T (0, 0))) (j : Nat) (u : Value) : (w.setCell ⟨b, j, none⟩ u).heap[b]? = some (.cells (cs.setIfInBounds j u) T (0, 0)) := by
  have hlt := lt_of_block h
  have h' : w.heap[b] = .cells cs T (0, 0) := by simpa [Array.getElem?_eq_getElem hlt] using h
  show (w.heap.modify b _)[b]? = _
  rw [Array.getElem?_eq_getElem (by simpa using hlt), Array.getElem_modify_self, h']
  rfl

/-- Nothing but block b has changed; there may be more. -/
abbrev Only (b : Nat) (w w' : World) : Prop := w.grownBy w' (some b)
theorem Only.refl (b : Nat) (w : World) : Only b w w := ⟨rfl, rfl, rfl, Nat.le_refl _, fun _ _ _ => rfl⟩
theorem Only.trans {b : Nat} {x y z : World} (h : Only b x y) (k : Only b y z) : Only b x z :=
  ⟨k.os.trans h.os, k.tape.trans h.tape, k.output.trans h.output, Nat.le_trans h.size k.size, fun i hi hn => (k.block i (Nat.lt_of_lt_of_le hi h.size) hn).trans (h.block i hi hn)⟩
theorem Only.ext {b : Nat} {x y z : World} (h : Only b x y) (k : Ext y z) : Only b x z :=
  h.trans ⟨k.below.os, k.below.tape, k.below.output, k.below.size, fun i hi _ => k.below.block i hi⟩
theorem Only.setCell {b j : Nat} {x y : World} (h : Only b x y) (u : Value) : Only b x (y.setCell ⟨b, j, none⟩ u) :=
  h.trans ⟨rfl, rfl, rfl, by simp [World.setCell], fun i hi hn => Below.heap_setCell _ _ _ _ (fun e => hn (by simp [e]))⟩
theorem Only.drew {b : Nat} {x y : World} (h : Only b x y) : Only b x y.drew := ⟨h.os, h.tape, h.output, h.size, h.block⟩
theorem Only.below {b base : Nat} {x y : World} (h : Only b x y) (hb : base ≤ b) (hs : base ≤ x.heap.size) : Below base x y :=
  ⟨h.os, h.tape, h.output, h.size, fun i hi => h.block i (by omega) (by intro e; cases e; omega)⟩
theorem Only.blk {b c : Nat} {x y : World} {o : Obj} (h : Only b x y) (hc : x.heap[c]? = some o) (hne : c ≠ b) : y.heap[c]? = some o := by
  rw [h.block c (lt_of_block hc) (by simpa using hne)]; exact hc

/-- A Reader at block b. -/
def Rr (b : Nat) (r : Rd) (w : World) : Prop := w.heap[b]? = some (.cells #[.string (str r.s), errV r.e] 83 (0, 0))
theorem Rr.cells {b : Nat} {r : Rd} {w : World} (h : Rr b r w) : w.cell? ⟨b, 0, none⟩ = some (.string (str r.s)) ∧ w.cell? ⟨b, 1, none⟩ = some (errV r.e) ∧ w.frozen? ⟨b, 0, none⟩ = false ∧ w.frozen? ⟨b, 1, none⟩ = false :=
  ⟨blk_cell h 0, blk_cell h 1, blk_free h 0, blk_free h 1⟩
theorem Rr.setLeft {b : Nat} {r : Rd} {w : World} (h : Rr b r w) (s : List UInt8) : Rr b ⟨s, r.e⟩ (w.setCell ⟨b, 0, none⟩ (.string (str s))) := blk_set h 0 _
theorem Rr.setErr {b : Nat} {r : Rd} {w : World} (h : Rr b r w) {e : Nat} (he : e ≠ 0) : Rr b ⟨r.s, e⟩ (w.setCell ⟨b, 1, none⟩ (.iface 39 (.int .i64 e))) := by
  show _ = some (Obj.cells #[.string (str r.s), errV e] _ _)
  rw [errV_pos he]
  exact blk_set h 1 _

theorem Rr.ext {b : Nat} {r : Rd} {w w' : World} (h : Rr b r w) (k : Ext w w') : Rr b r w' := by
  unfold Rr; rw [k.below.block _ (lt_of_block h)]; exact h
theorem Rr.only {b c : Nat} {r : Rd} {w w' : World} (h : Rr b r w) (k : Only c w w') (hne : b ≠ c) : Rr b r w' := k.blk h hne

theorem scan_end (most : Int) (k acc : Nat) (s : List UInt8) (h : s.length ≤ k) : scan most k acc (s.drop k) = (11, 0, 0) := by
  rw [List.drop_eq_nil_of_le h]; simp [scan]
theorem byteAt_drop (s : List UInt8) (k : Nat) (h : k < s.length) : ∃ c : UInt8, s.drop k = c :: s.drop (k + 1) ∧ byteAt s k = (c.toNat : Int) := by
  refine ⟨s[k], List.drop_eq_getElem_cons h, ?_⟩
  simp [byteAt, h]
theorem scan_next (most : Int) (k acc : Nat) (s : List UInt8) (h : k < s.length) (hk : k < 3) (hc : 128 ≤ byteAt s k) :
    scan most k acc (s.drop k) = scan most (k + 1) (acc + (byteAt s k).toNat % 128 * 128 ^ k) (s.drop (k + 1)) := by
  obtain ⟨c, e, hb⟩ := byteAt_drop s k h
  rw [e, scan, if_neg (by rintro (⟨h1, h2⟩ | ⟨h1, h2⟩) <;> omega), if_neg (by omega), hb]
  rfl
theorem scan_form (most : Int) (k acc : Nat) (s : List UInt8) (h : k < s.length) (hc : (k = 3 ∧ 128 ≤ byteAt s k) ∨ (0 < k ∧ byteAt s k = 0)) :
    scan most k acc (s.drop k) = (10, 0, 0) := by
  obtain ⟨c, e, hb⟩ := byteAt_drop s k h
  rw [e, scan, if_pos (by omega)]
theorem scan_stop (most : Int) (k acc : Nat) (s : List UInt8) (h : k < s.length) (hc : byteAt s k < 128) (h0 : k = 0 ∨ byteAt s k ≠ 0) :
    scan most k acc (s.drop k) = (if most < ((acc + (byteAt s k).toNat % 128 * 128 ^ k : Nat) : Int) - 1 then (12, 0, 0) else (0, ((acc + (byteAt s k).toNat % 128 * 128 ^ k : Nat) : Int) - 1, k + 1)) := by
  obtain ⟨c, e, hb⟩ := byteAt_drop s k h
  rw [e, scan, if_neg (by omega), if_pos (by omega), hb]
  simp

theorem Rd.num_bad {r : Rd} {most : Int} {c : Nat} (he : r.e = 0) (h : scan most 0 0 r.s = (c, 0, 0)) (hc : c ≠ 0) : r.num most = 0 ∧ r.afterNum most = ⟨r.s, c⟩ := by
  simp [Rd.num, Rd.afterNum, he, h, hc]
theorem Rd.num_good {r : Rd} {most x : Int} {n : Nat} (he : r.e = 0) (h : scan most 0 0 r.s = (0, x, n)) : r.num most = x ∧ r.afterNum most = ⟨r.s.drop n, 0⟩ := by
  simp [Rd.num, Rd.afterNum, he, h]
theorem Rd.num_err {r : Rd} {most : Int} (he : r.e ≠ 0) : r.num most = 0 ∧ r.afterNum most = r := by simp [Rd.num, Rd.afterNum, he]

set_option maxHeartbeats 400000 in
theorem of_any (s : List UInt8) (w : World) : Calls Tryz.prog 13 #[.string (str s)] w fun e w' => e = .returned (.pointer (some ⟨w.heap.size, 0, none⟩)) ∧ w' = w.alloc (.cells #[.string (str s), .nilIface] 83 (0, 0)) := by
  go_enter Tryz.func13, Tryz.ntmps13
  go_wp2
  go_returns
  exact ⟨rfl, rfl⟩
theorem Rr.new (s : List UInt8) (w : World) : Rr w.heap.size ⟨s, 0⟩ (w.alloc (.cells #[.string (str s), .nilIface] 83 (0, 0))) := heap_alloc_new w _

set_option maxHeartbeats 400000 in
theorem left_any (b : Nat) (r : Rd) (w : World) (h : Rr b r w) : Calls Tryz.prog 16 #[.pointer (some ⟨b, 0, none⟩)] w fun e w' => e = .returned (.int .i64 r.s.length) ∧ w' = w := by
  obtain ⟨c0, c1, f0, f1⟩ := h.cells
  go_enter Tryz.func16, Tryz.ntmps16
  go_wp2
  go_returns
  exact ⟨rfl, rfl⟩
set_option maxHeartbeats 400000 in
theorem err_any (b : Nat) (r : Rd) (w : World) (h : Rr b r w) : Calls Tryz.prog 45 #[.pointer (some ⟨b, 0, none⟩)] w fun e w' => e = .returned (errV r.e) ∧ w' = w := by
  obtain ⟨c0, c1, f0, f1⟩ := h.cells
  go_enter Tryz.func45, Tryz.ntmps45
  go_wp2
  go_returns
  exact ⟨rfl, rfl⟩

set_option maxRecDepth 100000 in
set_option maxHeartbeats 400000 in
theorem rnum_err (b : Nat) (r : Rd) (most : Int) (w : World) (h : Rr b r w) (he : r.e ≠ 0) :
    Calls Tryz.prog 79 #[.pointer (some ⟨b, 0, none⟩), .int .i64 most] w fun e w' => e = .returned (.int .i64 (r.num most)) ∧ Rr b (r.afterNum most) w' ∧ Only b w w' := by
  obtain ⟨hn, ha⟩ := Rd.num_err (most := most) he
  rw [hn, ha]
  obtain ⟨c0, c1, f0, f1⟩ := h.cells
  rw [errV_pos he] at c1
  go_enter Tryz.func79, Tryz.ntmps79
  go_wp2
  go_step3
  go_wp2
  rw [Exit.noGoto_ret]
  go_returns
  exact ⟨rfl, h, Only.refl _ _⟩

/-- At the label: k bytes gathered. -/
def NumJ (b : Nat) (r : Rd) (most : Int) (w : World) (a' : Act) (w' : World) : Prop :=
  ∃ (k acc : Nat) (u2 u3 u7 u8 u9 u10 u11 u12 u13 u14 u15 u16 u17 u18 u19 u20 u21 u22 u23 u24 u25 u26 u27 u28 u29 u30 u31 u32 u33 u34 u35 u36 u37 u38 u39 u40 u41 u42 u43 u44 u45 u46 u47 u48 u49 u50 u51 u52 u53 u54 u55 u56 u57 u58 u59 u60 u61 u62 u63 u64 u65 u66 u67 u68 u69 u70 u71 u72 u73 u74 u75 u76 u77 u78 : Value), a' = { tmps := #[.pointer (some ⟨b, 0, none⟩), .int .i64 most, u2, u3, .int .i64 0, .int .i64 acc, .int .i64 k, u7, u8, u9, u10, u11, u12, u13, u14, u15, u16, u17, u18, u19, u20, u21, u22, u23, u24, u25, u26, u27, u28, u29, u30, u31, u32, u33, u34, u35, u36, u37, u38, u39, u40, u41, u42, u43, u44, u45, u46, u47, u48, u49, u50, u51, u52, u53, u54, u55, u56, u57, u58, u59, u60, u61, u62, u63, u64, u65, u66, u67, u68, u69, u70, u71, u72, u73, u74, u75, u76, u77, u78], defers := [] } ∧ w' = w ∧ k ≤ 3 ∧ k ≤ r.s.length ∧ acc < 128 ^ k ∧ scan most 0 0 r.s = scan most k acc (r.s.drop k)

theorem scan_round (most : Int) (k acc : Nat) (s : List UInt8) (h : k < s.length) (hacc : acc < 128 ^ k) : ∃ acc' : Nat,
    (acc : Int) + byteAt s k % 128 * 128 ^ k = (acc' : Int) ∧ acc' < 128 ^ (k + 1) ∧
    Hid (k < 3 → 128 ≤ byteAt s k → scan most k acc (s.drop k) = scan most (k + 1) acc' (s.drop (k + 1))) ∧
    Hid ((k = 3 ∧ 128 ≤ byteAt s k) ∨ (0 < k ∧ byteAt s k = 0) → scan most k acc (s.drop k) = (10, 0, 0)) ∧
    Hid (byteAt s k < 128 → (k = 0 ∨ byteAt s k ≠ 0) → scan most k acc (s.drop k) = (if most < (acc' : Int) - 1 then (12, 0, 0) else (0, (acc' : Int) - 1, k + 1))) := by
  have hb := byteAt_bound s k
  refine ⟨acc + (byteAt s k).toNat % 128 * 128 ^ k, ?_, ?_, hid (scan_next most k acc s h), hid (scan_form most k acc s h), hid (scan_stop most k acc s h)⟩
  · have : (((byteAt s k).toNat : Nat) : Int) = byteAt s k := by omega
    simp only [Int.natCast_add, Int.natCast_mul, Int.natCast_emod, this, Int.natCast_pow]
    rfl
  · have : (byteAt s k).toNat % 128 * 128 ^ k ≤ 127 * 128 ^ k := Nat.mul_le_mul_right _ (by omega)
    rw [Nat.pow_succ]
    omega

set_option maxRecDepth 100000 in
set_option maxHeartbeats 4000000 in
theorem rnum_ok (b : Nat) (r : Rd) (most : Int) (w : World) (h : Rr b r w) (he : r.e = 0) (hlen : r.s.length ≤ 140737488355328) :
    Calls Tryz.prog 79 #[.pointer (some ⟨b, 0, none⟩), .int .i64 most] w fun e w' => e = .returned (.int .i64 (r.num most)) ∧ Rr b (r.afterNum most) w' ∧ Only b w w' := by
  have HR := hid h
  obtain ⟨c0, c1, f0, f1⟩ := h.cells
  rw [he, errV_0] at c1
  clear h
  have HE := hid he
  clear he
  go_enter Tryz.func79, Tryz.ntmps79
  go_wp2
  refine wp_goto 0 (NumJ b r most w) (fun a' _ => 4 - (intOf (a'.tmps.getD 6 undef)).toNat) rfl ?_ ?_
  · refine fun a' w' => ex_elim fun k => ex_elim fun acc => ex_elim fun u2 => ex_elim fun u3 => ex_elim fun u7 => ex_elim fun u8 => ex_elim fun u9 => ex_elim fun u10 => ex_elim fun u11 => ex_elim fun u12 => ex_elim fun u13 => ex_elim fun u14 => ex_elim fun u15 => ex_elim fun u16 => ex_elim fun u17 => ex_elim fun u18 => ex_elim fun u19 => ex_elim fun u20 => ex_elim fun u21 => ex_elim fun u22 => ex_elim fun u23 => ex_elim fun u24 => ex_elim fun u25 => ex_elim fun u26 => ex_elim fun u27 => ex_elim fun u28 => ex_elim fun u29 => ex_elim fun u30 => ex_elim fun u31 => ex_elim fun u32 => ex_elim fun u33 => ex_elim fun u34 => ex_elim fun u35 => ex_elim fun u36 => ex_elim fun u37 => ex_elim fun u38 => ex_elim fun u39 => ex_elim fun u40 => ex_elim fun u41 => ex_elim fun u42 => ex_elim fun u43 => ex_elim fun u44 => ex_elim fun u45 => ex_elim fun u46 => ex_elim fun u47 => ex_elim fun u48 => ex_elim fun u49 => ex_elim fun u50 => ex_elim fun u51 => ex_elim fun u52 => ex_elim fun u53 => ex_elim fun u54 => ex_elim fun u55 => ex_elim fun u56 => ex_elim fun u57 => ex_elim fun u58 => ex_elim fun u59 => ex_elim fun u60 => ex_elim fun u61 => ex_elim fun u62 => ex_elim fun u63 => ex_elim fun u64 => ex_elim fun u65 => ex_elim fun u66 => ex_elim fun u67 => ex_elim fun u68 => ex_elim fun u69 => ex_elim fun u70 => ex_elim fun u71 => ex_elim fun u72 => ex_elim fun u73 => ex_elim fun u74 => ex_elim fun u75 => ex_elim fun u76 => ex_elim fun u77 => ex_elim fun u78 => ?_
    rintro ⟨rfl, rfl, hk, hks, hacc, hscan⟩
    have HS := hid hscan
    clear hscan
    by_cases hlt : k < r.s.length
    · obtain ⟨acc', e, hacc', Nx, Fm, St⟩ := scan_round most k acc r.s hlt hacc
      have hb := byteAt_bound r.s k
      rcases (show k = 0 ∨ k = 1 ∨ k = 2 ∨ k = 3 from by omega) with rfl | rfl | rfl | rfl
      · simp only [Int.pow_zero, Int.mul_one] at e
        have ha : acc < 1 := hacc
        have ha' : acc' < 128 := hacc'
        clear hacc hacc'
        rcases (show 128 ≤ byteAt r.s 0 ∨ byteAt r.s 0 < 128 from by omega) with hc | hc
        · go_wp2
          go_step3
          simp only [Exit.then]
          exact ⟨rfl, ⟨1, acc', _, _, _, _, _, _, _, _, _, _, _, _, _, _, _, _, _, _, _, _, _, _, _, _, _, _, _, _, _, _, _, _, _, _, _, _, _, _, _, _, _, _, _, _, _, _, _, _, _, _, _, _, _, _, _, _, _, _, _, _, _, _, _, _, _, _, _, _, _, _, _, _, _, _, rfl, rfl, by omega, by omega, ha', HS.out.trans (Nx.out (by omega) hc)⟩, by simp [intOf]⟩
        · have Hs := hid (HS.out.trans (St.out hc (.inl rfl)))
          rcases (show byteAt r.s 0 = 0 ∨ 1 ≤ byteAt r.s 0 from by omega) with h0 | h0
          all_goals
            by_cases hl : most < (acc' : Int) - 1
            · have HQ := hid (Rd.num_bad HE.out (Hs.out.trans (if_pos hl)) (by decide))
              go_wp2
              simp only [Exit.jump]
              go_returns
              rw [HQ.out.1, HQ.out.2]
              exact ⟨rfl, HR.out.setErr (e := 12) (by decide), (Only.refl _ _).setCell _⟩
            · have HQ := hid (Rd.num_good HE.out (Hs.out.trans (if_neg hl)))
              go_wp2
              simp only [Exit.jump]
              go_returns
              rw [HQ.out.1, HQ.out.2]
              have HL := HR.out.setLeft (r.s.drop 1)
              rw [HE.out] at HL
              exact ⟨by first | rfl | (simp; omega), by simpa using HL, (Only.refl _ _).setCell _⟩
      · have e : (acc : Int) + byteAt r.s 1 % 128 * 128 = acc' := e
        have ha : acc < 128 := hacc
        have ha' : acc' < 16384 := hacc'
        clear hacc hacc'
        rcases (show 128 ≤ byteAt r.s 1 ∨ byteAt r.s 1 < 128 from by omega) with hc | hc
        · go_wp2
          go_step3
          simp only [Exit.then]
          exact ⟨rfl, ⟨2, acc', _, _, _, _, _, _, _, _, _, _, _, _, _, _, _, _, _, _, _, _, _, _, _, _, _, _, _, _, _, _, _, _, _, _, _, _, _, _, _, _, _, _, _, _, _, _, _, _, _, _, _, _, _, _, _, _, _, _, _, _, _, _, _, _, _, _, _, _, _, _, _, _, _, _, rfl, rfl, by omega, by omega, ha', HS.out.trans (Nx.out (by omega) hc)⟩, by simp [intOf]⟩
        · by_cases h0 : byteAt r.s 1 = 0
          · have HQ := hid (Rd.num_bad HE.out (HS.out.trans (Fm.out (.inr ⟨by omega, h0⟩))) (by decide))
            go_wp2
            simp only [Exit.jump]
            go_returns
            rw [HQ.out.1, HQ.out.2]
            exact ⟨rfl, HR.out.setErr (e := 10) (by decide), (Only.refl _ _).setCell _⟩
          · have Hs := hid (HS.out.trans (St.out hc (.inr h0)))
            by_cases hl : most < (acc' : Int) - 1
            · have HQ := hid (Rd.num_bad HE.out (Hs.out.trans (if_pos hl)) (by decide))
              go_wp2
              simp only [Exit.jump]
              go_returns
              rw [HQ.out.1, HQ.out.2]
              exact ⟨rfl, HR.out.setErr (e := 12) (by decide), (Only.refl _ _).setCell _⟩
            · have HQ := hid (Rd.num_good HE.out (Hs.out.trans (if_neg hl)))
              go_wp2
              simp only [Exit.jump]
              go_returns
              rw [HQ.out.1, HQ.out.2]
              have HL := HR.out.setLeft (r.s.drop 2)
              rw [HE.out] at HL
              exact ⟨rfl, HL, (Only.refl _ _).setCell _⟩
      · have e : (acc : Int) + byteAt r.s 2 % 128 * 16384 = acc' := e
        have ha : acc < 16384 := hacc
        have ha' : acc' < 2097152 := hacc'
        clear hacc hacc'
        rcases (show 128 ≤ byteAt r.s 2 ∨ byteAt r.s 2 < 128 from by omega) with hc | hc
        · go_wp2
          go_step3
          simp only [Exit.then]
          exact ⟨rfl, ⟨3, acc', _, _, _, _, _, _, _, _, _, _, _, _, _, _, _, _, _, _, _, _, _, _, _, _, _, _, _, _, _, _, _, _, _, _, _, _, _, _, _, _, _, _, _, _, _, _, _, _, _, _, _, _, _, _, _, _, _, _, _, _, _, _, _, _, _, _, _, _, _, _, _, _, _, _, rfl, rfl, by omega, by omega, ha', HS.out.trans (Nx.out (by omega) hc)⟩, by simp [intOf]⟩
        · by_cases h0 : byteAt r.s 2 = 0
          · have HQ := hid (Rd.num_bad HE.out (HS.out.trans (Fm.out (.inr ⟨by omega, h0⟩))) (by decide))
            go_wp2
            simp only [Exit.jump]
            go_returns
            rw [HQ.out.1, HQ.out.2]
            exact ⟨rfl, HR.out.setErr (e := 10) (by decide), (Only.refl _ _).setCell _⟩
          · have Hs := hid (HS.out.trans (St.out hc (.inr h0)))
            by_cases hl : most < (acc' : Int) - 1
            · have HQ := hid (Rd.num_bad HE.out (Hs.out.trans (if_pos hl)) (by decide))
              go_wp2
              simp only [Exit.jump]
              go_returns
              rw [HQ.out.1, HQ.out.2]
              exact ⟨rfl, HR.out.setErr (e := 12) (by decide), (Only.refl _ _).setCell _⟩
            · have HQ := hid (Rd.num_good HE.out (Hs.out.trans (if_neg hl)))
              go_wp2
              simp only [Exit.jump]
              go_returns
              rw [HQ.out.1, HQ.out.2]
              have HL := HR.out.setLeft (r.s.drop 3)
              rw [HE.out] at HL
              exact ⟨rfl, HL, (Only.refl _ _).setCell _⟩
      · have e : (acc : Int) + byteAt r.s 3 % 128 * 2097152 = acc' := e
        have ha : acc < 2097152 := hacc
        have ha' : acc' < 268435456 := hacc'
        clear hacc hacc'
        rcases (show 128 ≤ byteAt r.s 3 ∨ byteAt r.s 3 < 128 from by omega) with hc | hc
        · have HQ := hid (Rd.num_bad HE.out (HS.out.trans (Fm.out (.inl ⟨rfl, hc⟩))) (by decide))
          go_wp2
          simp only [Exit.jump]
          go_returns
          rw [HQ.out.1, HQ.out.2]
          exact ⟨rfl, HR.out.setErr (e := 10) (by decide), (Only.refl _ _).setCell _⟩
        · by_cases h0 : byteAt r.s 3 = 0
          · have HQ := hid (Rd.num_bad HE.out (HS.out.trans (Fm.out (.inr ⟨by omega, h0⟩))) (by decide))
            go_wp2
            simp only [Exit.jump]
            go_returns
            rw [HQ.out.1, HQ.out.2]
            exact ⟨rfl, HR.out.setErr (e := 10) (by decide), (Only.refl _ _).setCell _⟩
          · have Hs := hid (HS.out.trans (St.out hc (.inr h0)))
            by_cases hl : most < (acc' : Int) - 1
            · have HQ := hid (Rd.num_bad HE.out (Hs.out.trans (if_pos hl)) (by decide))
              go_wp2
              simp only [Exit.jump]
              go_returns
              rw [HQ.out.1, HQ.out.2]
              exact ⟨rfl, HR.out.setErr (e := 12) (by decide), (Only.refl _ _).setCell _⟩
            · have HQ := hid (Rd.num_good HE.out (Hs.out.trans (if_neg hl)))
              go_wp2
              simp only [Exit.jump]
              go_returns
              rw [HQ.out.1, HQ.out.2]
              have HL := HR.out.setLeft (r.s.drop 4)
              rw [HE.out] at HL
              exact ⟨rfl, HL, (Only.refl _ _).setCell _⟩
    · obtain rfl : k = r.s.length := by omega
      have HQ := hid (Rd.num_bad HE.out (HS.out.trans (scan_end most _ acc r.s (Nat.le_refl _))) (by decide))
      go_wp2
      simp only [Exit.jump]
      go_returns
      rw [HQ.out.1, HQ.out.2]
      exact ⟨rfl, HR.out.setErr (e := 11) (by decide), (Only.refl _ _).setCell _⟩
  · intro start
    have Start := hid start
    clear start
    go_wp2
    go_step3
    simp only [Exit.then]
    refine ‹∀ (a : Act) (w : World), Code.wp _ _ _ a w → _› _ _ ?_
    exact Start.out _ _ ⟨0, 0, _, _, _, _, _, _, _, _, _, _, _, _, _, _, _, _, _, _, _, _, _, _, _, _, _, _, _, _, _, _, _, _, _, _, _, _, _, _, _, _, _, _, _, _, _, _, _, _, _, _, _, _, _, _, _, _, _, _, _, _, _, _, _, _, _, _, _, _, _, _, _, _, _, _, rfl, rfl, by omega, by omega, by omega, rfl⟩
end Go.Proofs.YtmpgeabfogcblaaGreat
