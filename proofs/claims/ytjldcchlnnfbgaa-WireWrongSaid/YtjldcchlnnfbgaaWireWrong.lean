/- WireWrong: of every number, every way to spoil it and every bound, in whatever memory: the law answers true, and its arguments read as they did. No conditions. -/
import Derived.Test.YtjldcchlnnfbgaaWireKnown
import Derived.Test.YtjldcchlnnfbgaaOwn2
import Derived.ArgAppend
import Derived.Deep.Light
namespace Go.Proofs.Ytjldcchlnnfbgaa
open Go.ChangeShapes Go.WideShapes Go.ChangeAt Go.RowKit Go.Joins Go.Deep

namespace wireWrong
theorem enc_ends : ∀ (r : Nat), r ≤ 2097151 → ∃ (pre : List UInt8) (z : UInt8), encN r = pre ++ [z] ∧ (∀ c ∈ pre, 128 ≤ c.toNat) ∧ z.toNat < 128 := by
  intro r
  induction r using Nat.strongRecOn with
  | ind r ih =>
    intro hr
    by_cases h : r < 128
    · exact ⟨[], UInt8.ofNat r, by rw [encN_lt h]; rfl, by simp, by rw [UInt8.toNat_ofNat']; omega⟩
    · obtain ⟨pre, z, e, h1, h2⟩ := ih (r / 128) (by omega) (by omega)
      refine ⟨UInt8.ofNat (128 + r % 128) :: pre, z, by rw [encN_ge (by omega), e]; rfl, ?_, h2⟩
      intro c hc
      rcases List.mem_cons.1 hc with rfl | hc
      · rw [UInt8.toNat_ofNat']; omega
      · exact h1 c hc
theorem num_ends (n : Int) : ∃ (pre : List UInt8) (z : UInt8), numB n = pre ++ [z] ∧ (∀ c ∈ pre, 128 ≤ c.toNat) ∧ z.toNat < 128 ∧ pre.length ≤ 2 := by
  have := heldN_le n
  obtain ⟨pre, z, e, h1, h2⟩ := enc_ends (heldN n) (by omega)
  have hl := numB_length n
  unfold numB at *
  rw [e] at hl
  exact ⟨pre, z, e, h1, h2, by simpa using hl⟩
theorem scan_pre (most : Int) : ∀ (pre t : List UInt8) (i acc : Nat), (∀ c ∈ pre, 128 ≤ c.toNat) → i + pre.length ≤ 3 → ∃ acc', scan most i acc (pre ++ t) = scan most (i + pre.length) acc' t
  | [], t, i, acc, _, _ => ⟨acc, rfl⟩
  | c :: pre, t, i, acc, h, hl => by
    have hc := h c (by simp)
    simp only [List.length_cons] at hl
    obtain ⟨acc', e⟩ := scan_pre most pre t (i + 1) (acc + c.toNat % 128 * 128 ^ i) (fun x hx => h x (List.mem_cons_of_mem _ hx)) (by omega)
    refine ⟨acc', ?_⟩
    rw [List.cons_append, scan, if_neg (by rintro (⟨h1, h2⟩ | ⟨h1, h2⟩) <;> omega), if_neg (by omega), e]
    congr 1
    simp only [List.length_cons]; omega
theorem scan_cut (most : Int) (pre : List UInt8) (h : ∀ c ∈ pre, 128 ≤ c.toNat) (hl : pre.length ≤ 3) : scan most 0 0 pre = (11, 0, 0) := by
  obtain ⟨acc', e⟩ := scan_pre most pre [] 0 0 h (by omega)
  rw [List.append_nil] at e
  rw [e]; rfl
theorem scan_long (most : Int) (pre : List UInt8) (h : ∀ c ∈ pre, 128 ≤ c.toNat) (hl : pre.length ≤ 3) (h0 : 0 < pre.length) : scan most 0 0 (pre ++ [0]) = (10, 0, 0) := by
  obtain ⟨acc', e⟩ := scan_pre most pre [0] 0 0 h (by omega)
  rw [e, scan, if_pos (.inl ⟨by omega, rfl⟩)]

set_option maxRecDepth 100000 in
set_option maxHeartbeats 4000000 in
theorem walk_out (n how most : Int) (w : World) (h : n < -1 ∨ 1048576 < n ∨ most < -1 ∨ 1048576 < most) :
    Calls Try.prog 4 #[.int .i64 n, .int .u8 how, .int .i64 most] w (Yields w (.bool true)) := by
  by_cases h1 : n < -1
  · go_enter Try.func4, Try.ntmps4
    go_wp2_with (go_at_call 6; refine (known_any _).yields ?_; intro p)
    go_returns
    exact ⟨rfl, (by repeat (first | exact Ext.refl _ | assumption | refine Ext.more ?_ _ | refine Ext.drew ?_ | refine Ext.drewN ?_ _ | refine Ext.alloc ?_ _ | refine Ext.setCell ?_ (by simp; try omega) _ | refine Ext.trans ?_ (by assumption)))⟩
  by_cases h2 : 1048576 < n
  · go_enter Try.func4, Try.ntmps4
    go_wp2_with (go_at_call 6; refine (known_any _).yields ?_; intro p)
    go_returns
    exact ⟨rfl, (by repeat (first | exact Ext.refl _ | assumption | refine Ext.more ?_ _ | refine Ext.drew ?_ | refine Ext.drewN ?_ _ | refine Ext.alloc ?_ _ | refine Ext.setCell ?_ (by simp; try omega) _ | refine Ext.trans ?_ (by assumption)))⟩
  by_cases h3 : most < -1
  · go_enter Try.func4, Try.ntmps4
    go_wp2_with (go_at_call 6; refine (known_any _).yields ?_; intro p)
    go_returns
    exact ⟨rfl, (by repeat (first | exact Ext.refl _ | assumption | refine Ext.more ?_ _ | refine Ext.drew ?_ | refine Ext.drewN ?_ _ | refine Ext.alloc ?_ _ | refine Ext.setCell ?_ (by simp; try omega) _ | refine Ext.trans ?_ (by assumption)))⟩
  · have h4 : 1048576 < most := by omega
    go_enter Try.func4, Try.ntmps4
    go_wp2_with (go_at_call 6; refine (known_any _).yields ?_; intro p)
    go_returns
    exact ⟨rfl, (by repeat (first | exact Ext.refl _ | assumption | refine Ext.more ?_ _ | refine Ext.drew ?_ | refine Ext.drewN ?_ _ | refine Ext.alloc ?_ _ | refine Ext.setCell ?_ (by simp; try omega) _ | refine Ext.trans ?_ (by assumption)))⟩

/-- The way to the switch: what b is. -/
structure Spoilt (w0 w : World) (g cap : Nat) (bs : List UInt8) : Prop where
  ext : Ext w0 w
  new : w0.heap.size ≤ g
  lt : g < w.heap.size
  fits : bs.length ≤ cap
  cell : ∀ j (hj : j < bs.length), w.cell? ⟨g, j, none⟩ = some (bcell bs[j])
  spare : ∀ j, j < cap → (w.cell? ⟨g, j, none⟩).isSome = true ∧ w.frozen? ⟨g, j, none⟩ = false

theorem spoilt_of {w0 w : World} (bs : List UInt8) (cap : Nat) (hx : Ext w0 w) (hcap : bs.length ≤ cap) :
    Spoilt w0 (w.drew.alloc (.cells (bytesRow (str bs) cap) 5 ((bytesRow (str bs) cap).size, (bytesRow (str bs) cap).size + 1))) w.heap.size cap bs := by
  have hsz : (bytesRow (str bs) cap).size = cap := by
    have : (str bs).data.size = bs.length := by simp [str]
    simp only [bytesRow, Array.size_append, Array.size_map, Array.size_replicate, str_size]; omega
  refine ⟨hx.drew.alloc _, hx.size, by simp, hcap, fun j hj => ?_, fun j hj => ⟨?_, ?_⟩⟩
  · rw [show w.heap.size = w.drew.heap.size from rfl, World.cell?_alloc_mark, bytesRow_at _ _ _ (by simpa [str] using hj)]
    simp [str, bcell]
  · rw [show w.heap.size = w.drew.heap.size from rfl, World.cell?_alloc_mark]
    simp [hsz, hj]
  · rw [show w.heap.size = w.drew.heap.size from rfl, World.frozen?_alloc_mark]
    simp [hsz]; omega

theorem spoil (bs : List UInt8) (w : World) : ∃ g cap W, (convert 9 40 (.string (str bs))).run Try.prog w = .ok (.slice (some ⟨g, 0, none⟩) bs.length cap) W ∧ Spoilt w W g cap bs := by
  have h := run_bytes_of_string (P := Try.prog) w 9 40 5 (str bs) Try.underlying9 Try.underlying40 Try.underlying5
  have hge := grownCap_ge w (str bs).size 0 5
  rw [str_size] at h hge
  exact ⟨_, _, _, h, spoilt_of bs _ (Ext.refl _) hge⟩
theorem Spoilt.back {w0 w : World} {g cap : Nat} {bs : List UInt8} (h : Spoilt w0 w g cap bs) (k : Nat) (hk : k ≤ bs.length) :
    (convert 40 9 (.slice (some ⟨g, 0, none⟩) k cap)).run Try.prog w = .ok (.string (str (bs.take k))) w := by
  have := run_string_of_bytes (P := Try.prog) w 40 9 5 ⟨g, 0, none⟩ cap (bs.take k) Try.underlying40 Try.underlying5 Try.underlying9 (fun j hj => by
    rw [List.length_take] at hj
    rw [add_add, Nat.zero_add, h.cell j (by omega)]
    simp [bcell])
  rwa [List.length_take, Nat.min_eq_left hk] at this

theorem u8_or_128 : ∀ n : Fin 128, bits BinOp.or IntKind.u8 (n.val : Int) 128 = (n.val : Int) + 128 := by decide +kernel
theorem or_top (z : UInt8) (h : z.toNat < 128) : bits BinOp.or IntKind.u8 (z.toNat : Int) 128 = ((UInt8.ofNat (z.toNat + 128)).toNat : Int) := by
  have := u8_or_128 ⟨z.toNat, h⟩
  rw [UInt8.toNat_ofNat', Nat.mod_eq_of_lt (by omega), this]
  simp
theorem Spoilt.top {w0 w : World} {g cap : Nat} {pre : List UInt8} {z : UInt8} (h : Spoilt w0 w g cap (pre ++ [z])) (c : UInt8) : Spoilt w0 (w.setCell ⟨g, pre.length, none⟩ (.int .u8 c.toNat)) g cap (pre ++ [c]) := by
  have hf := h.fits
  simp only [List.length_append, List.length_cons, List.length_nil] at hf
  have hsome : ∀ j, j < cap → (w.cell? ⟨g, j, none⟩).isSome = true := fun j hj => (h.spare j hj).1
  refine ⟨h.ext.setCell h.new _, h.new, by simpa [World.setCell] using h.lt, by simpa using hf, fun j hj => ?_, fun j hj => ⟨?_, ?_⟩⟩
  · simp only [List.length_append, List.length_cons, List.length_nil] at hj
    by_cases he : j = pre.length
    · subst he
      obtain ⟨v', hv'⟩ := Option.isSome_iff_exists.1 (hsome pre.length (by omega))
      simp [bcell, hv', go_sem]
    · have hc := h.cell j (by simp; omega)
      rw [List.getElem_append_left (by omega)] at hc ⊢
      rw [← hc]
      exact World.cell?_setCell_other _ _ _ _ (fun h => he (by cases h; rfl))
  · by_cases he : j = pre.length
    · subst he
      obtain ⟨v', hv'⟩ := Option.isSome_iff_exists.1 (hsome pre.length (by omega))
      simp [hv', go_sem]
    · have := hsome j hj
      rw [← this]
      congr 1
      exact World.cell?_setCell_other _ _ _ _ (fun h => he (by cases h; rfl))
  · rw [← (h.spare j hj).2]
    exact World.frozen?_setCell ..

theorem wpList_push {ops : Array Oper} {rest : List Oper} {o : Oper} {a : Act} {Q : Exit → Act → World → Prop} (hg : o.guard = none) (s x : Operand)
    (hop : o.op = Op.call { callee := Callee.builtin Builtin.append, args := #[s, x], argTypes := #[40, 40] })
    {w0 w : World} {g cap n : Nat} {bs : List UInt8} (h : Spoilt w0 w g cap bs) (hn : bs.length = n) (hlen : n ≤ 100) (c : UInt8) (m : Int) (hm : m = c.toNat)
    (hs : a.eval s = .slice (some ⟨g, 0, none⟩) n cap) (nb : Nat) (hnb : nb = w.heap.size) (hx : a.eval x = .slice (some ⟨nb, 0, none⟩) 1 1)
    (k : ∀ p m cp w1, (convert 40 9 (.slice p m cp)).run Try.prog w1 = .ok (.string (str (bs ++ [c]))) w1 → Ext w0 w1 → wpList Try.prog ops Q rest (a.put o.dst (.slice p m cp)) w1) :
    wpList Try.prog ops Q (o :: rest) a (w.alloc (.cells #[.int .u8 m] 5)) := by
  subst hm hn hnb
  obtain ⟨i0, hi, hz0, hz1, hz2⟩ := info_parts Try.info5
  have hgs : g < (w.alloc (.cells #[.int .u8 c.toNat] 5)).heap.size := by have := h.lt; simp; omega
  have hold : ∀ j, (w.alloc (.cells #[.int .u8 c.toNat] 5)).cell? ⟨g, j, none⟩ = w.cell? ⟨g, j, none⟩ := fun j => World.cell?_alloc_lt _ _ _ h.lt
  have hfr : ∀ j, (w.alloc (.cells #[.int .u8 c.toNat] 5)).frozen? ⟨g, j, none⟩ = w.frozen? ⟨g, j, none⟩ := fun j => World.frozen?_alloc_old _ _ _ (Nat.ne_of_lt h.lt)
  refine wpList_append_arg _ hg s x 40 hop 5 i0 (.int .u8 0) 1 1 Try.underlying40 hi hz0 hz1 hz2 rfl (by decide) g 0 bs.length cap (bs.map bcell) hs (by simp) (fun j u hj => ?_) ⟨w.heap.size, 0, none⟩ 1 1 [bcell c] hx rfl (fun j u hj => ?_) (fun u hu => by simp at hu; subst hu; rfl) (fun hr j hj => ?_) (by unfold maxLen; omega) (by omega) (fun hr => ?_) (fun hr v' w' ho hgr => ?_)
  · rw [Nat.zero_add, hold]
    rw [List.getElem?_map] at hj
    obtain ⟨y, hy, rfl⟩ := Option.map_eq_some_iff.1 hj
    obtain ⟨hlt, rfl⟩ := List.getElem?_eq_some_iff.1 hy
    exact h.cell j hlt
  · match j, hj with
    | 0, hj => simp at hj; subst hj; simp [bcell, Addr.add]
  · simp at hj
    subst hj
    rw [hold, hfr]
    simpa using h.spare bs.length (by omega)
  · refine k _ _ _ _ ?_ ?_
    · have := run_string_of_bytes (P := Try.prog) ((w.alloc (.cells #[.int .u8 c.toNat] 5)).setCells g (0 + bs.length * 1) [bcell c]) 40 9 5 ⟨g, 0, none⟩ cap (bs ++ [c]) Try.underlying40 Try.underlying5 Try.underlying9 (fun j hj => by
        rw [add_add]
        simp only [List.length_append, List.length_cons, List.length_nil] at hj
        by_cases he : j = bs.length
        · subst he
          have := World.cell?_setCells_in g [bcell c] (0 + bs.length * 1) (w.alloc (.cells #[.int .u8 c.toNat] 5)) (fun i hi => by
            simp at hi; subst hi; rw [hold]; simpa using (h.spare bs.length (by omega)).1) 0 (by simp)
          simpa [bcell] using this
        · rw [World.cell?_setCells_out g [bcell c] _ _ _ (fun _ _ => by simp; omega), Nat.zero_add, hold, h.cell j (by omega)]
          rw [List.getElem_append_left (by omega)]
          rfl)
      simpa using this
    · exact Ext.setCell (h.ext.alloc _) h.new _
  · obtain ⟨p, m, cp, rfl⟩ : ∃ p m cap, v' = .slice p m cap := by
      rcases ho.2 with ⟨rfl, _⟩ | ⟨g, cap, cur, rfl, _⟩
      · exact ⟨_, _, _, rfl⟩
      · exact ⟨_, _, _, rfl⟩
    refine k _ _ _ _ ?_ ?_
    · have hO : OwnB w' (w.alloc (.cells #[.int .u8 c.toNat] 5)).heap.size 5 (.slice p m cp) (bs ++ [c]) := by unfold OwnB; simpa using ho
      exact hO.ofBytes Try.underlying40 Try.underlying5 Try.underlying9
    · exact (h.ext.alloc _).trans ⟨⟨hgr.os, hgr.tape, hgr.output, hgr.size, fun i hi => hgr.block i hi (by simp)⟩⟩

set_option maxRecDepth 100000 in
set_option maxHeartbeats 4000000 in
theorem walk_in (n how most : Int) (hh : 0 ≤ how) (hh' : how ≤ 255) (h1 : -1 ≤ n) (h2 : n ≤ 1048576) (h3 : -1 ≤ most) (h4 : most ≤ 1048576) (w : World) :
    Calls Try.prog 4 #[.int .i64 n, .int .u8 how, .int .i64 most] w (Yields w (.bool true)) := by
  obtain ⟨pre, z, hpz, hpre, hz, hpl⟩ := num_ends n
  have hsc := scan_num (most := most) h1 h2 []
  rw [List.append_nil] at hsc
  have HS := hid hsc
  clear hsc
  have hnl := numB_length n
  have hnp := numB_pos n
  have HPZ := hid hpz
  have HPRE := hid hpre
  clear hpz hpre
  go_enter Try.func4, Try.ntmps4
  go_wp2_with fail
  refine (known_any _).yields ?_
  intro p0
  go_wp2_with fail
  have hE0 : Ext w (more w p0) := ext_more w p0
  generalize more w p0 = w0 at *
  refine (new_any _).mono ?_
  rintro e w1 ⟨rfl, rfl⟩
  have hw1 := Wr.new w0
  have k1 : Below w0.heap.size w0 (w0.alloc (.cells #[.slice none 0 0] 49 (0, 0))) := (Below.refl _ _).alloc (Nat.le_refl _) _
  generalize w0.alloc (.cells #[.slice none 0 0] 49 (0, 0)) = w1 at *
  go_wp2_with fail
  refine (wnum_to _ _ _ (numB n) _ _ hw1 (by simp) (by rfl)).mono ?_
  rintro e w2 ⟨rfl, b2, hw2⟩
  go_wp2_with fail
  refine (wstr_any _ _ _ _ hw2).mono ?_
  rintro e w3 ⟨rfl, rfl⟩
  have hE2 : Ext w w3 := ⟨hE0.below.trans ((k1.trans b2).mono hE0.size)⟩
  clear hE0 hw1 k1 b2 hw2
  obtain ⟨g, cap, W, hconv, hsp⟩ := spoil (numB n) w3
  have hEW : Ext w W := hE2.trans hsp.ext
  have hcapl := hsp.fits
  rcases (show how % 4 = 0 ∨ how % 4 = 1 ∨ how % 4 = 2 ∨ how % 4 = 3 from by omega) with hq | hq | hq | hq
  · have hb := hsp.back _ (Nat.le_refl _)
    rw [List.take_length] at hb
    go_wp2_with fail
    refine (of_any _ _).mono ?_
    rintro e w5 ⟨rfl, rfl⟩
    have r5 := Rr.new (numB n) W
    have e5 : Ext w (W.alloc (.cells #[.string (str (numB n)), .nilIface] 51 (0, 0))) := hEW.alloc _
    generalize W.alloc (.cells #[.string (str (numB n)), .nilIface] 51 (0, 0)) = w5 at *
    have hWs := hEW.size
    by_cases hnm : most < n
    · have hN := Rd.num_bad (r := ⟨numB n, 0⟩) rfl (HS.out.trans (if_pos hnm)) (by decide)
      go_wp2_with fail
      refine (rnum_to _ _ ⟨numB n, 12⟩ _ 0 _ r5 (by simp only []; omega) hN.1 hN.2).mono ?_
      rintro e w6 ⟨rfl, r6, o6⟩
      have e6 := e5.below.trans (o6.below (base := w.heap.size) hWs e5.size)
      go_wp2_with fail
      refine (err_any _ _ _ r6).mono ?_
      rintro e w7 ⟨rfl, rfl⟩
      rw [errV_pos (e := 12) (by decide)]
      go_wp2_with fail
      refine (Err.is_errno 12 12 _).mono ?_
      rintro e w8 ⟨rfl, hx⟩
      have r8 := r6.ext hx
      have e8 := Ext.trans ⟨e6⟩ hx
      go_wp2_with fail
      refine (rbits_to _ _ ⟨numB n, 12⟩ 0 _ r8 (by simp only []; omega) (by simp [Rd.bits]) (by simp [Rd.afterBits])).mono ?_
      rintro e w9 ⟨rfl, r9, o9⟩
      have e9 := e8.below.trans (o9.below (base := w.heap.size) hWs e8.size)
      go_wp2_with fail
      refine (err_any _ _ _ r9).mono ?_
      rintro e wa ⟨rfl, rfl⟩
      rw [errV_pos (e := 12) (by decide)]
      go_wp2_with fail
      refine (Err.is_errno 12 12 _).mono ?_
      rintro e wb ⟨rfl, hx'⟩
      go_wp2_with fail
      go_returns
      exact ⟨rfl, Ext.trans ⟨e9⟩ hx'⟩
    · have hN := Rd.num_good (r := ⟨numB n, 0⟩) rfl (HS.out.trans (if_neg hnm))
      simp only [List.drop_length] at hN
      have hnm' : n ≤ most := by omega
      go_wp2_with fail
      refine (rnum_to _ _ ⟨[], 0⟩ _ n _ r5 (by simp only []; omega) hN.1 hN.2).mono ?_
      rintro e w6 ⟨rfl, r6, o6⟩
      have e6 := e5.below.trans (o6.below (base := w.heap.size) hWs e5.size)
      go_wp2_with fail
      refine (err_any _ _ _ r6).mono ?_
      rintro e w7 ⟨rfl, rfl⟩
      rw [errV_0]
      go_wp2_with fail
      go_returns
      exact ⟨rfl, ⟨e6⟩⟩
  · have hpz := HPZ.out
    have hlen : (numB n).length = pre.length + 1 := by rw [hpz]; simp
    have hb := hsp.back pre.length (by omega)
    rw [show (numB n).take pre.length = pre from by rw [hpz]; simp] at hb
    have hN := Rd.num_bad (r := ⟨pre, 0⟩) rfl (scan_cut 1048576 pre HPRE.out (by omega)) (by decide)
    clear hpz
    rw [hlen] at hconv hcapl
    have hsp := hid hsp
    go_wp2_with fail
    refine (of_any _ _).mono ?_
    rintro e w5 ⟨rfl, rfl⟩
    have r5 := Rr.new pre W
    have e5 : Ext w (W.alloc (.cells #[.string (str pre), .nilIface] 51 (0, 0))) := hEW.alloc _
    generalize W.alloc (.cells #[.string (str pre), .nilIface] 51 (0, 0)) = w5 at *
    have hWs := hEW.size
    go_wp2_with fail
    refine (rnum_to _ _ ⟨pre, 11⟩ _ 0 _ r5 (by simp only []; omega) hN.1 hN.2).mono ?_
    rintro e w6 ⟨rfl, r6, o6⟩
    have e6 := e5.below.trans (o6.below (base := w.heap.size) hWs e5.size)
    go_wp2_with fail
    refine (err_any _ _ _ r6).mono ?_
    rintro e w7 ⟨rfl, rfl⟩
    rw [errV_pos (e := 11) (by decide)]
    go_wp2_with fail
    refine (Err.is_errno 11 11 _).mono ?_
    rintro e w8 ⟨rfl, hx⟩
    have r8 := r6.ext hx
    go_wp2_with fail
    refine (left_any _ _ _ r8).mono ?_
    rintro e w9 ⟨rfl, rfl⟩
    go_wp2_with fail
    go_returns
    exact ⟨rfl, Ext.trans ⟨e6⟩ hx⟩
  · have hpz := HPZ.out
    have hlen : (numB n).length = pre.length + 1 := by rw [hpz]; simp
    have hc := hsp.cell pre.length (by omega)
    have hf := (hsp.spare pre.length (by omega)).2
    rw [show (numB n)[pre.length]'(by omega) = z from by simp [hpz]] at hc
    unfold bcell at hc
    rw [hpz] at hsp
    have hST := hid (hsp.top (UInt8.ofNat (z.toNat + 128)))
    have hor := or_top z hz
    clear hpz
    rw [hlen] at hconv hcapl
    have HP := HPRE.out
    have hl2 : (pre ++ [UInt8.ofNat (z.toNat + 128)]).length = pre.length + 1 := by simp
    have hN := Rd.num_bad (r := ⟨pre ++ [UInt8.ofNat (z.toNat + 128)] ++ [0], 0⟩) rfl (scan_long 1048576 (pre ++ [UInt8.ofNat (z.toNat + 128)]) (fun c hc => by
      rcases List.mem_append.1 hc with hc | hc
      · exact HP c hc
      · simp only [List.mem_singleton] at hc; subst hc; rw [UInt8.toNat_ofNat']; omega) (by omega) (by omega)) (by decide)
    have hLN := hid (And.intro hl2 hN)
    clear HP hl2 hN hsp hlen
    generalize UInt8.ofNat (z.toNat + 128) = z' at *
    rw [show pre ++ [z'] ++ [0] = pre ++ [z', 0] from by simp] at hLN
    go_wp2_with (at_builtin; refine wpList_push rfl (.tmp 120) (.tmp 121) rfl hST.out hLN.out.1 (by omega) 0 0 rfl rfl W.heap.size (by simp [World.setCell]) rfl ?_; intro p m cp w1 hback hE1)
    refine (of_any _ _).mono ?_
    rintro e w5 ⟨rfl, rfl⟩
    have hW1 := hE2.trans hE1
    have r5 := Rr.new (pre ++ [z', 0]) w1
    have e5 : Ext w (w1.alloc (.cells #[.string (str (pre ++ [z', 0])), .nilIface] 51 (0, 0))) := hW1.alloc _
    have hWs := hW1.size
    generalize w1.alloc (.cells #[.string (str (pre ++ [z', 0])), .nilIface] 51 (0, 0)) = w5 at *
    go_wp2_with fail
    refine (rnum_to _ _ ⟨pre ++ [z', 0], 10⟩ _ 0 _ r5 (by simp; omega) hLN.out.2.1 hLN.out.2.2).mono ?_
    rintro e w6 ⟨rfl, r6, o6⟩
    have e6 := e5.below.trans (o6.below (base := w.heap.size) hWs e5.size)
    go_wp2_with fail
    refine (err_any _ _ _ r6).mono ?_
    rintro e w7 ⟨rfl, rfl⟩
    rw [errV_pos (e := 10) (by decide)]
    go_wp2_with fail
    refine (Err.is_errno 10 10 _).mono ?_
    rintro e w8 ⟨rfl, hx⟩
    go_wp2_with fail
    go_returns
    exact ⟨rfl, Ext.trans ⟨e6⟩ hx⟩
  · have hN := Rd.num_bad (r := ⟨[255, 255, 255, 255, 1], 0⟩) (most := 1048576) (c := 10) rfl (by rfl) (by decide)
    go_wp2_with fail
    refine (of_any [255, 255, 255, 255, 1] _).mono ?_
    rintro e w5 ⟨rfl, rfl⟩
    have r5 := Rr.new [255, 255, 255, 255, 1] W
    have e5 : Ext w (W.alloc (.cells #[.string (str [255, 255, 255, 255, 1]), .nilIface] 51 (0, 0))) := hEW.alloc _
    generalize W.alloc (.cells #[.string (str [255, 255, 255, 255, 1]), .nilIface] 51 (0, 0)) = w5 at *
    have hWs := hEW.size
    go_wp2_with fail
    refine (rnum_to _ _ ⟨[255, 255, 255, 255, 1], 10⟩ _ 0 _ r5 (by simp) hN.1 hN.2).mono ?_
    rintro e w6 ⟨rfl, r6, o6⟩
    have e6 := e5.below.trans (o6.below (base := w.heap.size) hWs e5.size)
    go_wp2_with fail
    refine (err_any _ _ _ r6).mono ?_
    rintro e w7 ⟨rfl, rfl⟩
    rw [errV_pos (e := 10) (by decide)]
    go_wp2_with fail
    refine (Err.is_errno 10 10 _).mono ?_
    rintro e w8 ⟨rfl, hx⟩
    go_wp2_with fail
    go_returns
    exact ⟨rfl, Ext.trans ⟨e6⟩ hx⟩
theorem walk (n how most : Int) (hh : 0 ≤ how) (hh' : how ≤ 255) (w : World) :
    Calls Try.prog 4 #[.int .i64 n, .int .u8 how, .int .i64 most] w (Yields w (.bool true)) := by
  by_cases h : n < -1 ∨ 1048576 < n ∨ most < -1 ∨ 1048576 < most
  · exact walk_out n how most w h
  · exact walk_in n how most hh hh' (by omega) (by omega) (by omega) (by omega) w

set_option linter.unusedVariables false in
set_option maxRecDepth 100000 in
theorem lifted (os : Os) (started : os.Started) (H : Type) (enc : TypeId × Value → H) :
    ReturnsInHanded {} Try.checked os 4 .any (Rows.wireWrongSpec.pre6 enc Try.prog Try.f4 Rows.wireWrongRow.domain false) (Rows.wireWrongSpec.post enc Try.prog Try.f4 false true false false) := by
  refine returnsInHanded_of_change (C := Try.checked) Own.own started (by kernel_rfl) Try.func4
    (ChangeSpec.witness6 (enc := enc) (C := Try.checked) false ⟨#[], #[.int .i64 0, .int .u8 0, .int .i64 0], []⟩ 8 (by kernel_rfl) (by kernel_rfl) (by kernel_rfl) (by kernel_rfl)) ?_
  intro W base args ds gs before hval0 hW hcnd _
  have hval : ∀ (j : Nat) t v, Try.f4.params[j]? = some t → args[j]? = some v → Value.okWide Try.prog W .any base t v := hval0
  have hW' := hW
  obtain ⟨p, q, hA0, hV, rfl, hfz, hnd⟩ := hW
  have hA : DataW.TrodAll enc Try.prog W 0 (fun _ => true) true Try.f4.params.toList args.toList ds p := hA0
  rw [Try.params4] at hA hval
  obtain ⟨v0, vs0, d0, ds0, p0, q0, hargs, rfl, rfl, h0, r0⟩ := trodAll_cons hA
  obtain ⟨v1, vs1, d1, ds1, p1, q1, rfl, rfl, rfl, h1, r1⟩ := trodAll_cons r0
  obtain ⟨v2, vs2, d2, ds2, p2, q2, rfl, rfl, rfl, h2, r2⟩ := trodAll_cons r1
  obtain ⟨rfl, rfl, rfl⟩ := trodAll_nil r2
  obtain rfl : args = #[v0, v1, v2] := by cases args; simp_all
  obtain ⟨rfl, rfl⟩ := trodVars_none hV
  have k0 := h0
  have lt0 : ∀ x ∈ p0, x.block < W.heap.size := by obtain ⟨m, hm⟩ := k0; exact DataW.trod_lt m _ _ _ hm
  have k1 := h1
  have lt1 : ∀ x ∈ p1, x.block < W.heap.size := by obtain ⟨m, hm⟩ := k1; exact DataW.trod_lt m _ _ _ hm
  have k2 := h2
  have lt2 : ∀ x ∈ p2, x.block < W.heap.size := by obtain ⟨m, hm⟩ := k2; exact DataW.trod_lt m _ _ _ hm
  obtain ⟨n, rfl, rfl, rfl, wn⟩ := open_int Try.underlying3 (hval 0 3 v0 rfl rfl) h0
  obtain ⟨how, rfl, rfl, rfl, wh⟩ := open_int Try.underlying5 (hval 1 5 v1 rfl rfl) h1
  obtain ⟨most, rfl, rfl, rfl, wm⟩ := open_int Try.underlying3 (hval 2 3 v2 rfl rfl) h2
  have bh := bounds_u8 wh
  clear hA0 hval0
  refine (walk n how most (by omega) (by omega) W).mono fun e W' ⟨he, hx⟩ => ?_
  subst he
  exact ⟨_, rfl, _, _, _, [], _, [], hW', trodAll_mk1 (shut_bool Try.underlying4 _), (trodAll_cons_mk (Below.trod Own.laidOut (by kernel_rfl) (of_decide_eq_true (by kernel_rfl)) k0 hx.below lt0) (trodAll_cons_mk (Below.trod Own.laidOut (by kernel_rfl) (of_decide_eq_true (by kernel_rfl)) k1 hx.below lt1) (trodAll_cons_mk (Below.trod Own.laidOut (by kernel_rfl) (of_decide_eq_true (by kernel_rfl)) k2 hx.below lt2) trodAll_mk0))), rfl, hx.below.frame _, fun h => by cases h⟩

theorem proved : Rows.WireWrongSaid :=
  OpenClaim.holds_of_wide 4 Try.f4 rfl rfl rfl rfl rfl rfl rfl ⟨rfl, rfl, rfl, rfl, rfl⟩ rfl rfl rfl rfl rfl (by kernel_rfl) Try.func4 (by kernel_rfl)
    (of_decide_eq_true (by kernel_rfl)) (by unfold Func.isWrapper; first | (rw [if_pos (by decide +kernel)]; kernel_rfl) | (rw [if_neg (by decide +kernel)]; exact ⟨rfl, rfl⟩))
    (fun os started H enc _ => lifted os started H enc)

end wireWrong
end Go.Proofs.Ytjldcchlnnfbgaa
