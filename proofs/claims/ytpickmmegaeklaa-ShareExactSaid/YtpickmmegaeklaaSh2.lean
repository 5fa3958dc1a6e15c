/- Counts: what is due rounded down, one more to the greatest rests. -/
import Derived.Test.YtpickmmegaeklaaSh1
namespace Go.Proofs.Ytpickmmegaeklaa
open Go.RowKit

theorem counts_none {f : Int} {l : List Int} {v : Value} {w : World} (h : Ints w v l) (hm : mayS f l = false) : Calls Try.prog 10 #[.int .i64 f, v] w (Yields w (.slice none 0 0)) := by
  have H := hid h
  have HM := hid hm
  clear h hm
  go_enter Try.func10, Try.ntmps10
  go_wp2_with (go_at_call 14; refine (may_to H.out HM.out).yields ?_; intro p)
  go_returns
  exact ⟨by simp, ext_by⟩

theorem low_snoc (f S : Int) (a : List Int) (x : Int) : low f S (a ++ [x]) = low f S a ++ [(f * x / S, f * x % S)] := by rw [low, low, List.map_append]; rfl
theorem cs_snoc (P : List Pr) (p : Pr) : cs (P ++ [p]) = cs P ++ [p.1] := by rw [cs, cs, List.map_append]; rfl
theorem rs_snoc (P : List Pr) (p : Pr) : rs (P ++ [p]) = rs P ++ [p.2] := by rw [rs, rs, List.map_append]; rfl
/-- Behind rounding down so many parts. -/
def mid (f : Int) (l : List Int) (k : Nat) : List Pr := low f (tot l) (l.take k) ++ ini f (l.drop k)
theorem mid_length (f : Int) (l : List Int) {k : Nat} (h : k ≤ l.length) : (mid f l k).length = l.length := by simp [mid, low, ini]; omega
theorem mid_zero (f : Int) (l : List Int) : mid f l 0 = ini f l := by simp [mid, low]
theorem mid_all (f : Int) (l : List Int) : mid f l l.length = low f (tot l) l := by simp [mid, ini]
theorem mid_get (f : Int) (l : List Int) {k : Nat} (h : k < l.length) : (mid f l k)[k]? = some (0, f * l[k]) := by
  unfold mid
  rw [List.getElem?_append_right (by simp [low]; omega)]
  simp [low, ini, h, Nat.min_eq_left (Nat.le_of_lt h)]
theorem mid_set (f : Int) (l : List Int) {k : Nat} (h : k < l.length) : (mid f l k).set k (f * l[k] / tot l, f * l[k] % tot l) = mid f l (k + 1) := by
  unfold mid
  have e : (low f (tot l) (l.take k)).length = k := by simp [low]; omega
  rw [List.set_append_right _ _ (by omega), e, Nat.sub_self, List.drop_eq_getElem_cons h, List.take_succ_eq_append_getElem h, low_snoc, List.append_assoc]
  rfl

theorem quo_Fz {a S : Int} (h0 : 0 ≤ a) (h1 : a < 2 ^ 20) (h2 : 0 < S) (h3 : S < 2 ^ 20) : ∃ x s m p, Ieee.double.div (Fz a) (Fz S) = some x ∧ FloatKind.f64.decode x = .number s m p ∧ floorF x = Fz (a / S) := by
  obtain ⟨a', rfl⟩ := Int.eq_ofNat_of_zero_le h0
  obtain ⟨S', rfl⟩ := Int.eq_ofNat_of_zero_le (Int.le_of_lt h2)
  exact div_floor (by omega) (by omega) (by omega)

theorem tot_take_low (f S : Int) (l : List Int) {k : Nat} (h : k < l.length) : tot (cs (low f S (l.take (k + 1)))) = tot (cs (low f S (l.take k))) + f * l[k] / S ∧ tot (rs (low f S (l.take (k + 1)))) = tot (rs (low f S (l.take k))) + f * l[k] % S := by
  rw [List.take_succ_eq_append_getElem h, low_snoc, cs_snoc, rs_snoc, tot_append, tot_append]
  simp [tot]

set_option maxRecDepth 100000 in
theorem part_step {a S : Int} (h0 : 0 ≤ a) (h1 : a ≤ 64000) (h2 : 1 ≤ S) (h3 : S ≤ 6000) : cMulBits (Fz (a / S)) 0 4607182418800017408 (Fz (-S)) = some (Fz (a / S), Fz (-(a / S * S))) ∧ cSumBits .add .f64 0 (Fz a) (Fz (a / S)) (Fz (-(a / S * S))) = some (Fz (a / S), Fz (a % S)) := by
  have d0 : 0 ≤ a / S := Int.ediv_nonneg h0 (by omega)
  have d1 : a / S ≤ a := Int.ediv_le_self S h0
  have d2 := Int.mul_ediv_add_emod a S
  have d3 : a / S * S = S * (a / S) := Int.mul_comm _ _
  have d4 := Int.emod_nonneg a (show S ≠ 0 by omega)
  have d5 := Int.emod_lt_of_pos a (show 0 < S by omega)
  have t := times_Fz (q := a / S) (S := S) (by omega) (by omega) (by omega)
  have u := sum_Fz (a := 0) (b := a) (c := a / S) (d := -(a / S * S)) (by decide) (by omega) (by omega) (by omega)
  rw [zero_Fz, one_Fz] at t
  rw [zero_Fz, Int.zero_add, show a + -(a / S * S) = a % S by omega] at u
  exact ⟨t, u⟩

theorem run_div {a S : Int} {x : Nat} (h : Ieee.double.div (Fz a) (Fz S) = some x) (t : TypeId) (w : World) : (binOp .quo t (.float .f64 (Fz a)) (.float .f64 (Fz S))).run Try.prog w = .ok (.float .f64 x) w := run_float_arith w .quo t .f64 _ _ _ h
theorem neg_neg_Fz {S : Int} (h1 : 1 ≤ S) (h2 : S ≤ 6000) : Op.negFloat .f64 (Fz (-S)) = Fz S := by
  have := neg_Fz (z := -S) (by omega) (by omega)
  rwa [Int.neg_neg] at this

/-- How it stands while a quantum after another is given. -/
structure Giv (w : World) (g : Nat) (f : Int) (l : List Int) (n : Nat) (P : List Pr) (wr : World) : Prop where
  ext : Ext w wr
  cx : Cx wr g P
  inv : Inv f l n P
  run : runP (tot l) n P = runP (tot l) (leftN f (tot l) l).toNat (low f (tot l) l)

theorem Giv.more {w wr u : World} {g n : Nat} {f : Int} {l : List Int} {P : List Pr} (h : Giv w g f l n P wr) (k : Ext wr u) : Giv w g f l n P u := ⟨h.ext.trans k, h.cx.ext k, h.inv, h.run⟩

set_option maxRecDepth 100000 in
set_option maxHeartbeats 4000000 in
theorem counts_any {f : Int} {l : List Int} {v : Value} {w : World} (hM : May f l) (hm : mayS f l = true) (h : Ints w v l) : Calls Try.prog 10 #[.int .i64 f, v] w fun e w' => ∃ g, e = .returned (.slice (some ⟨g, 0, none⟩) l.length l.length) ∧ w.heap.size ≤ g ∧ Ext w w' ∧ Iz w' g (countsL f l) := by
  have H := hid h
  have HM := hid hM
  have Hm := hid hm
  have hf1 := hM.f1
  have hf2 := hM.f64
  have hn := hM.len
  have hS1 := hM.S1
  have hS6 := hM.S6
  have hl0 := left_nonneg hM
  have hl64 := left_le hM
  have HN := hid (neg_neg_Fz hS1 hS6)
  clear h hm hM
  go_enter Try.func10, Try.ntmps10
  go_upto_region 3 with (go_at_call 14; refine (may_to H.out Hm.out).yields ?_; intro p)
  have hxm := ext_more w p
  have HI1 := hid (H.out.ext hxm)
  generalize more w p = w0 at *
  go_upto_region 4 with (go_at_call 15; refine (due_any HM.out HI1.out).mono ?_; rintro e w1 ⟨rfl, hx1, hc1⟩)
  have hgw : w.heap.size ≤ w0.heap.size := hxm.size
  have hx2 : Ext w w1 := hxm.trans hx1
  clear hx1 hxm HI1
  generalize w0.heap.size = g at *
  have HC1 := hid hc1
  clear hc1 w0
  go_wp2
  go_loopw [7, 26] (fun v7 v26 wr => Ext w wr ∧ ∃ (k : Nat) (a b : Int), v26 = .int .i64 k ∧ v7 = .complex .f64 (Fz a) (Fz b) ∧ k ≤ l.length ∧ Hid (a = tot (cs (low f (tot l) (l.take k))) ∧ b = tot (rs (low f (tot l) (l.take k)))) ∧ Hid (Cx wr g (mid f l k))) (fun _ v26 _ => (l.length - intOf v26).toNat)
  case atStart => exact ⟨hx2, 0, 0, 0, rfl, by rw [zero_Fz], by omega, hid ⟨by simp [low, cs, tot], by simp [low, rs, tot]⟩, hid (by rw [mid_zero]; exact HC1.out)⟩
  case round =>
    obtain ⟨hx, k, a, b, rfl, rfl, hk, hab, hC⟩ := hrel
    by_cases hlt : k < l.length
    · have hmk : k < (mid f l k).length := by rw [mid_length f l (by omega)]; exact hlt
      have hmg := mid_get f l hlt
      have hmg' : (mid f l k)[k] = (0, f * l[k]) := by rw [List.getElem?_eq_getElem hmk] at hmg; exact Option.some.inj hmg
      have c0 := hC.out.at hmk
      rw [hmg'] at c0
      simp only at c0
      rw [zero_Fz] at c0
      have c1 := hC.out.frozen k
      have c2 := hC.out.lt
      have x1 := HM.out.lo _ (List.getElem_mem hlt)
      have x2 := HM.out.hi _ (List.getElem_mem hlt)
      have b1 := prod_bounds hf1 hf2 x1 x2
      have hrb := rem_bounds HM.out (List.getElem_mem hlt)
      have hst := tot_take_low f (tot l) l hlt
      have hms := mid_set f l hlt
      have hb1 : 0 ≤ a ∧ a ≤ 64 * k ∧ 0 ≤ b ∧ b ≤ 6000 * k := by
        rw [hab.out.1, hab.out.2]
        have hl : (low f (tot l) (l.take k)).length = k := by rw [low_length, List.length_take, Nat.min_eq_left hk]
        refine ⟨tot_nonneg _ ?_, ?_, tot_nonneg _ ?_, ?_⟩
        · intro r hr
          simp only [cs, low, List.map_map, List.mem_map] at hr
          obtain ⟨x, hx, rfl⟩ := hr
          exact (rem_bounds HM.out (List.mem_of_mem_take hx)).1
        · have := tot_bound 64 (cs (low f (tot l) (l.take k))) fun r hr => by
            simp only [cs, low, List.map_map, List.mem_map] at hr
            obtain ⟨x, hx, rfl⟩ := hr
            exact (rem_bounds HM.out (List.mem_of_mem_take hx)).2.1
          rwa [cs_length, hl] at this
        · intro r hr
          simp only [rs, low, List.map_map, List.mem_map] at hr
          obtain ⟨x, hx, rfl⟩ := hr
          exact (rem_bounds HM.out (List.mem_of_mem_take hx)).2.2.1
        · have := tot_bound 6000 (rs (low f (tot l) (l.take k))) fun r hr => by
            simp only [rs, low, List.map_map, List.mem_map] at hr
            obtain ⟨x, hx, rfl⟩ := hr
            have := (rem_bounds HM.out (List.mem_of_mem_take hx)).2.2.2
            simp only [Function.comp]
            omega
          rwa [rs_length, hl] at this
      obtain ⟨hp1, hp2⟩ := part_step b1.1 b1.2 hS1 hS6
      obtain ⟨X, s', m', p', hd1, hd2, hd3⟩ := quo_Fz b1.1 (show f * l[k] < 2 ^ 20 by omega) (show 0 < tot l by omega) (show tot l < 2 ^ 20 by omega)
      have hdiv := run_div hd1
      have hneg := HN.out
      have HF : Hid (Calls Try.prog 16 #[.float .f64 X] wr (Yields wr (.float .f64 (Fz (f * l[k] / tot l))))) := hid (by rw [← hd3]; exact floor_any hd2 wr)
      have hA : Hid (∀ u, Calls Try.prog 17 #[.complex .f64 0 (Fz (f * l[k])), .float .f64 (Fz (f * l[k] / tot l)), .complex .f64 4607182418800017408 (Fz (-tot l))] u (Yields u (.complex .f64 (Fz (f * l[k] / tot l)) (Fz (f * l[k] % tot l))))) := hid (fun u => after_any hp1 hp2 u)
      clear hd1 hd2 hd3 hp1 hp2
      have hsum := fun t w => run_complex_sum (P := Try.prog) w .add (.inl rfl) t .f64 _ _ _ _ _ _ (sum_Fz (a := a) (b := b) (c := f * l[k] / tot l) (d := f * l[k] % tot l) (by omega) (by omega) (by omega) (by omega))
      have HC2 : Hid (∀ u, Ext wr u → Cx (u.setCell ⟨g, k, none⟩ (.complex .f64 (Fz (f * l[k] / tot l)) (Fz (f * l[k] % tot l)))) g (mid f l (k + 1))) := hid (fun u hu => by
        have := (hC.out.ext hu).set k (.complex .f64 (Fz (f * l[k] / tot l)) (Fz (f * l[k] % tot l)))
        rw [← hms, Cx, List.map_set]; exact this)
      have HAB : Hid (a + f * l[k] / tot l = tot (cs (low f (tot l) (l.take (k + 1)))) ∧ b + f * l[k] % tot l = tot (rs (low f (tot l) (l.take (k + 1))))) := hid (by rw [hst.1, hst.2, ← hab.out.1, ← hab.out.2]; exact ⟨rfl, rfl⟩)
      have HML : Hid (k < (mid f l (k + 1)).length) := hid (by rw [mid_length f l (by omega)]; exact hlt)
      have HM5 : Hid ((mid f l (k + 1))[k]'HML.out = (f * l[k] / tot l, f * l[k] % tot l)) := hid (by
        have e2 : ((mid f l k).set k (f * l[k] / tot l, f * l[k] % tot l))[k]? = some (f * l[k] / tot l, f * l[k] % tot l) := List.getElem?_set_self (by rw [mid_length f l (by omega)]; exact hlt)
        rw [hms, List.getElem?_eq_getElem HML.out] at e2
        exact Option.some.inj e2)
      have i1 : (k : Int) < l.length := by omega
      have HC0 := hid hC.out
      clear hC hab hst hms hmg hmg' hrb b1 hb1 x1 x2
      generalize f * l[k] / tot l = q at *
      generalize f * l[k] % tot l = r at *
      generalize f * l[k] = y at *
      go_upto_region 9 with (go_at_call 16; refine HF.out.yields ?_; intro p)
      have hxw := ext_more wr p
      have d0 := hxw.cell c0
      have d1 : (more wr p).frozen? ⟨g, k, none⟩ = false := (HC0.out.ext hxw).frozen k
      have d2 := (HC0.out.ext hxw).lt
      have HC3 : Hid (∀ u, Ext (more wr p) u → Cx (u.setCell ⟨g, k, none⟩ (.complex .f64 (Fz q) (Fz r))) g (mid f l (k + 1))) := hid fun u hu => HC2.out u (hxw.trans hu)
      have hx3 : Ext w (more wr p) := hx.trans hxw
      clear c0 c1 c2 HC2 HF hxw hx HC0
      generalize more wr p = w2 at *
      go_upto_region 10 with (go_at_call 17; refine (hA.out _).yields ?_; intro p2)
      refine wp_forget (fun u => Ext w u ∧ Hid (Cx u g (mid f l (k + 1)))) ⟨ext_by, hid (by first | exact HC3.out _ (ext_more _ _) | exact (HC3.out w2 (Ext.refl _)).ext (ext_more _ _))⟩ ?_
      rintro w3 ⟨hx4, hC4⟩
      have c3 := hC4.out.at HML.out
      rw [HM5.out] at c3
      go_wp2
      all_goals
        go_roundw
        case rel => exact ⟨hx4, k + 1, _, _, by go_num, rfl, by omega, HAB, hC4⟩
        case measure => simp [intOf]; omega
    · obtain rfl : k = l.length := by omega
      have hst := Inv.start HM.out
      have hC2 : Hid (Giv w g f l (leftN f (tot l) l).toNat (low f (tot l) l) wr) := hid ⟨hx, by have := hC.out; rwa [mid_all] at this, hst, rfl⟩
      have hb2 : b = tot l * (leftN f (tot l) l).toNat := by
        have := hab.out.2
        rw [List.take_length] at this
        rw [this]; exact hst.sum
      have ha2 : a = f - (leftN f (tot l) l).toNat := by
        have := hab.out.1
        rw [List.take_length] at this
        rw [this]; exact hst.cnt
      have hN : (leftN f (tot l) l).toNat ≤ 64 := by omega
      clear hC hab hl0 hl64 hst
      obtain ⟨N, hNN⟩ : ∃ N, N = (leftN f (tot l) l).toNat := ⟨_, rfl⟩
      rw [← hNN] at ha2 hb2 hN
      subst ha2 hb2
      go_wp2
      go_loopg [7] N (fun gg v7 wr => ∃ (n : Nat) (P : List Pr), n = gg ∧ v7 = .complex .f64 (Fz (f - n)) (Fz (tot l * n)) ∧ n ≤ N ∧ Hid (Giv w g f l n P wr))
      case atStart => exact ⟨N, _, rfl, rfl, Nat.le_refl _, hid (by rw [hNN]; exact hC2.out)⟩
      case round =>
        obtain ⟨n, P, hng, rfl, hnN, hG⟩ := hrel
        have hlen := hG.out.inv.len
        have hb0 : 0 ≤ tot l * n ∧ tot l * n ≤ 384000 := by
          refine ⟨Int.mul_nonneg (by omega) (by omega), ?_⟩
          calc tot l * n ≤ 6000 * n := Int.mul_le_mul_of_nonneg_right hS6 (by omega)
            _ ≤ 384000 := by omega
        have hgt := gt_Fz (a := tot l * n) (b := 0) (by omega) (by decide)
        rw [zero_Fz] at hgt
        cases n with
        | zero =>
          rw [show decide (0 < tot l * ((0 : Nat) : Int)) = false by simp] at hgt
          have HcL : Hid (countsL f l = cs P) := hid (by unfold countsL; rw [← hG.out.run]; rfl)
          have hbd : Hid (∀ p ∈ P, 0 ≤ p.1 ∧ p.1 ≤ 65) := hid fun p hp => by have := hG.out.inv.bound HM.out hp; omega
          have HC5 := hid hG.out.cx
          have hxr := hG.out.ext
          have hmk := run_makeI l.length hn
          clear hG hC2 hng hnN hgt
          have hg0 : FloatKind.f64.format.order (Fz (tot l * ((0 : Nat) : Int))) 0 = some .eq := by rw [show tot l * ((0 : Nat) : Int) = 0 by simp, zero_Fz]; decide
          obtain ⟨h, hh⟩ : ∃ h, h = wr.heap.size := ⟨_, rfl⟩
          go_upto_region 16 with (fail)
          refine wp_forget (fun u => Ext w u ∧ Hid (Cx u g P) ∧ Hid (Blk u h 3 (List.replicate l.length (Value.int .i64 0)))) ⟨ext_by, hid (HC5.out.ext ext_by), hid (by have := Blk.new wr 3 (List.replicate l.length (Value.int .i64 0)); rw [hh]; simpa using this)⟩ ?_
          rintro w6 ⟨hx6, hC6, hB6⟩
          rw [← hh]
          have hhw : w.heap.size ≤ h := by have := hxr.size; omega
          have hgh : g < h := by have := HC5.out.lt; omega
          clear hh hxr HC5 hmk
          go_wp2
          go_loopw [71] (fun v71 wz => Ext w wz ∧ ∃ (k : Nat) (L : List Value), v71 = .int .i64 k ∧ k ≤ l.length ∧ Hid (Cx wz g P) ∧ Hid (Blk wz h 3 L) ∧ Hid (L.length = l.length) ∧ Hid (L.take k = ((cs P).take k).map iV)) (fun v71 _ => (l.length - intOf v71).toNat)
          case atStart => exact ⟨hx6, 0, _, rfl, by omega, hC6, hB6, hid (by simp), hid (by simp)⟩
          case round =>
            obtain ⟨hx7, k, L, rfl, hk, hC7, hB7, hL, hT⟩ := hrel
            by_cases hlt : k < l.length
            · have hkL : k < L.length := by have := hL.out; omega
              have hkP : k < P.length := by omega
              have c0 := hC7.out.at hkP
              have c1 := hB7.out.cell hkL
              have c2 := hB7.out.frozen k
              have c3 := hB7.out.lt
              have hb := hbd.out _ (List.getElem_mem hkP)
              have hcv := fun w => run_convert_float_int (P := Try.prog) w 39 3 .f64 .i64 (Fz P[k].1) P[k].1 (by kernel_rfl) Try.underlying3 (intVal_Fz (by omega))
              have hT2 : Hid ((L.set k (.int .i64 P[k].1)).take (k + 1) = ((cs P).take (k + 1)).map iV) := hid (by
                rw [take_set_succ hkL, hT.out, List.take_succ_eq_append_getElem (show k < (cs P).length by rw [cs_length]; exact hkP), List.map_append]
                simp [cs, iV])
              have hB8 : Hid (Blk (wr.setCell ⟨h, k, none⟩ (.int .i64 P[k].1)) h 3 (L.set k (.int .i64 P[k].1))) := hid (hB7.out.set k _)
              have hC8 : Hid (Cx (wr.setCell ⟨h, k, none⟩ (.int .i64 P[k].1)) g P) := hid (hC7.out.other (by omega) k _)
              have i1 : (k : Int) < l.length := by omega
              clear hT hB7 hC7
              generalize P[k].1 = q at *
              generalize P[k].2 = r at *
              generalize L[k] = old at *
              go_wp2
              all_goals
                go_roundw
                case rel => exact ⟨ext_by, k + 1, _, by go_num, by omega, hC8, hB8, hid (by rw [List.length_set]; exact hL.out), hT2⟩
                case measure => simp [intOf]; omega
            · obtain rfl : k = l.length := by omega
              have hI : Hid (Iz wr h (countsL f l)) := hid (by
                have h1 := hT.out
                rw [← hL.out, List.take_length, hL.out, List.take_of_length_le (by rw [cs_length]; omega)] at h1
                have h2 := hB7.out
                rw [h1] at h2
                rw [HcL.out]; exact h2)
              clear hT hB7 hC7
              go_wp2
              go_returns
              exact ⟨h, by simp, hhw, hx7, hI.out⟩
        | succ n =>
          have hpos : 0 < tot l * ((n + 1 : Nat) : Int) := Int.mul_pos (by omega) (by omega)
          rw [decide_eq_true hpos] at hgt
          obtain ⟨hmP, htop⟩ := hG.out.inv.top HM.out
          have hcg : Hid (∀ u, Ext wr u → Calls Try.prog 18 #[.slice (some ⟨g, 0, none⟩) l.length l.length] u (Yields u (.int .i64 (am (rs P))))) := hid (fun u hu => by
            have := greatest_any (hG.out.cx.ext hu) (by unfold maxLen; omega) fun p hp => by have := hG.out.inv.bound HM.out hp; omega
            rwa [hlen] at this)
          have hbm := hG.out.inv.bound HM.out (List.getElem_mem hmP)
          have c0 := hG.out.cx.at hmP
          have c1 := hG.out.cx.frozen (am (rs P))
          have c2 := hG.out.cx.lt
          have hnx : Hid (∀ u, Ext wr u → Giv w g f l n (stepP (tot l) P) (u.setCell ⟨g, am (rs P), none⟩ (.complex .f64 (Fz (P[am (rs P)].1 + 1)) (Fz (P[am (rs P)].2 + -tot l))))) := hid (fun u hu => by
            refine ⟨Ext.setCell (hG.out.ext.trans hu) (by simpa using hgw) _, ?_, hG.out.inv.step HM.out, ?_⟩
            · have := (hG.out.cx.ext hu).set (am (rs P)) (.complex .f64 (Fz (P[am (rs P)].1 + 1)) (Fz (P[am (rs P)].2 + -tot l)))
              unfold stepP Cx
              rw [List.map_set, getD_of hmP]
              exact this
            · rw [← hG.out.run]; rfl)
          have hmi : ((am (rs P) : Nat) : Int) < l.length := by omega
          have hxr := hG.out.ext
          clear hG
          generalize P[am (rs P)].1 = c at *
          generalize P[am (rs P)].2 = r at *
          generalize am (rs P) = m at *
          have hsum1 := fun t w => run_complex_sum (P := Try.prog) w .add (.inl rfl) t .f64 _ _ _ _ _ _ (sum_Fz (a := c) (b := r) (c := 1) (d := -tot l) (by omega) (by omega) (by omega) (by omega))
          have hsum2 := fun t w => run_complex_sum (P := Try.prog) w .add (.inl rfl) t .f64 _ _ _ _ _ _ (sum_Fz (a := f - ((n + 1 : Nat) : Int)) (b := tot l * ((n + 1 : Nat) : Int)) (c := 1) (d := -tot l) (by omega) (by omega) (by omega) (by omega))
          rw [show f - ((n + 1 : Nat) : Int) + 1 = f - n by omega, show tot l * ((n + 1 : Nat) : Int) + -tot l = tot l * n by rw [show ((n + 1 : Nat) : Int) = n + 1 by omega, Int.mul_add]; omega] at hsum2
          rw [one_Fz] at hsum1 hsum2
          generalize f - ((n + 1 : Nat) : Int) = a at *
          generalize tot l * ((n + 1 : Nat) : Int) = b at *
          go_upto_region 13 with (go_at_call 18; refine (hcg.out _ (Ext.refl _)).yields ?_; intro p)
          refine wp_forget (fun u => Hid (Giv w g f l n (stepP (tot l) P) u)) (hid ((hnx.out wr (Ext.refl _)).more (ext_more _ _))) ?_
          rintro w5 hG5
          go_wp2
          all_goals
            go_roundg n
            case rel => exact ⟨n, _, rfl, rfl, by omega, hG5⟩
            case measure => omega
end Go.Proofs.Ytpickmmegaeklaa
