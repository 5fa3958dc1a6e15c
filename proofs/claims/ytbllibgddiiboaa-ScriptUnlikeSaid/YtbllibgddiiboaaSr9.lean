/- What is read, as data; script.Read. -/
import Derived.Test.YtbllibgddiiboaaSr8
import Derived.Test.YtbllibgddiiboaaSc1
namespace Go.Proofs.Ytbllibgddiiboaa
open Go.RowKit

theorem flatten_at {n : Nat} : ∀ (css : List (List Value)) (i : Nat) (cs : List Value) (j : Nat), (∀ c ∈ css, c.length = n) → css[i]? = some cs → j < n → css.flatten[i * n + j]? = cs[j]?
  | [], _, _, _, _, h, _ => by simp at h
  | c :: css, 0, cs, j, hl, h, hj => by
    simp at h; subst h
    rw [List.flatten_cons, Nat.zero_mul, Nat.zero_add, List.getElem?_append_left (by rw [hl c (List.mem_cons_self ..)]; exact hj)]
  | c :: css, i + 1, cs, j, hl, h, hj => by
    have hc := hl c (List.mem_cons_self ..)
    rw [List.flatten_cons, List.getElem?_append_right (by rw [hc, Nat.add_mul]; omega), hc, show (i + 1) * n + j - n = i * n + j by rw [Nat.add_mul]; omega]
    exact flatten_at css i cs j (fun c hc => hl c (List.mem_cons_of_mem _ hc)) (by simpa using h) hj
theorem Rowed.slc {α : Type} {T n base : Nat} {El : World → List Value → α → Prop} {w : World} {v : Value} {xs : List α} {E : World → Nat → Nat → α → Prop}
    (hE : ∀ b off cs x, cs.length = n → El w cs x → (∀ j, j < n → w.cell? ⟨b, off + j, none⟩ = cs[j]?) → E w b off x) (h : Rowed T n El base w v xs) : Slc n E w v xs := by
  obtain ⟨css, ho, hl, hf⟩ := h
  rcases ho.2 with ⟨rfl, h0⟩ | ⟨g, cap, cur, rfl, _, hg, hle, hmx, hsz, ht⟩
  · exact ⟨none, 0, by rw [h0], by omega, by unfold maxLen; omega, fun hp => by omega⟩
  · refine ⟨some ⟨g, 0, none⟩, cap, rfl, hle, hmx, fun _ => ⟨g, 0, rfl, fun i x hx => ?_⟩⟩
    obtain ⟨cs, hcs, hel⟩ := hf.get hx
    refine hE _ _ cs x (hl cs (List.mem_of_getElem? hcs)) hel fun j hj => ?_
    rw [cell_of_row w g _ cur T (0, 0) hg, Nat.zero_add]
    have hi : i < xs.length := (List.getElem?_eq_some_iff.1 hx).1
    have h1 : i * n + j < xs.length * n := by
      have : (i + 1) * n ≤ xs.length * n := Nat.mul_le_mul_right n hi
      rw [Nat.add_mul] at this
      omega
    have h2 := flatten_at css i cs j hl hcs hj
    rw [← ht, List.getElem?_take, if_pos h1] at h2
    simpa using h2
theorem int_wf {x : Int} (h : -1 ≤ x ∧ x ≤ 1048576) : (Lit.int .i64 x).wf = true := by
  have e1 : IntKind.i64.min = -9223372036854775808 := by decide
  have e2 : IntKind.i64.max = 9223372036854775807 := by decide
  simp [Lit.wf, e1, e2]; omega
theorem nums_slc {w : World} {v : Value} {l : List Int} (h : Rowed 3 1 ElI 0 w v l) : Nums .i64 w v l := h.slc fun b off cs x _ he hc => by
  obtain ⟨rfl, hx⟩ := he
  exact ⟨by simpa using hc 0 (by omega), int_wf hx⟩
theorem rows_slc {w : World} {v : Value} {l : List (List Int)} (h : Rowed 48 1 ElR 0 w v l) : RowsV w v l := h.slc fun b off cs x _ he hc => by
  obtain ⟨v, rfl, hr⟩ := he
  exact ⟨v, by simpa using hc 0 (by omega), nums_slc hr⟩
theorem doms_slc {w : World} {v : Value} {l : List Dom} (h : Rowed 54 10 ElD 0 w v l) : DomsV w v l := h.slc fun b off cs x _ he hc => by
  obtain ⟨vr, ve, rfl, h1, h2, h3⟩ := he
  exact ⟨vr, ve, ⟨by simpa [DomCells] using hc 0 (by omega), by simpa [DomCells] using hc 1 (by omega), by simpa [DomCells] using hc 2 (by omega), by simpa [DomCells] using hc 3 (by omega), by simpa [DomCells] using hc 4 (by omega),
    by simpa [DomCells] using hc 5 (by omega), by simpa [DomCells] using hc 6 (by omega), by simpa [DomCells] using hc 7 (by omega), by simpa [DomCells] using hc 8 (by omega), by simpa [DomCells] using hc 9 (by omega)⟩, rows_slc h1, nums_slc h2, h3⟩
theorem axns_slc {w : World} {v : Value} {l : List Axn} (h : Rowed 38 3 ElA 0 w v l) : AxnsV w v l := h.slc fun b off cs x _ he hc => by
  have he' : cs = _ := he
  subst he'
  exact ⟨by simpa using hc 0 (by omega), by simpa using hc 1 (by omega), by simpa using hc 2 (by omega)⟩
theorem arvs_slc {w : World} {v : Value} {l : List Arv} (h : Rowed 40 2 ElV 0 w v l) : ArvsV w v l := h.slc fun b off cs x _ he hc => by
  have he' : cs = _ := he
  subst he'
  exact ⟨by simpa using hc 0 (by omega), by simpa using hc 1 (by omega)⟩
theorem streams_slc {w : World} {v : Value} {l : List (List Axn)} (h : Rowed 35 1 ElS 0 w v l) : StreamsV w v l := h.slc fun b off cs x _ he hc => by
  obtain ⟨v, rfl, hr⟩ := he
  exact ⟨v, by simpa using hc 0 (by omega), axns_slc hr⟩
theorem arrivals_slc {w : World} {v : Value} {l : List (List Arv)} (h : Rowed 36 1 ElW 0 w v l) : ArrsV w v l := h.slc fun b off cs x _ he hc => by
  obtain ⟨v, rfl, hr⟩ := he
  exact ⟨v, by simpa using hc 0 (by omega), arvs_slc hr⟩
theorem ScrRows.scrV {w : World} {q : Scr} {pv dv sv av : Value} (h : ScrRows w q pv dv sv av) : ScrV w q pv dv sv av := ⟨⟨rows_slc h.plans, doms_slc h.doms⟩, streams_slc h.streams, arrivals_slc h.arrivals⟩

/-- No script. -/
abbrev noScrV : Value := .agg #[.int .i64 0, .int .i64 0, .slice none 0 0, .slice none 0 0, .int .i64 0, .slice none 0 0, .slice none 0 0]
def ReadBad (w : World) (e : Ending) (w' : World) : Prop := ∃ n : Nat, n ≠ 0 ∧ e = .returned (.tuple #[noScrV, .iface 34 (.int .i64 n)]) ∧ Ext w w'
def ReadGood (q : Scr) (w : World) (e : Ending) (w' : World) : Prop := ∃ pp cp pd cd ps cs pa ca,
  e = .returned (.tuple #[scrV q (.slice pp q.conf.plans.length cp) (.slice pd q.conf.doms.length cd) (.slice ps q.streams.length cs) (.slice pa q.arrivals.length ca), .nilIface]) ∧
  ScrV w' q (.slice pp q.conf.plans.length cp) (.slice pd q.conf.doms.length cd) (.slice ps q.streams.length cs) (.slice pa q.arrivals.length ca) ∧ Ext w w'
theorem cell_set_self {w : World} {p : Addr} {x : Value} (h : w.cell? p = some x) (u : Value) : (w.setCell p u).cell? p = some u := by
  exact World.cell?_setCell_same w p u h
set_option maxRecDepth 100000 in
set_option maxHeartbeats 4000000 in
theorem read_large (w : World) (l : List UInt8) (hl : 40000 < l.length) :
    Calls Try.prog 10 #[.string (str l)] w (fun e w' => e = .returned (.tuple #[noScrV, .iface 34 (.int .i64 12)]) ∧ Ext w w') := by
  go_enter Try.func10, Try.ntmps10
  go_wp2_with fail
  exact bodyPost_ret (v := .tuple #[noScrV, .iface 34 (.int .i64 12)]) (by simp [results, Try.results10, go_sem]) rfl ⟨rfl, (by repeat (first | exact Ext.refl _ | assumption | refine Ext.more ?_ _ | refine Ext.drew ?_ | refine Ext.drewN ?_ _ | refine Ext.alloc ?_ _ | refine Ext.setCell ?_ (by simp; try omega) _ | refine Ext.trans ?_ (by assumption)))⟩

abbrev zeroScrO : Obj := .cells #[.int .i64 0, .int .i64 0, .slice none 0 0, .slice none 0 0, .int .i64 0, .slice none 0 0, .slice none 0 0] 30 (0, 0)
/-- Ahead of the reading. -/
abbrev readW (w : World) (l : List UInt8) : World := ((w.alloc zeroScrO).alloc (.cells #[.string (str l), .nilIface] 101 (0, 0))).alloc (.cells #[.pointer (some ⟨w.heap.size + 1, 0, none⟩), .bool false] 74 (0, 0))
/-- At the end: the result's block, the error. -/
def ReadM (N : Nat) (ev : Value) (o : Obj) (W : World) (a' : Act) (y : World) : Prop :=
  ∃ (u0 u1 u4 u5 u6 u7 u8 u9 u10 u11 u12 u13 u14 u15 u16 u17 u18 u19 u20 u21 u22 u23 u24 u25 u26 u27 u28 u29 u30 u31 u32 u33 u34 : Value), a' = { tmps := #[u0, u1, .pointer (some ⟨N, 0, none⟩), ev, u4, u5, u6, u7, u8, u9, u10, u11, u12, u13, u14, u15, u16, u17, u18, u19, u20, u21, u22, u23, u24, u25, u26, u27, u28, u29, u30, u31, u32, u33, u34], defers := [] } ∧ y.heap[N]? = some o ∧ Only N W y
theorem read_start (w : World) (l : List UInt8) (hl : l.length ≤ 40000) : Sr (w.heap.size + 2) (w.heap.size + 1) ⟨⟨l, 0⟩, false⟩ (readW w l) := by
  refine ⟨?_, ?_, hl⟩
  · have := heap_new2 (w.alloc zeroScrO) (.cells #[.string (str l), .nilIface] 101 (0, 0)) (.cells #[.pointer (some ⟨w.heap.size + 1, 0, none⟩), .bool false] 74 (0, 0))
    rwa [World.size_alloc] at this
  · have := heap_new2 w zeroScrO (.cells #[.string (str l), .nilIface] 101 (0, 0))
    exact block_ext (Ext.alloc (Ext.refl _) _) this
theorem read_zero (w : World) (l : List UInt8) : (readW w l).heap[w.heap.size]? = some zeroScrO :=
  block_ext (Ext.alloc (Ext.refl _) _) (block_ext (Ext.alloc (Ext.refl _) _) (heap_alloc_new w _))
theorem read_ext (w : World) (l : List UInt8) : Ext w (readW w l) := Ext.alloc (Ext.alloc (Ext.alloc (Ext.refl w) _) _) _
theorem read_size (w : World) (l : List UInt8) : (readW w l).heap.size = w.heap.size + 3 := by simp [readW, World.size_alloc]

set_option maxRecDepth 100000 in
set_option maxHeartbeats 4000000 in
theorem read_bad (w : World) (l : List UInt8) (hl : l.length ≤ 40000) (q : Scr) (s : Rb) (hq : scrP ⟨⟨l, 0⟩, false⟩ = (q, s)) (hb : s.wrong = true ∨ s.wrong = false ∧ 0 < s.r.s.length ∨ s.wrong = false ∧ s.r.s.length = 0 ∧ isScr q ≠ 0) :
    Calls Try.prog 10 #[.string (str l)] w (ReadBad w) := by
  have HL := hid hl
  have hlb : decide ((40000 : Int) < (l.length : Int)) = false := by simp; omega
  have hsc := fun b c => script_any b c ⟨⟨l, 0⟩, false⟩
  rw [hq] at hsc
  have HSC := hid hsc
  clear hq hl hsc
  have HB := hid hb
  clear hb
  have hne := fun v w => run_neq_iface_nil (P := Try.prog) w 34 v Try.underlying33
  have hnn := fun w => run_neq_nil_nil' (P := Try.prog) w Try.underlying33
  have hee := fun v w => run_eql_iface_nil (P := Try.prog) w 34 v Try.underlying33
  have hen := fun w => run_eql_nil_nil' (P := Try.prog) w Try.underlying33
  go_enter Try.func10, Try.ntmps10
  go_upto_region 5 with (first
    | (go_at_call 24; refine (of_any l _).mono ?_; rintro e w1 ⟨rfl, rfl⟩)
    | (go_at_call 25; refine (HSC.out (w.heap.size + 2) (w.heap.size + 1) _ (read_start w l HL.out)).mono ?_; rintro e w2 ⟨pp, cp, pd, cd, ps, cs, pa, ca, rfl, hr, hs, ht⟩; have HR := hid hr; have HS := hid hs; have HT := hid ht; clear hr hs ht))
  have hz := read_size w l
  have hsz := HT.out.size
  rw [hz] at hsz
  have hX : Ext w w2 := ⟨(read_ext w l).below.trans (HT.out.below (by omega) (by omega) (read_ext w l).size)⟩
  refine wp_forget (fun v => Sr (w.heap.size + 1 + 1) (w.heap.size + 1) s v ∧ Ext w v ∧ v.heap[w.heap.size]? = some zeroScrO ∧ v.heap[w2.heap.size]? = some (.cells #[.int .i64 q.conf.frame, .int .i64 q.conf.epoch, .slice pp q.conf.plans.length cp, .slice pd q.conf.doms.length cd, .int .i64 q.horizon, .slice ps q.streams.length cs, .slice pa q.arrivals.length ca] 30 (0, 0)) ∧ ScrRows v q (.slice pp q.conf.plans.length cp) (.slice pd q.conf.doms.length cd) (.slice ps q.streams.length cs) (.slice pa q.arrivals.length ca))
    ⟨HS.out.ext (by repeat (first | exact Ext.refl _ | assumption | refine Ext.more ?_ _ | refine Ext.drew ?_ | refine Ext.drewN ?_ _ | refine Ext.alloc ?_ _ | refine Ext.setCell ?_ (by simp; try omega) _ | refine Ext.trans ?_ (by assumption))), hX.alloc _, block_ext (by repeat (first | exact Ext.refl _ | assumption | refine Ext.more ?_ _ | refine Ext.drew ?_ | refine Ext.drewN ?_ _ | refine Ext.alloc ?_ _ | refine Ext.setCell ?_ (by simp; try omega) _ | refine Ext.trans ?_ (by assumption))) (HT.out.blk (read_zero w l) (by omega) (by omega)), heap_alloc_new w2 _, HR.out.kept (Kept.of_ext (by repeat (first | exact Ext.refl _ | assumption | refine Ext.more ?_ _ | refine Ext.drew ?_ | refine Ext.drewN ?_ _ | refine Ext.alloc ?_ _ | refine Ext.setCell ?_ (by simp; try omega) _ | refine Ext.trans ?_ (by assumption))))⟩ ?_
  obtain ⟨C, hC⟩ : ∃ C, C = w2.heap.size := ⟨_, rfl⟩
  rw [← hC]
  have HCn : Hid (w.heap.size < C) := by unfold Hid; omega
  clear hC hX hz hsz HR HS HT
  clear w2
  rintro v ⟨hs, hx, hR, hS, hr⟩
  have hRl := lt_of_block hR
  have hSl := lt_of_block hS
  have c0 := hs.cell0
  have HS := hid hs
  have HX := hid hx
  have HR := hid hr
  have HRB := hid hR
  have HSB := hid hS
  clear hs hr hR hS hx
  rcases HB.out with hw | ⟨hw, hl⟩ | ⟨hw, hl, hi⟩
  · have HW := hid hw
    have HN := hid (wrongE_bad hw)
    clear hw HB
    have m0 := blk_cell HRB.out 0
    have m1 := blk_cell HRB.out 1
    have m2 := blk_cell HRB.out 2
    have m3 := blk_cell HRB.out 3
    have m4 := blk_cell HRB.out 4
    have m5 := blk_cell HRB.out 5
    have m6 := blk_cell HRB.out 6
    have f0 := blk_free HRB.out 0
    have f1 := blk_free HRB.out 1
    have f2 := blk_free HRB.out 2
    have f3 := blk_free HRB.out 3
    have f4 := blk_free HRB.out 4
    have f5 := blk_free HRB.out 5
    have f6 := blk_free HRB.out 6
    simp only [List.getElem?_toArray, List.getElem?_cons_zero, List.getElem?_cons_succ] at m0 m1 m2 m3 m4 m5 m6
    go_upto_region 11 with (go_at_call 26; refine (srWrong_bad HS.out HW.out).mono ?_; rintro e w1 ⟨rfl, hw1⟩; rw [← hw1]; clear hw1; clear w1)
    refine wp_meet (ReadM w.heap.size (.iface 34 (.int .i64 (wrongE s : Nat))) (zeroScrO) v) ?_ ?_
    · go_wp2
      exact ⟨_, _, _, _, _, _, _, _, _, _, _, _, _, _, _, _, _, _, _, _, _, _, _, _, _, _, _, _, _, _, _, _, _, rfl, sets7 HRB.out _ _ _ _ _ _ _, (((((((Only.refl _ _).setCell _).setCell _).setCell _).setCell _).setCell _).setCell _).setCell _⟩
    · refine fun a' y => ex_elim fun u0 => ex_elim fun u1 => ex_elim fun u4 => ex_elim fun u5 => ex_elim fun u6 => ex_elim fun u7 => ex_elim fun u8 => ex_elim fun u9 => ex_elim fun u10 => ex_elim fun u11 => ex_elim fun u12 => ex_elim fun u13 => ex_elim fun u14 => ex_elim fun u15 => ex_elim fun u16 => ex_elim fun u17 => ex_elim fun u18 => ex_elim fun u19 => ex_elim fun u20 => ex_elim fun u21 => ex_elim fun u22 => ex_elim fun u23 => ex_elim fun u24 => ex_elim fun u25 => ex_elim fun u26 => ex_elim fun u27 => ex_elim fun u28 => ex_elim fun u29 => ex_elim fun u30 => ex_elim fun u31 => ex_elim fun u32 => ex_elim fun u33 => ex_elim fun u34 => ?_
      rintro ⟨rfl, hy, hO⟩
      have hF : Ext w y := ⟨HX.out.below.trans (hO.below (Nat.le_refl _) HX.out.size)⟩
      have HF := hid hF
      clear hF m0 f0 m1 f1 m2 f2 m3 f3 m4 f4 m5 f5 m6 f6
      have HO := hid hO
      clear hO
      have m0 := blk_cell hy 0
      have m1 := blk_cell hy 1
      have m2 := blk_cell hy 2
      have m3 := blk_cell hy 3
      have m4 := blk_cell hy 4
      have m5 := blk_cell hy 5
      have m6 := blk_cell hy 6
      simp only [List.getElem?_toArray, List.getElem?_cons_zero, List.getElem?_cons_succ] at m0 m1 m2 m3 m4 m5 m6
      go_wp2
      exact bodyPost_ret (v := .tuple #[noScrV, .iface 34 (.int .i64 (wrongE s : Nat))]) (by simp [results, Try.results10, go_sem, m0, m1, m2, m3, m4, m5, m6]) rfl ⟨wrongE s, HN.out, rfl, HF.out⟩
  · have HW := hid hw
    have hl' : (0 : Int) < s.r.s.length := by omega
    clear hw HB hl
    have m0 := blk_cell HRB.out 0
    have m1 := blk_cell HRB.out 1
    have m2 := blk_cell HRB.out 2
    have m3 := blk_cell HRB.out 3
    have m4 := blk_cell HRB.out 4
    have m5 := blk_cell HRB.out 5
    have m6 := blk_cell HRB.out 6
    have f0 := blk_free HRB.out 0
    have f1 := blk_free HRB.out 1
    have f2 := blk_free HRB.out 2
    have f3 := blk_free HRB.out 3
    have f4 := blk_free HRB.out 4
    have f5 := blk_free HRB.out 5
    have f6 := blk_free HRB.out 6
    simp only [List.getElem?_toArray, List.getElem?_cons_zero, List.getElem?_cons_succ] at m0 m1 m2 m3 m4 m5 m6
    go_upto_region 11 with (first | (go_at_call 26; refine (srWrong_ok HS.out HW.out).mono ?_; rintro e w1 ⟨rfl, hw1⟩; rw [← hw1]; clear hw1; clear w1) | (go_at_call 27; refine (left_any _ _ _ HS.out.rd).mono ?_; rintro e w1 ⟨rfl, hw1⟩; rw [hw1]; clear hw1; clear w1))
    refine wp_meet (ReadM w.heap.size (.iface 34 (.int .i64 10)) (zeroScrO) v) ?_ ?_
    · go_wp2
      exact ⟨_, _, _, _, _, _, _, _, _, _, _, _, _, _, _, _, _, _, _, _, _, _, _, _, _, _, _, _, _, _, _, _, _, rfl, sets7 HRB.out _ _ _ _ _ _ _, (((((((Only.refl _ _).setCell _).setCell _).setCell _).setCell _).setCell _).setCell _).setCell _⟩
    · refine fun a' y => ex_elim fun u0 => ex_elim fun u1 => ex_elim fun u4 => ex_elim fun u5 => ex_elim fun u6 => ex_elim fun u7 => ex_elim fun u8 => ex_elim fun u9 => ex_elim fun u10 => ex_elim fun u11 => ex_elim fun u12 => ex_elim fun u13 => ex_elim fun u14 => ex_elim fun u15 => ex_elim fun u16 => ex_elim fun u17 => ex_elim fun u18 => ex_elim fun u19 => ex_elim fun u20 => ex_elim fun u21 => ex_elim fun u22 => ex_elim fun u23 => ex_elim fun u24 => ex_elim fun u25 => ex_elim fun u26 => ex_elim fun u27 => ex_elim fun u28 => ex_elim fun u29 => ex_elim fun u30 => ex_elim fun u31 => ex_elim fun u32 => ex_elim fun u33 => ex_elim fun u34 => ?_
      rintro ⟨rfl, hy, hO⟩
      have hF : Ext w y := ⟨HX.out.below.trans (hO.below (Nat.le_refl _) HX.out.size)⟩
      have HF := hid hF
      clear hF m0 f0 m1 f1 m2 f2 m3 f3 m4 f4 m5 f5 m6 f6
      have HO := hid hO
      clear hO
      have m0 := blk_cell hy 0
      have m1 := blk_cell hy 1
      have m2 := blk_cell hy 2
      have m3 := blk_cell hy 3
      have m4 := blk_cell hy 4
      have m5 := blk_cell hy 5
      have m6 := blk_cell hy 6
      simp only [List.getElem?_toArray, List.getElem?_cons_zero, List.getElem?_cons_succ] at m0 m1 m2 m3 m4 m5 m6
      go_wp2
      exact bodyPost_ret (v := .tuple #[noScrV, .iface 34 (.int .i64 10)]) (by simp [results, Try.results10, go_sem, m0, m1, m2, m3, m4, m5, m6]) rfl ⟨10, by decide, rfl, HF.out⟩
  · have HW := hid hw
    have hl' : ¬ (0 : Int) < s.r.s.length := by omega
    have hlb' : decide ((0 : Int) < (s.r.s.length : Int)) = false := by simpa using hl'
    have HI := hid hi
    have hI := scrIs_any v q _ _ _ _ HR.out.scrV
    rw [errV_pos hi] at hI
    have HII := hid hI
    clear hw HB hl hi hI
    have k0 := blk_cell HSB.out 0
    have k1 := blk_cell HSB.out 1
    have k2 := blk_cell HSB.out 2
    have k3 := blk_cell HSB.out 3
    have k4 := blk_cell HSB.out 4
    have k5 := blk_cell HSB.out 5
    have k6 := blk_cell HSB.out 6
    simp only [List.getElem?_toArray, List.getElem?_cons_zero, List.getElem?_cons_succ] at k0 k1 k2 k3 k4 k5 k6
    go_upto_region 10 with (first | (go_at_call 26; refine (srWrong_ok HS.out HW.out).mono ?_; rintro e w1 ⟨rfl, hw1⟩; rw [← hw1]; clear hw1; clear w1) | (go_at_call 27; refine (left_any _ _ _ HS.out.rd).mono ?_; rintro e w1 ⟨rfl, hw1⟩; rw [hw1]; clear hw1; clear w1) | (go_at_call 7; refine HII.out.yields ?_; intro p1))
    refine wp_forget (fun y => Ext v y) (by repeat (first | exact Ext.refl _ | assumption | refine Ext.more ?_ _ | refine Ext.drew ?_ | refine Ext.drewN ?_ _ | refine Ext.alloc ?_ _ | refine Ext.setCell ?_ (by simp; try omega) _ | refine Ext.trans ?_ (by assumption))) ?_
    clear p1
    rintro v1 hx1
    have HRB1 := hid (block_ext hx1 HRB.out)
    have HX1 := hid (HX.out.trans hx1)
    clear k0 k1 k2 k3 k4 k5 k6 c0 hRl hSl hx1 HSB HRB HX
    have m0 := blk_cell HRB1.out 0
    have m1 := blk_cell HRB1.out 1
    have m2 := blk_cell HRB1.out 2
    have m3 := blk_cell HRB1.out 3
    have m4 := blk_cell HRB1.out 4
    have m5 := blk_cell HRB1.out 5
    have m6 := blk_cell HRB1.out 6
    have f0 := blk_free HRB1.out 0
    have f1 := blk_free HRB1.out 1
    have f2 := blk_free HRB1.out 2
    have f3 := blk_free HRB1.out 3
    have f4 := blk_free HRB1.out 4
    have f5 := blk_free HRB1.out 5
    have f6 := blk_free HRB1.out 6
    simp only [List.getElem?_toArray, List.getElem?_cons_zero, List.getElem?_cons_succ] at m0 m1 m2 m3 m4 m5 m6
    go_upto_region 11 with (fail)
    refine wp_meet (ReadM w.heap.size (.iface 34 (.int .i64 (isScr q : Nat))) (zeroScrO) v1) ?_ ?_
    · go_wp2
      exact ⟨_, _, _, _, _, _, _, _, _, _, _, _, _, _, _, _, _, _, _, _, _, _, _, _, _, _, _, _, _, _, _, _, _, rfl, sets7 HRB1.out _ _ _ _ _ _ _, (((((((Only.refl _ _).setCell _).setCell _).setCell _).setCell _).setCell _).setCell _).setCell _⟩
    · refine fun a' y => ex_elim fun u0 => ex_elim fun u1 => ex_elim fun u4 => ex_elim fun u5 => ex_elim fun u6 => ex_elim fun u7 => ex_elim fun u8 => ex_elim fun u9 => ex_elim fun u10 => ex_elim fun u11 => ex_elim fun u12 => ex_elim fun u13 => ex_elim fun u14 => ex_elim fun u15 => ex_elim fun u16 => ex_elim fun u17 => ex_elim fun u18 => ex_elim fun u19 => ex_elim fun u20 => ex_elim fun u21 => ex_elim fun u22 => ex_elim fun u23 => ex_elim fun u24 => ex_elim fun u25 => ex_elim fun u26 => ex_elim fun u27 => ex_elim fun u28 => ex_elim fun u29 => ex_elim fun u30 => ex_elim fun u31 => ex_elim fun u32 => ex_elim fun u33 => ex_elim fun u34 => ?_
      rintro ⟨rfl, hy, hO⟩
      have hF : Ext w y := ⟨HX1.out.below.trans (hO.below (Nat.le_refl _) HX1.out.size)⟩
      have HF := hid hF
      clear hF m0 f0 m1 f1 m2 f2 m3 f3 m4 f4 m5 f5 m6 f6
      have HO := hid hO
      clear hO
      have m0 := blk_cell hy 0
      have m1 := blk_cell hy 1
      have m2 := blk_cell hy 2
      have m3 := blk_cell hy 3
      have m4 := blk_cell hy 4
      have m5 := blk_cell hy 5
      have m6 := blk_cell hy 6
      simp only [List.getElem?_toArray, List.getElem?_cons_zero, List.getElem?_cons_succ] at m0 m1 m2 m3 m4 m5 m6
      go_wp2
      exact bodyPost_ret (v := .tuple #[noScrV, .iface 34 (.int .i64 (isScr q : Nat))]) (by simp [results, Try.results10, go_sem, m0, m1, m2, m3, m4, m5, m6]) rfl ⟨isScr q, HI.out, rfl, HF.out⟩
set_option maxRecDepth 100000 in
set_option maxHeartbeats 4000000 in
theorem read_good (w : World) (l : List UInt8) (hl : l.length ≤ 40000) (q : Scr) (s : Rb) (hq : scrP ⟨⟨l, 0⟩, false⟩ = (q, s)) (hw : s.wrong = false) (hl0 : s.r.s.length = 0) (hi : isScr q = 0) :
    Calls Try.prog 10 #[.string (str l)] w (ReadGood q w) := by
  have HL := hid hl
  have hlb : decide ((40000 : Int) < (l.length : Int)) = false := by simp; omega
  have hsc := fun b c => script_any b c ⟨⟨l, 0⟩, false⟩
  rw [hq] at hsc
  have HSC := hid hsc
  clear hq hl hsc
  have HW := hid hw
  have hl' : ¬ (0 : Int) < s.r.s.length := by omega
  have hlb' : decide ((0 : Int) < (s.r.s.length : Int)) = false := by simpa using hl'
  have HI := hid hi
  clear hw hl0 hi
  have hne := fun v w => run_neq_iface_nil (P := Try.prog) w 34 v Try.underlying33
  have hnn := fun w => run_neq_nil_nil' (P := Try.prog) w Try.underlying33
  have hee := fun v w => run_eql_iface_nil (P := Try.prog) w 34 v Try.underlying33
  have hen := fun w => run_eql_nil_nil' (P := Try.prog) w Try.underlying33
  go_enter Try.func10, Try.ntmps10
  go_upto_region 5 with (first
    | (go_at_call 24; refine (of_any l _).mono ?_; rintro e w1 ⟨rfl, rfl⟩)
    | (go_at_call 25; refine (HSC.out (w.heap.size + 2) (w.heap.size + 1) _ (read_start w l HL.out)).mono ?_; rintro e w2 ⟨pp, cp, pd, cd, ps, cs, pa, ca, rfl, hr, hs, ht⟩; have HR := hid hr; have HS := hid hs; have HT := hid ht; clear hr hs ht))
  have hz := read_size w l
  have hsz := HT.out.size
  rw [hz] at hsz
  have hX : Ext w w2 := ⟨(read_ext w l).below.trans (HT.out.below (by omega) (by omega) (read_ext w l).size)⟩
  refine wp_forget (fun v => Sr (w.heap.size + 1 + 1) (w.heap.size + 1) s v ∧ Ext w v ∧ v.heap[w.heap.size]? = some zeroScrO ∧ v.heap[w2.heap.size]? = some (.cells #[.int .i64 q.conf.frame, .int .i64 q.conf.epoch, .slice pp q.conf.plans.length cp, .slice pd q.conf.doms.length cd, .int .i64 q.horizon, .slice ps q.streams.length cs, .slice pa q.arrivals.length ca] 30 (0, 0)) ∧ ScrRows v q (.slice pp q.conf.plans.length cp) (.slice pd q.conf.doms.length cd) (.slice ps q.streams.length cs) (.slice pa q.arrivals.length ca))
    ⟨HS.out.ext (by repeat (first | exact Ext.refl _ | assumption | refine Ext.more ?_ _ | refine Ext.drew ?_ | refine Ext.drewN ?_ _ | refine Ext.alloc ?_ _ | refine Ext.setCell ?_ (by simp; try omega) _ | refine Ext.trans ?_ (by assumption))), hX.alloc _, block_ext (by repeat (first | exact Ext.refl _ | assumption | refine Ext.more ?_ _ | refine Ext.drew ?_ | refine Ext.drewN ?_ _ | refine Ext.alloc ?_ _ | refine Ext.setCell ?_ (by simp; try omega) _ | refine Ext.trans ?_ (by assumption))) (HT.out.blk (read_zero w l) (by omega) (by omega)), heap_alloc_new w2 _, HR.out.kept (Kept.of_ext (by repeat (first | exact Ext.refl _ | assumption | refine Ext.more ?_ _ | refine Ext.drew ?_ | refine Ext.drewN ?_ _ | refine Ext.alloc ?_ _ | refine Ext.setCell ?_ (by simp; try omega) _ | refine Ext.trans ?_ (by assumption))))⟩ ?_
  obtain ⟨C, hC⟩ : ∃ C, C = w2.heap.size := ⟨_, rfl⟩
  rw [← hC]
  have HCn : Hid (w.heap.size < C) := by unfold Hid; omega
  clear hC hX hz hsz HR HS HT
  clear w2
  rintro v ⟨hs, hx, hR, hS, hr⟩
  have hRl := lt_of_block hR
  have hSl := lt_of_block hS
  have c0 := hs.cell0
  have HS := hid hs
  have HX := hid hx
  have HR := hid hr
  have HRB := hid hR
  have HSB := hid hS
  clear hs hr hR hS hx
  have hI := scrIs_any v q _ _ _ _ HR.out.scrV
  rw [HI.out, errV_0] at hI
  have HII := hid hI
  clear hI
  have k0 := blk_cell HSB.out 0
  have k1 := blk_cell HSB.out 1
  have k2 := blk_cell HSB.out 2
  have k3 := blk_cell HSB.out 3
  have k4 := blk_cell HSB.out 4
  have k5 := blk_cell HSB.out 5
  have k6 := blk_cell HSB.out 6
  simp only [List.getElem?_toArray, List.getElem?_cons_zero, List.getElem?_cons_succ] at k0 k1 k2 k3 k4 k5 k6
  go_upto_region 10 with (first | (go_at_call 26; refine (srWrong_ok HS.out HW.out).mono ?_; rintro e w1 ⟨rfl, hw1⟩; rw [← hw1]; clear hw1; clear w1) | (go_at_call 27; refine (left_any _ _ _ HS.out.rd).mono ?_; rintro e w1 ⟨rfl, hw1⟩; rw [hw1]; clear hw1; clear w1) | (go_at_call 7; refine HII.out.yields ?_; intro p1))
  refine wp_forget (fun y => Ext v y) (by repeat (first | exact Ext.refl _ | assumption | refine Ext.more ?_ _ | refine Ext.drew ?_ | refine Ext.drewN ?_ _ | refine Ext.alloc ?_ _ | refine Ext.setCell ?_ (by simp; try omega) _ | refine Ext.trans ?_ (by assumption))) ?_
  clear p1
  rintro v1 hx1
  have HRB1 := hid (block_ext hx1 HRB.out)
  have HSB1 := hid (block_ext hx1 HSB.out)
  have HX1 := hid (HX.out.trans hx1)
  have HV1 := hid (HR.out.kept (Kept.of_ext hx1))
  clear k0 k1 k2 k3 k4 k5 k6 c0 hRl hSl hx1 HRB HX
  have k0 := blk_cell HSB1.out 0
  have k1 := blk_cell HSB1.out 1
  have k2 := blk_cell HSB1.out 2
  have k3 := blk_cell HSB1.out 3
  have k4 := blk_cell HSB1.out 4
  have k5 := blk_cell HSB1.out 5
  have k6 := blk_cell HSB1.out 6
  simp only [List.getElem?_toArray, List.getElem?_cons_zero, List.getElem?_cons_succ] at k0 k1 k2 k3 k4 k5 k6
  have m0 := blk_cell HRB1.out 0
  have m1 := blk_cell HRB1.out 1
  have m2 := blk_cell HRB1.out 2
  have m3 := blk_cell HRB1.out 3
  have m4 := blk_cell HRB1.out 4
  have m5 := blk_cell HRB1.out 5
  have m6 := blk_cell HRB1.out 6
  have f0 := blk_free HRB1.out 0
  have f1 := blk_free HRB1.out 1
  have f2 := blk_free HRB1.out 2
  have f3 := blk_free HRB1.out 3
  have f4 := blk_free HRB1.out 4
  have f5 := blk_free HRB1.out 5
  have f6 := blk_free HRB1.out 6
  simp only [List.getElem?_toArray, List.getElem?_cons_zero, List.getElem?_cons_succ] at m0 m1 m2 m3 m4 m5 m6
  go_upto_region 12 with (fail)
  refine wp_meet (ReadM w.heap.size (.nilIface) (.cells #[.int .i64 q.conf.frame, .int .i64 q.conf.epoch, .slice pp q.conf.plans.length cp, .slice pd q.conf.doms.length cd, .int .i64 q.horizon, .slice ps q.streams.length cs, .slice pa q.arrivals.length ca] 30 (0, 0)) v1) ?_ ?_
  · go_wp2
    exact ⟨_, _, _, _, _, _, _, _, _, _, _, _, _, _, _, _, _, _, _, _, _, _, _, _, _, _, _, _, _, _, _, _, _, rfl, sets7 HRB1.out _ _ _ _ _ _ _, (((((((Only.refl _ _).setCell _).setCell _).setCell _).setCell _).setCell _).setCell _).setCell _⟩
  · refine fun a' y => ex_elim fun u0 => ex_elim fun u1 => ex_elim fun u4 => ex_elim fun u5 => ex_elim fun u6 => ex_elim fun u7 => ex_elim fun u8 => ex_elim fun u9 => ex_elim fun u10 => ex_elim fun u11 => ex_elim fun u12 => ex_elim fun u13 => ex_elim fun u14 => ex_elim fun u15 => ex_elim fun u16 => ex_elim fun u17 => ex_elim fun u18 => ex_elim fun u19 => ex_elim fun u20 => ex_elim fun u21 => ex_elim fun u22 => ex_elim fun u23 => ex_elim fun u24 => ex_elim fun u25 => ex_elim fun u26 => ex_elim fun u27 => ex_elim fun u28 => ex_elim fun u29 => ex_elim fun u30 => ex_elim fun u31 => ex_elim fun u32 => ex_elim fun u33 => ex_elim fun u34 => ?_
    rintro ⟨rfl, hy, hO⟩
    have hF : Ext w y := ⟨HX1.out.below.trans (hO.below (Nat.le_refl _) HX1.out.size)⟩
    have HF := hid hF
    clear hF m0 f0 m1 f1 m2 f2 m3 f3 m4 f4 m5 f5 m6 f6
    have HO := hid hO
    clear hO
    have m0 := blk_cell hy 0
    have m1 := blk_cell hy 1
    have m2 := blk_cell hy 2
    have m3 := blk_cell hy 3
    have m4 := blk_cell hy 4
    have m5 := blk_cell hy 5
    have m6 := blk_cell hy 6
    simp only [List.getElem?_toArray, List.getElem?_cons_zero, List.getElem?_cons_succ] at m0 m1 m2 m3 m4 m5 m6
    go_wp2
    exact bodyPost_ret (v := .tuple #[.agg #[.int .i64 q.conf.frame, .int .i64 q.conf.epoch, .slice pp q.conf.plans.length cp, .slice pd q.conf.doms.length cd, .int .i64 q.horizon, .slice ps q.streams.length cs, .slice pa q.arrivals.length ca], .nilIface]) (by simp [results, Try.results10, go_sem, m0, m1, m2, m3, m4, m5, m6]) rfl ⟨pp, cp, pd, cd, ps, cs, pa, ca, rfl, (HV1.out.kept (HO.out.kept HRB1.out (by decide))).scrV, HF.out⟩
end Go.Proofs.Ytbllibgddiiboaa
