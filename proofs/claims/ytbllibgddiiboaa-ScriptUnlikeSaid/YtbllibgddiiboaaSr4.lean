/- The script's reader: a domain. -/
import Derived.Test.YtbllibgddiiboaaSr3
import Derived.Deep.RegionHeld3
import Derived.Deep.RegionWith
import Derived.Deep.CutRange
namespace Go.Proofs.Ytbllibgddiiboaa
open Go.RowKit
set_option linter.unusedSimpArgs false

theorem Only.kept {n : Nat} {good : List TypeId} {w w' : World} {cs : Array Value} {T : TypeId} (h : Only n w w') (hn : w.heap[n]? = some (.cells cs T (0, 0))) (hT : T ∉ good) : Kept good w w' := fun i cs' T' hi hT' => by
  refine h.blk hi fun e => hT ?_
  subst e
  rw [hi] at hn
  simp at hn
  rw [← hn.2]; exact hT'
theorem Sr.only {b c n : Nat} {s : Rb} {w w' : World} (h : Sr b c s w) (k : Only n w w') (h1 : n ≠ b) (h2 : n ≠ c) : Sr b c s w' := ⟨k.blk h.blk h1.symm, h.rd.only k h2.symm, h.len⟩
theorem Two.only {b c n : Nat} {x y z : World} (h : Two b c x y) (k : Only n y z) (hn : x.heap.size ≤ n) : Two b c x z :=
  ⟨k.os.trans h.os, k.tape.trans h.tape, k.output.trans h.output, Nat.le_trans h.size k.size, fun i hi h1 h2 => (k.block i (Nat.lt_of_lt_of_le hi h.size) (by simp; omega)).trans (h.block i hi h1 h2)⟩
theorem sets10 {w : World} {n : Nat} {T : TypeId} {z0 z1 z2 z3 z4 z5 z6 z7 z8 z9 : Value} (h : w.heap[n]? = some (.cells #[z0, z1, z2, z3, z4, z5, z6, z7, z8, z9] T (0, 0))) (a0 a1 a2 a3 a4 a5 a6 a7 a8 a9 : Value) :
    ((((((((((w.setCell ⟨n, 0, none⟩ a0).setCell ⟨n, 1, none⟩ a1).setCell ⟨n, 2, none⟩ a2).setCell ⟨n, 3, none⟩ a3).setCell ⟨n, 4, none⟩ a4).setCell ⟨n, 5, none⟩ a5).setCell ⟨n, 6, none⟩ a6).setCell ⟨n, 7, none⟩ a7).setCell ⟨n, 8, none⟩ a8).setCell ⟨n, 9, none⟩ a9).heap[n]? = some (.cells #[a0, a1, a2, a3, a4, a5, a6, a7, a8, a9] T (0, 0)) := by
  have := blk_set (blk_set (blk_set (blk_set (blk_set (blk_set (blk_set (blk_set (blk_set (blk_set h 0 a0) 1 a1) 2 a2) 3 a3) 4 a4) 5 a5) 6 a6) 7 a7) 8 a8) 9 a9
  simpa using this
theorem srBits_any (b c : Nat) (s : Rb) (w : World) (h : Sr b c s w) : Calls Try.prog 76 #[.pointer (some ⟨c, 0, none⟩)] w (Reads b c (.int .u64 s.r.bits) ⟨s.r.afterBits, s.b⟩ w) :=
  (rbits_any c s.r w h.rd (by have := h.len; omega)).mono fun _ _ ⟨he, hr, ho⟩ => ⟨he, ⟨ho.blk h.blk h.ne, hr, by have := h.len; have := Rd.afterBits_len s.r; show s.r.afterBits.s.length ≤ 40000; omega⟩, Two.of_only ho⟩
/-- A count of rows of numbers, then these. -/
theorem rowsR_any (b c : Nat) (s : Rb) (w : World) (h : Sr b c (cntP s).2 w) : Calls Try.prog 62 #[.pointer (some ⟨b, 0, none⟩), .int .i64 (cntP s).1, .func (.func 77) #[.pointer (some ⟨b, 0, none⟩)] #[]] w
    (ReadsRow 48 1 ElR b c (rowP (rowP numP) s) w) := manyR_any b c (cntP s).2 (cntP s).1 w h cnt_nonneg (cntP_le s)
theorem srNum_to {b c : Nat} {s s' : Rb} {x : Int} (e : numP s = (x, s')) {w : World} (h : Sr b c s w) : Calls Try.prog 41 #[.pointer (some ⟨b, 0, none⟩)] w (Reads b c (.int .i64 x) s' w) := by
  have := srNum_any b c s w h
  rwa [e] at this
theorem srBits_to {b c : Nat} {s s' : Rb} {x : Int} (e : s.r.bits = x) (e' : (⟨s.r.afterBits, s.b⟩ : Rb) = s') {w : World} (h : Sr b c s w) : Calls Try.prog 76 #[.pointer (some ⟨c, 0, none⟩)] w (Reads b c (.int .u64 x) s' w) := by
  have := srBits_any b c s w h
  rwa [e, e'] at this
theorem rowsR_to {b c : Nat} {s s' : Rb} {x : List (List Int)} (e : rowP (rowP numP) s = (x, s')) {w : World} (h : Sr b c (cntP s).2 w) : Calls Try.prog 62 #[.pointer (some ⟨b, 0, none⟩), .int .i64 (cntP s).1, .func (.func 77) #[.pointer (some ⟨b, 0, none⟩)] #[]] w
    (ReadsRow 48 1 ElR b c (x, s') w) := e ▸ rowsR_any b c s w h
theorem nums_to {b c : Nat} {s s' : Rb} {x : List Int} (e : rowP numP s = (x, s')) {w : World} (h : Sr b c s w) : Calls Try.prog 77 #[.pointer (some ⟨b, 0, none⟩)] w (ReadsRow 3 1 ElI b c (x, s') w) := e ▸ nums_any b c s w h
theorem domP_of {s s1 s2 s3 s4 s5 s6 s7 s8 s9 s10 : Rb} {x1 x2 x4 x6 x7 x8 x9 x10 : Int} {x3 : List (List Int)} {x5 : List Int} (e1 : numP s = (x1, s1)) (e2 : s1.r.bits = x2) (e2' : (⟨s1.r.afterBits, s1.b⟩ : Rb) = s2) (e3 : rowP (rowP numP) s2 = (x3, s3)) (e4 : numP s3 = (x4, s4)) (e5 : rowP numP s4 = (x5, s5))
    (e6 : numP s5 = (x6, s6)) (e7 : numP s6 = (x7, s7)) (e8 : numP s7 = (x8, s8)) (e9 : numP s8 = (x9, s9)) (e10 : numP s9 = (x10, s10)) : domP s = (⟨x1, x2, x3, x5, x4, x6, x7, x8, x9, x10⟩, s10) := by
  subst e2 e2'
  simp only [domP, e1, e3, e4, e5, e6, e7, e8, e9, e10]
/-- What a domain that is read comes to. -/
def DomCells (d : Dom) (vr ve : Value) : List Value := [.int .i64 d.level, .int .u64 d.cats, vr, ve, .int .i64 d.to, .int .i64 d.threads, .int .i64 d.groups, .int .i64 d.ring, .int .i64 d.sends, .int .i64 d.box]
def ElD (w : World) (cs : List Value) (d : Dom) : Prop := ∃ vr ve, cs = DomCells d vr ve ∧ Rowed 48 1 ElR 0 w vr d.routes ∧ Rowed 3 1 ElI 0 w ve d.release ∧ U64 d.cats
theorem ElD.kept {w w' : World} (k : Kept [48, 3] w w') (cs : List Value) (d : Dom) (h : ElD w cs d) : ElD w' cs d := by
  obtain ⟨vr, ve, e, h1, h2, h3⟩ := h
  exact ⟨vr, ve, e, h1.kept k (by simp) (ElR.kept (k.sub (by simp))), h2.kept k (by simp) (fun _ _ h => h), h3⟩
def ReadsDom (b c : Nat) (q : Dom × Rb) (w : World) (e : Ending) (w' : World) : Prop := ∃ pr cr pe ce, e = .returned (.agg (DomCells q.1 (.slice pr q.1.routes.length cr) (.slice pe q.1.release.length ce)).toArray) ∧
  ElD w' (DomCells q.1 (.slice pr q.1.routes.length cr) (.slice pe q.1.release.length ce)) q.1 ∧ Sr b c q.2 w' ∧ Two b c w w'

set_option maxRecDepth 100000 in
set_option maxHeartbeats 4000000 in
theorem domain_any (b c : Nat) (s : Rb) (w : World) (h : Sr b c s w) : Calls Try.prog 66 #[.pointer (some ⟨b, 0, none⟩)] w (ReadsDom b c (domP s) w) := by
  have H := hid h
  clear h
  obtain ⟨x1, s1, e1⟩ : ∃ x t, numP s = (x, t) := ⟨_, _, rfl⟩
  obtain ⟨x2, e2⟩ : ∃ x, s1.r.bits = x := ⟨_, rfl⟩
  obtain ⟨s2, e2'⟩ : ∃ t, (⟨s1.r.afterBits, s1.b⟩ : Rb) = t := ⟨_, rfl⟩
  obtain ⟨x3, s3, e3⟩ : ∃ x t, rowP (rowP numP) s2 = (x, t) := ⟨_, _, rfl⟩
  obtain ⟨x4, s4, e4⟩ : ∃ x t, numP s3 = (x, t) := ⟨_, _, rfl⟩
  obtain ⟨x5, s5, e5⟩ : ∃ x t, rowP numP s4 = (x, t) := ⟨_, _, rfl⟩
  obtain ⟨x6, s6, e6⟩ : ∃ x t, numP s5 = (x, t) := ⟨_, _, rfl⟩
  obtain ⟨x7, s7, e7⟩ : ∃ x t, numP s6 = (x, t) := ⟨_, _, rfl⟩
  obtain ⟨x8, s8, e8⟩ : ∃ x t, numP s7 = (x, t) := ⟨_, _, rfl⟩
  obtain ⟨x9, s9, e9⟩ : ∃ x t, numP s8 = (x, t) := ⟨_, _, rfl⟩
  obtain ⟨x10, s10, e10⟩ : ∃ x t, numP s9 = (x, t) := ⟨_, _, rfl⟩
  have hu : U64 x2 := e2 ▸ bits_u64 _
  rw [domP_of e1 e2 e2' e3 e4 e5 e6 e7 e8 e9 e10]
  have E1 := hid e1
  have E2 := hid e2
  have E2q := hid e2'
  have E3 := hid e3
  have E4 := hid e4
  have E5 := hid e5
  have E6 := hid e6
  have E7 := hid e7
  have E8 := hid e8
  have E9 := hid e9
  have E10 := hid e10
  have HU := hid hu
  clear e1 e2 e2' e3 e4 e5 e6 e7 e8 e9 e10 hu
  go_enter Try.func66, Try.ntmps66
  go_upto_region 1 with (fail)
  refine wp_forget (fun v => Sr b c s v ∧ Two b c w v ∧ v.heap[w.heap.size]? = some (.cells #[.int .i64 0, .int .u64 0, .slice none 0 0, .slice none 0 0, .int .i64 0, .int .i64 0, .int .i64 0, .int .i64 0, .int .i64 0, .int .i64 0] 54 (0, 0))) ⟨H.out.ext (by repeat (first | exact Ext.refl _ | assumption | refine Ext.more ?_ _ | refine Ext.drew ?_ | refine Ext.drewN ?_ _ | refine Ext.alloc ?_ _ | refine Ext.setCell ?_ (by simp; try omega) _ | refine Ext.trans ?_ (by assumption))), Two.of_ext (by repeat (first | exact Ext.refl _ | assumption | refine Ext.more ?_ _ | refine Ext.drew ?_ | refine Ext.drewN ?_ _ | refine Ext.alloc ?_ _ | refine Ext.setCell ?_ (by simp; try omega) _ | refine Ext.trans ?_ (by assumption))), heap_alloc_new w _⟩ ?_
  rintro v ⟨hs0, ht0, hn0⟩
  have HS0 := hid (hs0.ext (Ext.drew (Ext.refl v)))
  have HT0 := hid (ht0.ext (Ext.drew (Ext.refl v)))
  have HN0 : Hid (v.drew.heap[w.heap.size]? = some (.cells #[.int .i64 0, .int .u64 0, .slice none 0 0, .slice none 0 0, .int .i64 0, .int .i64 0, .int .i64 0, .int .i64 0, .int .i64 0, .int .i64 0] 54 (0, 0))) := hn0
  clear hs0 ht0 hn0
  refine wp_region_T 29 1 (fun u => u.cell? ⟨b, 0, none⟩ = some (.pointer (some ⟨c, 0, none⟩))) (by kernel_rfl) (by kernel_rfl) ?_
  generalize v.drew = v0 at *
  have HSS := HS0.out.cell0
  have HV0 := hid (Two.refl b c v0)
  refine wpT_take 0 (v := ?v1) rfl (by kernel_rfl) (by kernel_rfl) (by kernel_rfl) (by kernel_rfl) (by intro _ _ _ h; first | exact h | (obtain ⟨h, _⟩ := h; cases h)) (by rfl) HSS ?hy1 ?_
  case hy1 => (intro u hu; go_simp; first | done | (with_reducible rfl))
  (try simp only [Act.put, List.setIfInBounds_toArray, List.set_cons_zero, List.set_cons_succ])
  refine wpT_take 2 (v := ?v2) rfl (by kernel_rfl) (by kernel_rfl) (by kernel_rfl) (by kernel_rfl) (by intro _ _ _ h; first | exact h | (obtain ⟨h, _⟩ := h; cases h)) (by rfl) HSS ?hy2 ?_
  case hy2 => (intro u hu; go_simp; first | done | (with_reducible rfl))
  (try simp only [Act.put, List.setIfInBounds_toArray, List.set_cons_zero, List.set_cons_succ])
  refine wpT_take 3 (v := ?v3) rfl (by kernel_rfl) (by kernel_rfl) (by kernel_rfl) (by kernel_rfl) (by intro _ _ _ h; first | exact h | (obtain ⟨h, _⟩ := h; cases h)) (by rfl) HSS ?hy3 ?_
  case hy3 => (intro u hu; go_simp; first | done | (with_reducible rfl))
  (try simp only [Act.put, List.setIfInBounds_toArray, List.set_cons_zero, List.set_cons_succ])
  refine wpT_take 4 (v := ?v4) rfl (by kernel_rfl) (by kernel_rfl) (by kernel_rfl) (by kernel_rfl) (by intro _ _ _ h; first | exact h | (obtain ⟨h, _⟩ := h; cases h)) (by rfl) HSS ?hy4 ?_
  case hy4 => (intro u hu; go_simp; first | done | (with_reducible rfl))
  (try simp only [Act.put, List.setIfInBounds_toArray, List.set_cons_zero, List.set_cons_succ])
  refine wpT_take 5 (v := ?v5) rfl (by kernel_rfl) (by kernel_rfl) (by kernel_rfl) (by kernel_rfl) (by intro _ _ _ h; first | exact h | (obtain ⟨h, _⟩ := h; cases h)) (by rfl) HSS ?hy5 ?_
  case hy5 => (intro u hu; go_simp; first | done | (with_reducible rfl))
  (try simp only [Act.put, List.setIfInBounds_toArray, List.set_cons_zero, List.set_cons_succ])
  refine wpT_take 8 (v := ?v6) rfl (by kernel_rfl) (by kernel_rfl) (by kernel_rfl) (by kernel_rfl) (by intro _ _ _ h; first | exact h | (obtain ⟨h, _⟩ := h; cases h)) (by rfl) HSS ?hy6 ?_
  case hy6 => (intro u hu; go_simp; first | done | (with_reducible rfl))
  (try simp only [Act.put, List.setIfInBounds_toArray, List.set_cons_zero, List.set_cons_succ])
  refine wpT_take 9 (v := ?v7) rfl (by kernel_rfl) (by kernel_rfl) (by kernel_rfl) (by kernel_rfl) (by intro _ _ _ h; first | exact h | (obtain ⟨h, _⟩ := h; cases h)) (by rfl) HSS ?hy7 ?_
  case hy7 => (intro u hu; go_simp; first | done | (with_reducible rfl))
  (try simp only [Act.put, List.setIfInBounds_toArray, List.set_cons_zero, List.set_cons_succ])
  refine wpT_take 11 (v := ?v8) rfl (by kernel_rfl) (by kernel_rfl) (by kernel_rfl) (by kernel_rfl) (by intro _ _ _ h; first | exact h | (obtain ⟨h, _⟩ := h; cases h)) (by rfl) HSS ?hy8 ?_
  case hy8 => (intro u hu; go_simp; first | done | (with_reducible rfl))
  (try simp only [Act.put, List.setIfInBounds_toArray, List.set_cons_zero, List.set_cons_succ])
  refine wpT_take 12 (v := ?v9) rfl (by kernel_rfl) (by kernel_rfl) (by kernel_rfl) (by kernel_rfl) (by intro _ _ _ h; first | exact h | (obtain ⟨h, _⟩ := h; cases h)) (by rfl) HSS ?hy9 ?_
  case hy9 => (intro u hu; go_simp; first | done | (with_reducible rfl))
  (try simp only [Act.put, List.setIfInBounds_toArray, List.set_cons_zero, List.set_cons_succ])
  refine wpT_take 14 (v := ?v10) rfl (by kernel_rfl) (by kernel_rfl) (by kernel_rfl) (by kernel_rfl) (by intro _ _ _ h; first | exact h | (obtain ⟨h, _⟩ := h; cases h)) (by rfl) HSS ?hy10 ?_
  case hy10 => (intro u hu; go_simp; first | done | (with_reducible rfl))
  (try simp only [Act.put, List.setIfInBounds_toArray, List.set_cons_zero, List.set_cons_succ])
  refine wpT_take 16 (v := ?v11) rfl (by kernel_rfl) (by kernel_rfl) (by kernel_rfl) (by kernel_rfl) (by intro _ _ _ h; first | exact h | (obtain ⟨h, _⟩ := h; cases h)) (by rfl) HSS ?hy11 ?_
  case hy11 => (intro u hu; go_simp; first | done | (with_reducible rfl))
  (try simp only [Act.put, List.setIfInBounds_toArray, List.set_cons_zero, List.set_cons_succ])
  refine wpT_take 18 (v := ?v12) rfl (by kernel_rfl) (by kernel_rfl) (by kernel_rfl) (by kernel_rfl) (by intro _ _ _ h; first | exact h | (obtain ⟨h, _⟩ := h; cases h)) (by rfl) HSS ?hy12 ?_
  case hy12 => (intro u hu; go_simp; first | done | (with_reducible rfl))
  (try simp only [Act.put, List.setIfInBounds_toArray, List.set_cons_zero, List.set_cons_succ])
  refine wpT_take 20 (v := ?v13) rfl (by kernel_rfl) (by kernel_rfl) (by kernel_rfl) (by kernel_rfl) (by intro _ _ _ h; first | exact h | (obtain ⟨h, _⟩ := h; cases h)) (by rfl) HSS ?hy13 ?_
  case hy13 => (intro u hu; go_simp; first | done | (with_reducible rfl))
  (try simp only [Act.put, List.setIfInBounds_toArray, List.set_cons_zero, List.set_cons_succ])
  refine wpT_take 22 (v := ?v14) rfl (by kernel_rfl) (by kernel_rfl) (by kernel_rfl) (by kernel_rfl) (by intro _ _ _ h; first | exact h | (obtain ⟨h, _⟩ := h; cases h)) (by rfl) HSS ?hy14 ?_
  case hy14 => (intro u hu; go_simp; first | done | (with_reducible rfl))
  (try simp only [Act.put, List.setIfInBounds_toArray, List.set_cons_zero, List.set_cons_succ])
  refine wpT_take 24 (v := ?v15) rfl (by kernel_rfl) (by kernel_rfl) (by kernel_rfl) (by kernel_rfl) (by intro _ _ _ h; first | exact h | (obtain ⟨h, _⟩ := h; cases h)) (by rfl) HSS ?hy15 ?_
  case hy15 => (intro u hu; go_simp; first | done | (with_reducible rfl))
  (try simp only [Act.put, List.setIfInBounds_toArray, List.set_cons_zero, List.set_cons_succ])
  refine wpT_take 26 (v := ?v16) rfl (by kernel_rfl) (by kernel_rfl) (by kernel_rfl) (by kernel_rfl) (by intro _ _ _ h; first | exact h | (obtain ⟨h, _⟩ := h; cases h)) (by rfl) HSS ?hy16 ?_
  case hy16 => (intro u hu; go_simp; first | done | (with_reducible rfl))
  (try simp only [Act.put, List.setIfInBounds_toArray, List.set_cons_zero, List.set_cons_succ])
  refine wpT_one 1 rfl (by kernel_rfl) (by rfl) (fun K' hK => ?_)
  go_simp
  refine (srNum_to E1.out HS0.out).mono ?_
  rintro e v1 ⟨rfl, hs, ht⟩
  have HS1 := hid hs
  have HV1 := hid (HV0.out.trans ht)
  clear hs ht
  refine hK.out _ _ HS1.out.cell0 ?_
  clear HSS hK K' HV0
  have HSS := HS1.out.cell0
  (try simp only [Act.put, List.setIfInBounds_toArray, List.set_cons_zero, List.set_cons_succ])
  refine wpT_one 6 rfl (by kernel_rfl) (by rfl) (fun K' hK => ?_)
  go_simp
  refine (srBits_to E2.out E2q.out HS1.out).mono ?_
  rintro e v2 ⟨rfl, hs, ht⟩
  have HS2 := hid hs
  have HV2 := hid (HV1.out.trans ht)
  clear hs ht
  refine hK.out _ _ HS2.out.cell0 ?_
  clear HSS hK K' HV1
  have HSS := HS2.out.cell0
  (try simp only [Act.put, List.setIfInBounds_toArray, List.set_cons_zero, List.set_cons_succ])
  refine wpT_take 7 (v := ?v17) rfl (by kernel_rfl) (by kernel_rfl) (by kernel_rfl) (by kernel_rfl) (by intro _ _ _ h; first | exact h | (obtain ⟨h, _⟩ := h; cases h)) (by rfl) HSS ?hy17 ?_
  case hy17 => (intro u hu; go_simp; first | done | (with_reducible rfl))
  (try simp only [Act.put, List.setIfInBounds_toArray, List.set_cons_zero, List.set_cons_succ])
  refine wpT_one 10 rfl (by kernel_rfl) (by rfl) (fun K' hK => ?_)
  go_simp
  refine (srCount_any b c _ _ HS2.out).mono ?_
  rintro e v3 ⟨rfl, hs, ht⟩
  have HS3 := hid hs
  have HV3 := hid (HV2.out.trans ht)
  clear hs ht
  refine hK.out _ _ HS3.out.cell0 ?_
  clear HSS hK K' HV2
  have HSS := HS3.out.cell0
  (try simp only [Act.put, List.setIfInBounds_toArray, List.set_cons_zero, List.set_cons_succ])
  refine wpT_one 13 rfl (by kernel_rfl) (by rfl) (fun K' hK => ?_)
  go_simp
  refine (rowsR_to E3.out HS3.out).mono ?_
  rintro e v4 ⟨x, rfl, hr, hs, ht⟩
  obtain ⟨px, cx, rfl, -, -⟩ := hr.shape
  have HS4 := hid hs
  have HV4 := hid (HV3.out.trans ht)
  have Rx4 := hid (hr.weak (base' := 0) (Nat.zero_le _))
  clear hr
  clear hs ht
  refine hK.out _ _ HS4.out.cell0 ?_
  clear HSS hK K' HV3
  have HSS := HS4.out.cell0
  (try simp only [Act.put, List.setIfInBounds_toArray, List.set_cons_zero, List.set_cons_succ])
  refine wpT_one 15 rfl (by kernel_rfl) (by rfl) (fun K' hK => ?_)
  go_simp
  refine (srNum_to E4.out HS4.out).mono ?_
  rintro e v5 ⟨rfl, hs, ht⟩
  have HS5 := hid hs
  have HV5 := hid (HV4.out.trans ht)
  have HKK := hid (HS4.out.kept (good := [48, 3]) ht (by decide))
  have Rx5 := hid (Rx4.out.kept HKK.out (by simp) (ElR.kept (HKK.out.sub (by simp))))
  clear Rx4
  clear HKK
  clear hs ht
  refine hK.out _ _ HS5.out.cell0 ?_
  clear HSS hK K' HV4
  have HSS := HS5.out.cell0
  (try simp only [Act.put, List.setIfInBounds_toArray, List.set_cons_zero, List.set_cons_succ])
  refine wpT_one 17 rfl (by kernel_rfl) (by rfl) (fun K' hK => ?_)
  go_simp
  refine (nums_to E5.out HS5.out).mono ?_
  rintro e v6 ⟨y, rfl, hr, hs, ht⟩
  obtain ⟨py, cy, rfl, -, -⟩ := hr.shape
  have HS6 := hid hs
  have HV6 := hid (HV5.out.trans ht)
  have HKK := hid (HS5.out.kept (good := [48, 3]) ht (by decide))
  have Rx6 := hid (Rx5.out.kept HKK.out (by simp) (ElR.kept (HKK.out.sub (by simp))))
  clear Rx5
  clear HKK
  have Ry6 := hid (hr.weak (base' := 0) (Nat.zero_le _))
  clear hr
  clear hs ht
  refine hK.out _ _ HS6.out.cell0 ?_
  clear HSS hK K' HV5
  have HSS := HS6.out.cell0
  (try simp only [Act.put, List.setIfInBounds_toArray, List.set_cons_zero, List.set_cons_succ])
  refine wpT_one 19 rfl (by kernel_rfl) (by rfl) (fun K' hK => ?_)
  go_simp
  refine (srNum_to E6.out HS6.out).mono ?_
  rintro e v7 ⟨rfl, hs, ht⟩
  have HS7 := hid hs
  have HV7 := hid (HV6.out.trans ht)
  have HKK := hid (HS6.out.kept (good := [48, 3]) ht (by decide))
  have Rx7 := hid (Rx6.out.kept HKK.out (by simp) (ElR.kept (HKK.out.sub (by simp))))
  clear Rx6
  have Ry7 := hid (Ry6.out.kept HKK.out (by simp) (fun _ _ h => h))
  clear Ry6
  clear HKK
  clear hs ht
  refine hK.out _ _ HS7.out.cell0 ?_
  clear HSS hK K' HV6
  have HSS := HS7.out.cell0
  (try simp only [Act.put, List.setIfInBounds_toArray, List.set_cons_zero, List.set_cons_succ])
  refine wpT_one 21 rfl (by kernel_rfl) (by rfl) (fun K' hK => ?_)
  go_simp
  refine (srNum_to E7.out HS7.out).mono ?_
  rintro e v8 ⟨rfl, hs, ht⟩
  have HS8 := hid hs
  have HV8 := hid (HV7.out.trans ht)
  have HKK := hid (HS7.out.kept (good := [48, 3]) ht (by decide))
  have Rx8 := hid (Rx7.out.kept HKK.out (by simp) (ElR.kept (HKK.out.sub (by simp))))
  clear Rx7
  have Ry8 := hid (Ry7.out.kept HKK.out (by simp) (fun _ _ h => h))
  clear Ry7
  clear HKK
  clear hs ht
  refine hK.out _ _ HS8.out.cell0 ?_
  clear HSS hK K' HV7
  have HSS := HS8.out.cell0
  (try simp only [Act.put, List.setIfInBounds_toArray, List.set_cons_zero, List.set_cons_succ])
  refine wpT_one 23 rfl (by kernel_rfl) (by rfl) (fun K' hK => ?_)
  go_simp
  refine (srNum_to E8.out HS8.out).mono ?_
  rintro e v9 ⟨rfl, hs, ht⟩
  have HS9 := hid hs
  have HV9 := hid (HV8.out.trans ht)
  have HKK := hid (HS8.out.kept (good := [48, 3]) ht (by decide))
  have Rx9 := hid (Rx8.out.kept HKK.out (by simp) (ElR.kept (HKK.out.sub (by simp))))
  clear Rx8
  have Ry9 := hid (Ry8.out.kept HKK.out (by simp) (fun _ _ h => h))
  clear Ry8
  clear HKK
  clear hs ht
  refine hK.out _ _ HS9.out.cell0 ?_
  clear HSS hK K' HV8
  have HSS := HS9.out.cell0
  (try simp only [Act.put, List.setIfInBounds_toArray, List.set_cons_zero, List.set_cons_succ])
  refine wpT_one 25 rfl (by kernel_rfl) (by rfl) (fun K' hK => ?_)
  go_simp
  refine (srNum_to E9.out HS9.out).mono ?_
  rintro e v10 ⟨rfl, hs, ht⟩
  have HS10 := hid hs
  have HV10 := hid (HV9.out.trans ht)
  have HKK := hid (HS9.out.kept (good := [48, 3]) ht (by decide))
  have Rx10 := hid (Rx9.out.kept HKK.out (by simp) (ElR.kept (HKK.out.sub (by simp))))
  clear Rx9
  have Ry10 := hid (Ry9.out.kept HKK.out (by simp) (fun _ _ h => h))
  clear Ry9
  clear HKK
  clear hs ht
  refine hK.out _ _ HS10.out.cell0 ?_
  clear HSS hK K' HV9
  have HSS := HS10.out.cell0
  (try simp only [Act.put, List.setIfInBounds_toArray, List.set_cons_zero, List.set_cons_succ])
  refine wpT_one 27 rfl (by kernel_rfl) (by rfl) (fun K' hK => ?_)
  go_simp
  refine (srNum_to E10.out HS10.out).mono ?_
  rintro e v11 ⟨rfl, hs, ht⟩
  have HS11 := hid hs
  have HV11 := hid (HV10.out.trans ht)
  have HKK := hid (HS10.out.kept (good := [48, 3]) ht (by decide))
  have Rx11 := hid (Rx10.out.kept HKK.out (by simp) (ElR.kept (HKK.out.sub (by simp))))
  clear Rx10
  have Ry11 := hid (Ry10.out.kept HKK.out (by simp) (fun _ _ h => h))
  clear Ry10
  clear HKK
  clear hs ht
  refine hK.out _ _ HS11.out.cell0 ?_
  clear HSS hK K' HV10
  have HSS := HS11.out.cell0
  (try simp only [Act.put, List.setIfInBounds_toArray, List.set_cons_zero, List.set_cons_succ])
  refine wpT_take 28 (v := ?v18) rfl (by kernel_rfl) (by kernel_rfl) (by kernel_rfl) (by kernel_rfl) (by intro _ _ _ h; first | exact h | (obtain ⟨h, _⟩ := h; cases h)) (by rfl) HSS ?hy18 ?_
  case hy18 => (intro u hu; go_simp; first | done | (with_reducible rfl))
  (try simp only [Act.put, List.setIfInBounds_toArray, List.set_cons_zero, List.set_cons_succ])
  refine wpT_done (by kernel_rfl) ?_
  refine wpAny_one 29 rfl (by kernel_rfl) (by rfl) (fun K' hK => ?_)
  have hlt := H.out.lt
  have hn := HV11.out.blk HN0.out (by omega) (by omega)
  have k0 := blk_cell hn 0
  have k1 := blk_cell hn 1
  have k2 := blk_cell hn 2
  have k3 := blk_cell hn 3
  have k4 := blk_cell hn 4
  have k5 := blk_cell hn 5
  have k6 := blk_cell hn 6
  have k7 := blk_cell hn 7
  have k8 := blk_cell hn 8
  have k9 := blk_cell hn 9
  have f0 := blk_free hn 0
  have f1 := blk_free hn 1
  have f2 := blk_free hn 2
  have f3 := blk_free hn 3
  have f4 := blk_free hn 4
  have f5 := blk_free hn 5
  have f6 := blk_free hn 6
  have f7 := blk_free hn 7
  have f8 := blk_free hn 8
  have f9 := blk_free hn 9
  go_simp
  refine hK.out _ _ ?_
  (try simp only [Act.put, List.setIfInBounds_toArray, List.set_cons_zero, List.set_cons_succ])
  refine wpAny_done (by kernel_rfl) ?_ _
  refine ‹∀ (a : Act) (w : World), Code.wp _ _ _ a w → _› _ _ ?_
  refine wp_forget (fun y => y.heap[w.heap.size]? = some (.cells (DomCells ⟨x1, x2, x3, x5, x4, x6, x7, x8, x9, x10⟩ (.slice px x3.length cx) (.slice py x5.length cy)).toArray 54 (0, 0)) ∧ Only w.heap.size v11 y)
    ⟨sets10 hn _ _ _ _ _ _ _ _ _ _, ((((((((((Only.refl _ _).setCell _).setCell _).setCell _).setCell _).setCell _).setCell _).setCell _).setCell _).setCell _).setCell _⟩ ?_
  rintro y ⟨hy, hO⟩
  have HF : Hid (ElD y (DomCells ⟨x1, x2, x3, x5, x4, x6, x7, x8, x9, x10⟩ (.slice px x3.length cx) (.slice py x5.length cy)) ⟨x1, x2, x3, x5, x4, x6, x7, x8, x9, x10⟩ ∧ Sr b c s10 y ∧ Two b c w y) := by
    have hk := hO.kept hn (good := [48, 3]) (by decide)
    exact ⟨⟨_, _, rfl, Rx11.out.kept hk (by simp) (ElR.kept (hk.sub (by simp))), Ry11.out.kept hk (by simp) (fun _ _ h => h), HU.out⟩, HS11.out.only hO (by omega) (by omega), (HT0.out.trans HV11.out).only hO (Nat.le_refl _)⟩
  clear k0 k1 k2 k3 k4 k5 k6 k7 k8 k9 f0 f1 f2 f3 f4 f5 f6 f7 f8 f9 hO hn
  have k0 := blk_cell hy 0
  have k1 := blk_cell hy 1
  have k2 := blk_cell hy 2
  have k3 := blk_cell hy 3
  have k4 := blk_cell hy 4
  have k5 := blk_cell hy 5
  have k6 := blk_cell hy 6
  have k7 := blk_cell hy 7
  have k8 := blk_cell hy 8
  have k9 := blk_cell hy 9
  simp only [DomCells, List.getElem?_toArray, List.getElem?_cons_zero, List.getElem?_cons_succ] at k0 k1 k2 k3 k4 k5 k6 k7 k8 k9
  go_wp2
  exact bodyPost_ret (v := .agg (DomCells ⟨x1, x2, x3, x5, x4, x6, x7, x8, x9, x10⟩ (.slice px x3.length cx) (.slice py x5.length cy)).toArray) (by simp [results, Try.results66, go_sem, k0, k1, k2, k3, k4, k5, k6, k7, k8, k9, DomCells]) rfl ⟨px, cx, py, cy, rfl, HF.out⟩
end Go.Proofs.Ytbllibgddiiboaa
