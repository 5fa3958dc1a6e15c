/- ConfPlans: of every number of a case and of plans: the law answers true. -/
import Derived.Test.YtgcbkhbpbmmfhaaCKnown
import Derived.Test.YtgcbkhbpbmmfhaaPush2
import Derived.Test.YtgcbkhbpbmmfhaaOwn2
import Derived.Deep.CutRange
import Derived.Deep.RegionHeld3
import Derived.Test.YtgcbkhbpbmmfhaaTail
import Derived.ChangeMaps5
import Derived.ChangeSame
import Derived.ChangeVars
import Derived.JoinedOf
import Derived.RowKitTokens
namespace Go.Proofs.Ytgcbkhbpbmmfhaa
open Go.ChangeShapes Go.WideShapes Go.ChangeAt Go.RowKit Go.Joins Go.Deep

namespace confPlans
theorem infoRow : (Try.prog.info? 33).map (fun i => (i.zero, i.size, i.bytes)) = some (some (.slice none 0 0), 1, 24) := by kernel_rfl
def cP (ps : List (List Int)) : Cnf := ⟨8, 2, ps, baseC.doms⟩
abbrev one4 : Obj := .cells #[.int .i64 1, .int .i64 0, .int .i64 0, .int .i64 2] 3 (0, 0)
abbrev varO (N : Nat) (pv : Value) : Obj := .cells #[.int .i64 8, .int .i64 2, pv, .slice (some ⟨N + 13, 0, none⟩) 4 4] 26 (0, 0)
abbrev rowV (b : Nat) : Value := .slice (some ⟨b, 0, none⟩) 4 4

/-- So many plans lie there. -/
structure St (w : World) (N : Nat) (bs : List Nat) (pv : Value) (x : World) : Prop where
  base : Lies N baseRO x
  var : x.heap[N + 14]? = some (varO N pv)
  own : x.ownsRow (N + 15) 33 1 pv bs.length (bs.map rowV)
  rows : ∀ b ∈ bs, x.heap[b]? = some one4
  ext : Ext w x
  big : N + 15 ≤ x.heap.size
theorem St.more {w : World} {N : Nat} {bs : List Nat} {pv : Value} {x y : World} (s : St w N bs pv x) (h : Ext x y) : St w N bs pv y :=
  ⟨s.base.ext h, block_ext h s.var, owns_ext s.own h, fun b hb => block_ext h (s.rows b hb), s.ext.trans h, Nat.le_trans s.big h.size⟩
theorem St.far {w : World} {N : Nat} {bs : List Nat} {pv : Value} {x : World} (s : St w N bs pv x) {b : Nat} {o : Obj} (hb : x.heap[b]? = some o) (ho : ∀ cs, o ≠ .cells cs 33 (0, 0)) : some b ≠ pv.ownBlock := by
  intro h
  rcases s.own.2 with ⟨rfl, _⟩ | ⟨g, cap, cur, rfl, _, hg, _⟩
  · cases h
  · simp only [Value.ownBlock, Option.some.injEq] at h
    subst h
    rw [hg] at hb
    exact ho cur (Option.some.inj hb).symm
theorem one4_ne (cs : Array Value) : one4 ≠ .cells cs 33 (0, 0) := by intro h; injection h with _ h; cases h
theorem varO_ne (N : Nat) (pv : Value) (cs : Array Value) : varO N pv ≠ .cells cs 33 (0, 0) := by intro h; injection h with _ h; cases h

/-- One plan more. -/
theorem St.push {w : World} {N : Nat} {bs : List Nat} {pv : Value} {x : World} (s : St w N bs pv x) (hN : w.heap.size ≤ N) {p : Option Addr} {c : Nat} {y : World}
    (ho : y.ownsRow (N + 15) 33 1 (.slice p (bs.length + 1) c) (bs.length + 1) (bs.map rowV ++ [rowV x.heap.size])) (hb : Below (N + 15) (x.alloc one4) y)
    (hf : ∀ b o, (x.alloc one4).heap[b]? = some o → some b ≠ pv.ownBlock → y.heap[b]? = some o) :
    St w N (bs ++ [x.heap.size]) (.slice p (bs.length + 1) c) (y.setCell ⟨N + 14, 2, none⟩ (.slice p (bs.length + 1) c)) := by
  have hx : Ext x (x.alloc one4) := Ext.alloc (Ext.refl _) _
  have hv := hf _ _ (block_ext hx s.var) (s.far s.var (varO_ne N pv))
  have hrow : ∀ b, (x.alloc one4).heap[b]? = some one4 → some b ≠ pv.ownBlock → (y.setCell ⟨N + 14, 2, none⟩ (.slice p (bs.length + 1) c)).heap[b]? = some one4 := fun b h1 h2 => by
    have h3 := hf b _ h1 h2
    rw [setCell_at hv]
    split
    · subst_vars
      rw [hv] at h3
      injection (Option.some.inj h3) with _ h
      cases h
    · exact h3
  refine ⟨?_, ?_, ?_, ?_, ?_, ?_⟩
  · refine Lies.other ⟨fun i o h => ?_, s.base.2⟩ _ (.inr (by simp [baseRO]))
    have hi := (List.getElem?_eq_some_iff.1 h).1
    simp [baseRO] at hi
    refine hf _ _ (block_ext hx (s.base.1 i o h)) ?_
    intro he
    rcases s.own.2 with ⟨rfl, _⟩ | ⟨g, cap, cur, rfl, hg, _⟩
    · cases he
    · simp only [Value.ownBlock, Option.some.injEq] at he
      omega
  · rw [setCell_at hv]; simp
  · rw [List.length_append, List.map_append]
    obtain ⟨g, cap, cur, e, h1, h2, h3, h4, h5, h6⟩ := owns_block ho (by omega)
    refine ⟨by simp, .inr ⟨g, cap, cur, e, h1, ?_, h3, h4, h5, h6⟩⟩
    rw [setCell_at hv, if_neg (by omega)]
    exact h2
  · intro b hb'
    rcases List.mem_append.1 hb' with h | h
    · exact hrow b (block_ext hx (s.rows b h)) (s.far (s.rows b h) one4_ne)
    · obtain rfl := List.mem_singleton.1 h
      refine hrow _ (heap_alloc_new x one4) ?_
      intro he
      rcases s.own.2 with ⟨rfl, _⟩ | ⟨g, cap, cur, rfl, _, hg, _⟩
      · cases he
      · simp only [Value.ownBlock, Option.some.injEq] at he
        have := (Array.getElem?_eq_some_iff.1 hg).1
        omega
  · have h1 : Ext w (x.alloc one4) := s.ext.alloc _
    have hs := s.big
    have h2 : Ext w y := ⟨h1.below.trans (hb.mono (by omega))⟩
    exact Ext.setCell h2 (by simp; omega) _
  · have h1 := hb.size
    have h2 := s.big
    simp at h1 ⊢
    omega
theorem St.var' {w : World} {N : Nat} {bs : List Nat} {pv : Value} {x : World} (s : St w N bs pv x) {y : World} (hf : ∀ b o, (x.alloc one4).heap[b]? = some o → some b ≠ pv.ownBlock → y.heap[b]? = some o) : y.cell? ⟨N + 14, 2, none⟩ = some pv ∧ y.frozen? ⟨N + 14, 2, none⟩ = false := by
  have hv := hf _ _ (block_ext (Ext.alloc (Ext.refl _) _) s.var) (s.far s.var (varO_ne N pv))
  exact ⟨by simp [World.cell?, hv], by simp [World.frozen?, hv]⟩
theorem nums4 {x : World} {b : Nat} (h : x.heap[b]? = some one4) : Nums .i64 x (rowV b) [1, 0, 0, 2] :=
  ⟨_, 4, rfl, by simp, by unfold maxLen; omega, fun _ => ⟨b, 0, rfl, fun i u hi => by
    match i, hi with
    | 0, hi => simp at hi; subst hi; exact ⟨by simp [World.cell?, h], by decide⟩
    | 1, hi => simp at hi; subst hi; exact ⟨by simp [World.cell?, h], by decide⟩
    | 2, hi => simp at hi; subst hi; exact ⟨by simp [World.cell?, h], by decide⟩
    | 3, hi => simp at hi; subst hi; exact ⟨by simp [World.cell?, h], by decide⟩⟩⟩
theorem St.conf {w : World} {N : Nat} {bs : List Nat} {pv : Value} {x : World} (s : St w N bs pv x) : ConfV x (cP (List.replicate bs.length [1, 0, 0, 2])) pv (.slice (some ⟨N + 13, 0, none⟩) 4 4) := by
  refine ⟨owns_rows s.own (by simp [cP]) fun i u hu => ?_, doms_lie s.base (v := .s 13 4) (RV.wf_of rfl) (by rfl)⟩
  rw [List.getElem?_map] at hu
  cases hb : bs[i]? with
  | none => simp [hb] at hu
  | some b =>
    simp [hb] at hu
    subst hu
    have hi := (List.getElem?_eq_some_iff.1 hb).1
    exact ⟨_, by simp [cP, hi], nums4 (s.rows b (List.mem_of_getElem? hb))⟩

theorem nums_block {x : World} {b : Nat} {r : List Int} {T : TypeId} (h : x.heap[b]? = some (.cells (r.map (Value.int .i64)).toArray T (0, 0))) (hw : ∀ z ∈ r, (Lit.int .i64 z).wf = true) (hl : r.length ≤ maxLen) : Nums .i64 x (.slice (some ⟨b, 0, none⟩) r.length r.length) r :=
  ⟨_, r.length, rfl, by omega, hl, fun _ => ⟨b, 0, rfl, fun i u hi => ⟨by simp [World.cell?, h, hi], hw u (List.mem_of_getElem? hi)⟩⟩⟩
/-- A plan laid in another one's place. -/
theorem St.poke {w : World} {N : Nat} {bs : List Nat} {g cap : Nat} {v : World} (s : St w N bs (.slice (some ⟨g, 0, none⟩) bs.length cap) v) (hN : w.heap.size ≤ N) {j : Nat} (hj : j < bs.length) (r : List Int) (hw : ∀ z ∈ r, (Lit.int .i64 z).wf = true) (hl : r.length ≤ maxLen) :
    let y := (v.setCell ⟨g, j, none⟩ (.slice (some ⟨v.heap.size, 0, none⟩) r.length r.length)).alloc (.cells (r.map (Value.int .i64)).toArray 3 (0, 0))
    ConfV y (cP ((List.replicate bs.length [1, 0, 0, 2]).set j r)) (.slice (some ⟨g, 0, none⟩) bs.length cap) (.slice (some ⟨N + 13, 0, none⟩) 4 4) ∧ y.heap[N + 14]? = some (varO N (.slice (some ⟨g, 0, none⟩) bs.length cap)) ∧ Ext w y := by
  intro y
  obtain ⟨g', cap', cur, he, hg, hgc, hle, hmx, hcs, htk⟩ := owns_block s.own (by omega)
  injection he with e1 e2 e3
  injection e1 with e1
  injection e1 with e1
  subst e1 e3
  have hxy : Ext (v.setCell ⟨g, j, none⟩ (.slice (some ⟨v.heap.size, 0, none⟩) r.length r.length)) y := Ext.alloc (Ext.refl _) _
  have hnew : y.heap[v.heap.size]? = some (.cells (r.map (Value.int .i64)).toArray 3 (0, 0)) := by
    have := heap_alloc_new (v.setCell ⟨g, j, none⟩ (.slice (some ⟨v.heap.size, 0, none⟩) r.length r.length)) (.cells (r.map (Value.int .i64)).toArray 3 (0, 0))
    rwa [World.size_setCell] at this
  refine ⟨⟨owns_rows (owns_ext (owns_set s.own hj _) hxy) (by simp [cP]) fun i u hu => ?_, doms_lie ((s.base.other _ (.inr (by simp [baseRO]; omega))).ext hxy) (v := .s 13 4) (RV.wf_of rfl) (by rfl)⟩, ?_, ?_⟩
  · rw [List.getElem?_set] at hu
    simp only [cP, List.getElem?_set]
    by_cases hij : j = i
    · subst hij
      rw [if_pos rfl, if_pos (by simpa using hj)] at hu
      cases hu
      refine ⟨r, by simp [hj], ?_⟩
      exact nums_block hnew hw hl
    · rw [if_neg hij] at hu
      rw [List.getElem?_map] at hu
      cases hb : bs[i]? with
      | none => simp [hb] at hu
      | some b =>
        simp [hb] at hu
        subst hu
        have hi := (List.getElem?_eq_some_iff.1 hb).1
        have hbb := s.rows b (List.mem_of_getElem? hb)
        refine ⟨[1, 0, 0, 2], by simp [hij, hi], nums4 (block_ext hxy ?_)⟩
        rw [setCell_at hgc, if_neg ?_]
        · exact hbb
        · intro e
          subst e
          rw [hgc] at hbb
          exact one4_ne cur (Option.some.inj hbb).symm
  · refine block_ext hxy ?_
    rw [setCell_at hgc, if_neg (by omega)]
    exact s.var
  · exact (Ext.setCell s.ext (by simp; omega) _).alloc _
/-- Three more. -/
theorem St.push3 {w : World} {N : Nat} {bs : List Nat} {pv : Value} {x y : World} (s : St w N bs pv x) (hN : w.heap.size ≤ N) {b0 : Nat} (hb0 : b0 ∈ bs) {p : Option Addr} {c : Nat}
    (ho : y.ownsRow (N + 15) 33 1 (.slice p (bs.length + 3) c) (bs.length + 3) (bs.map rowV ++ [rowV b0, rowV b0, rowV b0])) (hb : Below (N + 15) x y)
    (hf : ∀ b o, x.heap[b]? = some o → some b ≠ pv.ownBlock → y.heap[b]? = some o) :
    let q := Value.slice p (bs.length + 3) c
    let z := y.setCell ⟨N + 14, 2, none⟩ q
    ConfV z (cP (List.replicate (bs.length + 3) [1, 0, 0, 2])) q (.slice (some ⟨N + 13, 0, none⟩) 4 4) ∧ z.heap[N + 14]? = some (varO N q) ∧ Ext w z := by
  intro q z
  have hsz := s.big
  have hv := hf _ _ s.var (s.far s.var (varO_ne N pv))
  have hrow : ∀ b ∈ bs, z.heap[b]? = some one4 := fun b hb => by
    have h1 := hf b _ (s.rows b hb) (s.far (s.rows b hb) one4_ne)
    show (y.setCell ⟨N + 14, 2, none⟩ q).heap[b]? = _
    rw [setCell_at hv]
    split
    · subst_vars
      rw [hv] at h1
      injection (Option.some.inj h1) with _ h
      cases h
    · exact h1
  refine ⟨⟨owns_rows (w := z) (base := N + 15) (T := 33) (m := bs.length + 3) (xs := (bs ++ [b0, b0, b0]).map rowV) ?_ (by simp [cP]) fun i u hu => ?_, ?_⟩, ?_, ?_⟩
  · obtain ⟨g, cap, cur, e, h1, h2, h3, h4, h5, h6⟩ := owns_block ho (by omega)
    refine ⟨by simp, .inr ⟨g, cap, cur, e, h1, ?_, h3, h4, h5, by rw [h6]; simp⟩⟩
    show (y.setCell ⟨N + 14, 2, none⟩ q).heap[g]? = _
    rw [setCell_at hv, if_neg (by omega)]
    exact h2
  · rw [List.getElem?_map] at hu
    cases hb : (bs ++ [b0, b0, b0])[i]? with
    | none => rw [hb] at hu; cases hu
    | some b =>
      rw [hb] at hu
      simp at hu
      subst hu
      have hi := (List.getElem?_eq_some_iff.1 hb).1
      have hm := List.mem_of_getElem? hb
      refine ⟨[1, 0, 0, 2], by simp at hi; simp [cP, hi], nums4 (hrow b ?_)⟩
      rcases List.mem_append.1 hm with h | h
      · exact h
      · simp at h; subst h; exact hb0
  · refine doms_lie (Lies.other (N := N) (os := baseRO) ⟨fun i o h => ?_, s.base.2⟩ _ (.inr (by simp [baseRO]))) (v := .s 13 4) (RV.wf_of rfl) (by rfl)
    have hi := (List.getElem?_eq_some_iff.1 h).1
    simp [baseRO] at hi
    refine hf _ _ (s.base.1 i o h) ?_
    intro he
    rcases s.own.2 with ⟨rfl, _⟩ | ⟨g, cap, cur, rfl, hg, _⟩
    · cases he
    · simp only [Value.ownBlock, Option.some.injEq] at he
      omega
  · show (y.setCell ⟨N + 14, 2, none⟩ q).heap[N + 14]? = _
    rw [setCell_at hv]
    simp
  · exact Ext.setCell ⟨s.ext.below.trans (hb.mono (by omega))⟩ (by simp; omega) _
theorem St.is {w : World} {N : Nat} {bs : List Nat} {pv : Value} {x : World} (s : St w N bs pv x) (h1 : 1 ≤ bs.length) (h2 : bs.length ≤ 3) : Calls Try.prog 10 #[.agg #[.int .i64 8, .int .i64 2, pv, .slice (some ⟨N + 13, 0, none⟩) 4 4]] x (Yields x .nilIface) := by
  refine confIs_ok (c := cP (List.replicate bs.length [1, 0, 0, 2])) ?_ x pv _ s.conf
  have : bs.length = 1 ∨ bs.length = 2 ∨ bs.length = 3 := by omega
  rcases this with h | h | h <;> rw [h] <;> rfl

set_option maxRecDepth 100000 in
set_option maxHeartbeats 8000000 in
theorem walk (which n : Int) (hw0 : 0 ≤ which) (hw1 : which ≤ 255) (hn0 : 0 ≤ n) (hn1 : n ≤ 255) (w : World) :
    Calls Try.prog 6 #[.int .u8 which, .int .u8 n] w (Yields w (.bool true)) := by
  obtain ⟨k, hk, hk2⟩ : ∃ k : Nat, n % 3 = k ∧ k ≤ 2 := ⟨(n % 3).toNat, by omega, by omega⟩
  go_enter Try.func6, Try.ntmps6
  go_wp2_with (go_at_call 8; refine (known_any _).yields ?_; intro p0)
  refine (base_to _).mono ?_
  rintro e w1 ⟨N, rfl, n1, l1, x1, s1⟩
  have X1 : Ext w w1 := Ext.trans (ext_more _ _) x1
  have hN : w.heap.size ≤ N := by have := n1.out; have := (ext_more w p0).size; omega
  clear x1 n1
  go_upto_region 6 with (fail)
  refine wp_forget (fun v => St w N [] (.slice none 0 0) v) ⟨?_, ?_, World.ownsRow_nil _ _ _ _, (fun b hb => by cases hb), X1.alloc _, by simp [s1]⟩ ?_
  · exact l1.ext (Ext.alloc (Ext.refl _) _)
  · have := heap_alloc_new w1 (varO N (.slice none 0 0))
    rw [s1] at this
    exact this
  intro v hs
  clear l1 s1 X1
  go_wp2_with fail
  simp only [hk]
  clear hk
  go_loopw [7] (fun v7 wr => ∃ (bs : List Nat) (pv : Value), v7 = .int .i64 bs.length ∧ bs.length ≤ k + 1 ∧ St w N bs pv wr) (fun v7 _ => (k + 1 - (intOf v7).toNat))
  case atStart => exact ⟨[], _, rfl, by simp, hs⟩
  case round =>
    clear hs
    obtain ⟨bs, pv, rfl, hbs, hs⟩ := hrel
    have HS := hid hs
    have k2 : wr.cell? ⟨N + 14, 2, none⟩ = some pv := by simp [World.cell?, hs.var]
    have f2 : wr.frozen? ⟨N + 14, 2, none⟩ = false := by simp [World.frozen?, hs.var]
    have hbig := hs.big
    clear hs
    by_cases hlt : bs.length < k + 1
    · have i1 : (bs.length : Int) < (k : Int) + 1 := by omega
      go_wp2_with (at_builtin; refine wpList_push_far (w := wr.alloc one4) (by rfl) (.tmp 22) (.tmp 24) 23 33 (.slice none 0 0) 24 (by rfl) Try.underlying23 infoRow (by rfl) (owns_ext HS.out.own (Ext.alloc (Ext.refl _) _)) (news := [rowV wr.heap.size]) (k := 1) (by rfl) (by intro u hu; obtain rfl := List.mem_singleton.1 hu; rfl) (by unfold maxLen; omega) (by omega) (by simp; omega) (by rfl) (by rfl) (by simp) (by decide) ?_; intro p c w1 ho1 hb1 hf1; obtain ⟨k2', f2'⟩ := HS.out.var' hf1)
      go_roundw
      case rel => exact ⟨bs ++ [wr.heap.size], _, by simp, by simp; omega, HS.out.push hN ho1 hb1 hf1⟩
      case measure => simp [intOf]; omega
    · have hbe : bs.length = k + 1 := by omega
      have hi := hid (HS.out.is (by omega) (by omega))
      have HBE := hid hbe
      clear hbe hbs
      have m0 : wr.cell? ⟨N + 14, 0, none⟩ = some (.int .i64 8) := by simp [World.cell?, HS.out.var]
      have m1 : wr.cell? ⟨N + 14, 1, none⟩ = some (.int .i64 2) := by simp [World.cell?, HS.out.var]
      have m3 : wr.cell? ⟨N + 14, 3, none⟩ = some (.slice (some ⟨N + 13, 0, none⟩) 4 4) := by simp [World.cell?, HS.out.var]
      have g1 : ((bs.length : Int) < (k : Int) + 1) = False := by have := HBE.out; simp; omega
      go_upto_region 12 with (go_at_call 10; (with_reducible refine hi.out.yields ?_); intro p1)
      refine wp_forget (fun v => St w N bs pv v) (HS.out.more (ext_more _ _)) ?_
      clear HS hi k2 f2 m0 m1 m3 hbig
      intro v hs
      have HS := hid hs
      have k0 : v.cell? ⟨N + 14, 0, none⟩ = some (.int .i64 8) := by simp [World.cell?, hs.var]
      have k1 : v.cell? ⟨N + 14, 1, none⟩ = some (.int .i64 2) := by simp [World.cell?, hs.var]
      have k2 : v.cell? ⟨N + 14, 2, none⟩ = some pv := by simp [World.cell?, hs.var]
      have k3 : v.cell? ⟨N + 14, 3, none⟩ = some (.slice (some ⟨N + 13, 0, none⟩) 4 4) := by simp [World.cell?, hs.var]
      have f2 : v.frozen? ⟨N + 14, 2, none⟩ = false := by simp [World.frozen?, hs.var]
      have hbig := hs.big
      clear hs
      obtain ⟨g, cap, cur, rfl, hg, hgc, hle, hmx, hcs, htk⟩ := owns_block HS.out.own (by have := HBE.out; omega)
      have kg : ∀ j, j < bs.length → v.cell? ⟨g, j, none⟩ = some (rowV (bs.getD j 0)) := fun j hj => by
        have h1 : (cur.toList.take (bs.length * 1))[j]? = (bs.map rowV)[j]? := by rw [htk]
        rw [List.getElem?_take, if_pos (by omega)] at h1
        simp only [World.cell?, hgc]
        simpa [hj] using h1
      have fg : ∀ j, v.frozen? ⟨g, j, none⟩ = false := fun j => by simp [World.frozen?, hgc]
      have kk := kg k (by have := HBE.out; omega)
      have k00 := kg 0 (by have := HBE.out; omega)
      have fk := fg k
      have f00 := fg 0
      have i5 : (k : Int) < bs.length := by have := HBE.out; omega
      have i6 : (0 : Int) < bs.length := by have := HBE.out; omega
      have i7 : (0 : Int) ≤ k := by omega
      have i8 : 0 < bs.length := by have := HBE.out; omega
      have hgl : g < v.heap.size := (Array.getElem?_eq_some_iff.1 hgc).1
      clear kg fg
      have hr : which % 5 = 0 ∨ which % 5 = 1 ∨ which % 5 = 2 ∨ which % 5 = 3 ∨ which % 5 = 4 := by omega
      rcases hr with hr | hr | hr | hr | hr
      · go_wp2_with fail
        refine calls_forget (fun y => ConfV y (cP []) (.slice none 0 0) (.slice (some ⟨N + 13, 0, none⟩) 4 4) ∧ Ext w y) ⟨?_, ?_⟩ ?_
        · exact ⟨⟨none, 0, rfl, by simp [cP], by unfold maxLen; omega, fun h => by simp [cP] at h⟩, doms_lie (HS.out.base.other _ (.inr (by simp [baseRO]))) (v := .s 13 4) (RV.wf_of rfl) (by rfl)⟩
        · exact Ext.setCell HS.out.ext (by simp; omega) _
        rintro y ⟨V, X⟩
        have V := hid V
        refine (confIs_bad (c := cP []) 18 (by rfl) (by decide) rfl y _ _ V.out).yields ?_
        intro p2
        go_wp2_with (go_at_call 11; (with_reducible refine (is_errno_to (r := true) rfl _).yields ?_); intro p3)
        go_returns
        exact ⟨rfl, (by repeat (first | exact Ext.refl _ | assumption | refine Ext.more ?_ _ | refine Ext.drew ?_ | refine Ext.drewN ?_ _ | refine Ext.alloc ?_ _ | refine Ext.setCell ?_ (by simp; try omega) _ | refine Ext.trans ?_ (by assumption)))⟩
      · go_upto_region 22 with (fail)
        refine wp_forget (fun y => ConfV y (cP ((List.replicate bs.length [1, 0, 0, 2]).set k [1, 2, 3])) (.slice (some ⟨g, 0, none⟩) bs.length cap) (.slice (some ⟨N + 13, 0, none⟩) 4 4) ∧ y.heap[N + 14]? = some (varO N (.slice (some ⟨g, 0, none⟩) bs.length cap)) ∧ Ext w y)
          (HS.out.poke hN (j := k) (by have := HBE.out; omega) [1, 2, 3] (by decide) (by unfold maxLen; simp)) ?_
        rintro y ⟨V, hv, X⟩
        have V := hid V
        have m0 : y.cell? ⟨N + 14, 0, none⟩ = some (.int .i64 8) := by simp [World.cell?, hv]
        have m1 : y.cell? ⟨N + 14, 1, none⟩ = some (.int .i64 2) := by simp [World.cell?, hv]
        have m2 : y.cell? ⟨N + 14, 2, none⟩ = some (.slice (some ⟨g, 0, none⟩) bs.length cap) := by simp [World.cell?, hv]
        have m3 : y.cell? ⟨N + 14, 3, none⟩ = some (.slice (some ⟨N + 13, 0, none⟩) 4 4) := by simp [World.cell?, hv]
        have hi := hid (confIs_bad 18 (c := cP ((List.replicate bs.length [1, 0, 0, 2]).set k [1, 2, 3])) (n := 18) (by
          rw [HBE.out]
          rcases (show k = 0 ∨ k = 1 ∨ k = 2 by omega) with h | h | h <;> subst h <;> rfl) (by decide) rfl y _ _ V.out)
        clear V hv k0 k1 k2 k3 f2 hgc
        go_wp2_with (first | (go_at_call 10; refine hi.out.yields ?_; intro p2) | (go_at_call 11; (with_reducible refine (is_errno_to (r := true) rfl _).yields ?_); intro p3))
        go_returns
        exact ⟨rfl, (by repeat (first | exact Ext.refl _ | assumption | refine Ext.more ?_ _ | refine Ext.drew ?_ | refine Ext.drewN ?_ _ | refine Ext.alloc ?_ _ | refine Ext.setCell ?_ (by simp; try omega) _ | refine Ext.trans ?_ (by assumption)))⟩
      · go_upto_region 22 with (fail)
        refine wp_forget (fun y => ConfV y (cP ((List.replicate bs.length [1, 0, 0, 2]).set k [0, 0, 0, 0])) (.slice (some ⟨g, 0, none⟩) bs.length cap) (.slice (some ⟨N + 13, 0, none⟩) 4 4) ∧ y.heap[N + 14]? = some (varO N (.slice (some ⟨g, 0, none⟩) bs.length cap)) ∧ Ext w y)
          (HS.out.poke hN (j := k) (by have := HBE.out; omega) [0, 0, 0, 0] (by decide) (by unfold maxLen; simp)) ?_
        rintro y ⟨V, hv, X⟩
        have V := hid V
        have m0 : y.cell? ⟨N + 14, 0, none⟩ = some (.int .i64 8) := by simp [World.cell?, hv]
        have m1 : y.cell? ⟨N + 14, 1, none⟩ = some (.int .i64 2) := by simp [World.cell?, hv]
        have m2 : y.cell? ⟨N + 14, 2, none⟩ = some (.slice (some ⟨g, 0, none⟩) bs.length cap) := by simp [World.cell?, hv]
        have m3 : y.cell? ⟨N + 14, 3, none⟩ = some (.slice (some ⟨N + 13, 0, none⟩) 4 4) := by simp [World.cell?, hv]
        have hi := hid (confIs_bad 18 (c := cP ((List.replicate bs.length [1, 0, 0, 2]).set k [0, 0, 0, 0])) (n := 18) (by
          rw [HBE.out]
          rcases (show k = 0 ∨ k = 1 ∨ k = 2 by omega) with h | h | h <;> subst h <;> rfl) (by decide) rfl y _ _ V.out)
        clear V hv k0 k1 k2 k3 f2 hgc
        go_wp2_with (first | (go_at_call 10; refine hi.out.yields ?_; intro p2) | (go_at_call 11; (with_reducible refine (is_errno_to (r := true) rfl _).yields ?_); intro p3))
        go_returns
        exact ⟨rfl, (by repeat (first | exact Ext.refl _ | assumption | refine Ext.more ?_ _ | refine Ext.drew ?_ | refine Ext.drewN ?_ _ | refine Ext.alloc ?_ _ | refine Ext.setCell ?_ (by simp; try omega) _ | refine Ext.trans ?_ (by assumption)))⟩
      · go_upto_region 22 with (fail)
        refine wp_forget (fun y => ConfV y (cP ((List.replicate bs.length [1, 0, 0, 2]).set 0 [1, 2, 3, 4, 5])) (.slice (some ⟨g, 0, none⟩) bs.length cap) (.slice (some ⟨N + 13, 0, none⟩) 4 4) ∧ y.heap[N + 14]? = some (varO N (.slice (some ⟨g, 0, none⟩) bs.length cap)) ∧ Ext w y)
          (HS.out.poke hN (j := 0) (by have := HBE.out; omega) [1, 2, 3, 4, 5] (by decide) (by unfold maxLen; simp)) ?_
        rintro y ⟨V, hv, X⟩
        have V := hid V
        have m0 : y.cell? ⟨N + 14, 0, none⟩ = some (.int .i64 8) := by simp [World.cell?, hv]
        have m1 : y.cell? ⟨N + 14, 1, none⟩ = some (.int .i64 2) := by simp [World.cell?, hv]
        have m2 : y.cell? ⟨N + 14, 2, none⟩ = some (.slice (some ⟨g, 0, none⟩) bs.length cap) := by simp [World.cell?, hv]
        have m3 : y.cell? ⟨N + 14, 3, none⟩ = some (.slice (some ⟨N + 13, 0, none⟩) 4 4) := by simp [World.cell?, hv]
        have hi := hid (confIs_bad 18 (c := cP ((List.replicate bs.length [1, 0, 0, 2]).set 0 [1, 2, 3, 4, 5])) (n := 18) (by
          rw [HBE.out]
          rcases (show k = 0 ∨ k = 1 ∨ k = 2 by omega) with h | h | h <;> subst h <;> rfl) (by decide) rfl y _ _ V.out)
        clear V hv k0 k1 k2 k3 f2 hgc
        go_wp2_with (first | (go_at_call 10; refine hi.out.yields ?_; intro p2) | (go_at_call 11; (with_reducible refine (is_errno_to (r := true) rfl _).yields ?_); intro p3))
        go_returns
        exact ⟨rfl, (by repeat (first | exact Ext.refl _ | assumption | refine Ext.more ?_ _ | refine Ext.drew ?_ | refine Ext.drewN ?_ _ | refine Ext.alloc ?_ _ | refine Ext.setCell ?_ (by simp; try omega) _ | refine Ext.trans ?_ (by assumption)))⟩
      · have hb0m : bs.getD 0 0 ∈ bs := by
          have h := HBE.out
          cases bs with
          | nil => simp at h
          | cons a l => simp
        clear kk fk f00
        generalize bs.getD 0 0 = b0 at *
        have HD := hid (HS.out.more (Ext.drew (Ext.refl v)))
        go_upto_region 13 with (fail)
        refine wp_region_T 15 3 (fun u => u.cell? ⟨N + 14, 2, none⟩ = some (.slice (some ⟨g, 0, none⟩) bs.length cap) ∧ u.cell? ⟨g, 0, none⟩ = some (rowV b0)) (by kernel_rfl) (by kernel_rfl) ?_
        have HSS : v.drew.cell? ⟨N + 14, 2, none⟩ = some (.slice (some ⟨g, 0, none⟩) bs.length cap) ∧ v.drew.cell? ⟨g, 0, none⟩ = some (rowV b0) := ⟨cell_drew k2, cell_drew k00⟩
        refine wpT_take 0 (v := ?v0) rfl (by kernel_rfl) (by kernel_rfl) (by kernel_rfl) (by kernel_rfl) (by intro _ _ _ h; first | exact h | (obtain ⟨h, _⟩ := h; cases h)) (by rfl) HSS ?hy0 ?_
        case hy0 => (intro u hu; obtain ⟨hu1, hu2⟩ := hu; go_simp; first | done | (with_reducible rfl))
        (try simp only [Act.put, List.setIfInBounds_toArray, List.set_cons_zero, List.set_cons_succ])
        refine wpT_take 1 (v := ?v1) rfl (by kernel_rfl) (by kernel_rfl) (by kernel_rfl) (by kernel_rfl) (by intro _ _ _ h; first | exact h | (obtain ⟨h, _⟩ := h; cases h)) (by rfl) HSS ?hy1 ?_
        case hy1 => (intro u hu; obtain ⟨hu1, hu2⟩ := hu; go_simp; first | done | (with_reducible rfl))
        (try simp only [Act.put, List.setIfInBounds_toArray, List.set_cons_zero, List.set_cons_succ])
        refine wpT_take 2 (v := ?v2) rfl (by kernel_rfl) (by kernel_rfl) (by kernel_rfl) (by kernel_rfl) (by intro _ _ _ h; first | exact h | (obtain ⟨h, _⟩ := h; cases h)) (by rfl) HSS ?hy2 ?_
        case hy2 => (intro u hu; obtain ⟨hu1, hu2⟩ := hu; go_simp; first | done | (with_reducible rfl))
        (try simp only [Act.put, List.setIfInBounds_toArray, List.set_cons_zero, List.set_cons_succ])
        refine wpT_take 3 (v := ?v3) rfl (by kernel_rfl) (by kernel_rfl) (by kernel_rfl) (by kernel_rfl) (by intro _ _ _ h; first | exact h | (obtain ⟨h, _⟩ := h; cases h)) (by rfl) HSS ?hy3 ?_
        case hy3 => (intro u hu; obtain ⟨hu1, hu2⟩ := hu; go_simp; first | done | (with_reducible rfl))
        (try simp only [Act.put, List.setIfInBounds_toArray, List.set_cons_zero, List.set_cons_succ])
        refine wpT_take 4 (v := ?v4) rfl (by kernel_rfl) (by kernel_rfl) (by kernel_rfl) (by kernel_rfl) (by intro _ _ _ h; first | exact h | (obtain ⟨h, _⟩ := h; cases h)) (by rfl) HSS ?hy4 ?_
        case hy4 => (intro u hu; obtain ⟨hu1, hu2⟩ := hu; go_simp; first | done | (with_reducible rfl))
        (try simp only [Act.put, List.setIfInBounds_toArray, List.set_cons_zero, List.set_cons_succ])
        refine wpT_take 5 (v := ?v5) rfl (by kernel_rfl) (by kernel_rfl) (by kernel_rfl) (by kernel_rfl) (by intro _ _ _ h; first | exact h | (obtain ⟨h, _⟩ := h; cases h)) (by rfl) HSS ?hy5 ?_
        case hy5 => (intro u hu; obtain ⟨hu1, hu2⟩ := hu; go_simp; first | done | (with_reducible rfl))
        (try simp only [Act.put, List.setIfInBounds_toArray, List.set_cons_zero, List.set_cons_succ])
        refine wpT_take 6 (v := ?v6) rfl (by kernel_rfl) (by kernel_rfl) (by kernel_rfl) (by kernel_rfl) (by intro _ _ _ h; first | exact h | (obtain ⟨h, _⟩ := h; cases h)) (by rfl) HSS ?hy6 ?_
        case hy6 => (intro u hu; obtain ⟨hu1, hu2⟩ := hu; go_simp; first | done | (with_reducible rfl))
        (try simp only [Act.put, List.setIfInBounds_toArray, List.set_cons_zero, List.set_cons_succ])
        refine wpT_take 7 (v := ?v7) rfl (by kernel_rfl) (by kernel_rfl) (by kernel_rfl) (by kernel_rfl) (by intro _ _ _ h; first | exact h | (obtain ⟨h, _⟩ := h; cases h)) (by rfl) HSS ?hy7 ?_
        case hy7 => (intro u hu; obtain ⟨hu1, hu2⟩ := hu; go_simp; first | done | (with_reducible rfl))
        (try simp only [Act.put, List.setIfInBounds_toArray, List.set_cons_zero, List.set_cons_succ])
        refine wpT_take 8 (v := ?v8) rfl (by kernel_rfl) (by kernel_rfl) (by kernel_rfl) (by kernel_rfl) (by intro _ _ _ h; first | exact h | (obtain ⟨h, _⟩ := h; cases h)) (by rfl) HSS ?hy8 ?_
        case hy8 => (intro u hu; obtain ⟨hu1, hu2⟩ := hu; go_simp; first | done | (with_reducible rfl))
        (try simp only [Act.put, List.setIfInBounds_toArray, List.set_cons_zero, List.set_cons_succ])
        refine wpT_take 9 (v := ?v9) rfl (by kernel_rfl) (by kernel_rfl) (by kernel_rfl) (by kernel_rfl) (by intro _ _ _ h; first | exact h | (obtain ⟨h, _⟩ := h; cases h)) (by rfl) HSS ?hy9 ?_
        case hy9 => (intro u hu; obtain ⟨hu1, hu2⟩ := hu; go_simp; first | done | (with_reducible rfl))
        (try simp only [Act.put, List.setIfInBounds_toArray, List.set_cons_zero, List.set_cons_succ])
        refine wpT_take 10 (v := ?v10) rfl (by kernel_rfl) (by kernel_rfl) (by kernel_rfl) (by kernel_rfl) (by intro _ _ _ h; first | exact h | (obtain ⟨h, _⟩ := h; cases h)) (by rfl) HSS ?hy10 ?_
        case hy10 => (intro u hu; obtain ⟨hu1, hu2⟩ := hu; go_simp; first | done | (with_reducible rfl))
        (try simp only [Act.put, List.setIfInBounds_toArray, List.set_cons_zero, List.set_cons_succ])
        refine wpT_take 11 (v := ?v11) rfl (by kernel_rfl) (by kernel_rfl) (by kernel_rfl) (by kernel_rfl) (by intro _ _ _ h; first | exact h | (obtain ⟨h, _⟩ := h; cases h)) (by rfl) HSS ?hy11 ?_
        case hy11 => (intro u hu; obtain ⟨hu1, hu2⟩ := hu; go_simp; first | done | (with_reducible rfl))
        (try simp only [Act.put, List.setIfInBounds_toArray, List.set_cons_zero, List.set_cons_succ])
        refine wpT_take 12 (v := ?v12) rfl (by kernel_rfl) (by kernel_rfl) (by kernel_rfl) (by kernel_rfl) (by intro _ _ _ h; first | exact h | (obtain ⟨h, _⟩ := h; cases h)) (by rfl) HSS ?hy12 ?_
        case hy12 => (intro u hu; obtain ⟨hu1, hu2⟩ := hu; go_simp; first | done | (with_reducible rfl))
        (try simp only [Act.put, List.setIfInBounds_toArray, List.set_cons_zero, List.set_cons_succ])
        refine wpT_take 13 (v := ?v13) rfl (by kernel_rfl) (by kernel_rfl) (by kernel_rfl) (by kernel_rfl) (by intro _ _ _ h; first | exact h | (obtain ⟨h, _⟩ := h; cases h)) (by rfl) HSS ?hy13 ?_
        case hy13 => (intro u hu; obtain ⟨hu1, hu2⟩ := hu; go_simp; first | done | (with_reducible rfl))
        (try simp only [Act.put, List.setIfInBounds_toArray, List.set_cons_zero, List.set_cons_succ])
        refine wpT_one 14 rfl (by kernel_rfl) (by rfl) (fun K' hK => ?_)
        go_simp
        refine hK.out _ _ ⟨cell_alloc _ HSS.1, cell_alloc _ HSS.2⟩ ?_
        (try simp only [Act.put, List.setIfInBounds_toArray, List.set_cons_zero, List.set_cons_succ])
        refine wpT_done (by kernel_rfl) ?_
        refine wpAny_one 15 rfl (by kernel_rfl) (by rfl) (fun K' hK => ?_)
        have hlen : bs.length ≤ 3 := by have := HBE.out; omega
        change Oper.wp _ _ _ (v.drew.alloc (.cells [rowV b0, rowV b0, rowV b0].toArray 33 (0, 0))) _ _
        refine wp_push_far (w := v.drew) (.tmp 33) (.tmp 46) 23 33 (.slice none 0 0) 24 (by rfl) Try.underlying23 infoRow (by rfl) HD.out.own (news := [rowV b0, rowV b0, rowV b0]) (k := 3) (by rfl) (by intro u hu; simp at hu; subst hu; rfl) (by unfold maxLen; omega) (by omega) (by simpa using hbig) (by rfl) (by rfl) (by simp) (by decide) ?_
        intro p c w1 ho1 hb1 hf1
        have hv1 := hf1 _ _ HD.out.var (HD.out.far HD.out.var (varO_ne N _))
        have j2 : w1.cell? ⟨N + 14, 2, none⟩ = some (.slice (some ⟨g, 0, none⟩) bs.length cap) := by simp [World.cell?, hv1]
        have jf : w1.frozen? ⟨N + 14, 2, none⟩ = false := by simp [World.frozen?, hv1]
        refine hK.out _ _ ?_
        (try simp only [Act.put, List.setIfInBounds_toArray, List.set_cons_zero, List.set_cons_succ])
        refine wpAny_one 16 rfl (by kernel_rfl) (by rfl) (fun K' hK => ?_)
        go_simp
        refine hK.out _ _ ?_
        (try simp only [Act.put, List.setIfInBounds_toArray, List.set_cons_zero, List.set_cons_succ])
        refine wpAny_one 17 rfl (by kernel_rfl) (by rfl) (fun K' hK => ?_)
        go_simp
        refine hK.out _ _ ?_
        (try simp only [Act.put, List.setIfInBounds_toArray, List.set_cons_zero, List.set_cons_succ])
        refine wpAny_done (by kernel_rfl) ?_ _
        go_upto_region 22 with (fail)
        refine wp_forget (fun y => ∃ q : Value, ConfV y (cP (List.replicate (bs.length + 3) [1, 0, 0, 2])) q (.slice (some ⟨N + 13, 0, none⟩) 4 4) ∧ y.heap[N + 14]? = some (varO N q) ∧ Ext w y)
          ⟨_, HD.out.push3 hN hb0m ho1 hb1 hf1⟩ ?_
        rintro y ⟨q, V, hv, X⟩
        have V := hid V
        have m0 : y.cell? ⟨N + 14, 0, none⟩ = some (.int .i64 8) := by simp [World.cell?, hv]
        have m1 : y.cell? ⟨N + 14, 1, none⟩ = some (.int .i64 2) := by simp [World.cell?, hv]
        have m2 : y.cell? ⟨N + 14, 2, none⟩ = some q := by simp [World.cell?, hv]
        have m3 : y.cell? ⟨N + 14, 3, none⟩ = some (.slice (some ⟨N + 13, 0, none⟩) 4 4) := by simp [World.cell?, hv]
        have hi := hid (confIs_bad 18 (c := cP (List.replicate (bs.length + 3) [1, 0, 0, 2])) (n := 18) (by
          rw [HBE.out]
          rcases (show k = 0 ∨ k = 1 ∨ k = 2 by omega) with h | h | h <;> subst h <;> rfl) (by decide) rfl y _ _ V.out)
        clear V hv k0 k1 k2 k3 f2 hgc j2 jf hv1 ho1 hb1 hf1 HSS
        go_wp2_with (first | (go_at_call 10; refine hi.out.yields ?_; intro p2) | (go_at_call 11; (with_reducible refine (is_errno_to (r := true) rfl _).yields ?_); intro p3))
        go_returns
        exact ⟨rfl, (by repeat (first | exact Ext.refl _ | assumption | refine Ext.more ?_ _ | refine Ext.drew ?_ | refine Ext.drewN ?_ _ | refine Ext.alloc ?_ _ | refine Ext.setCell ?_ (by simp; try omega) _ | refine Ext.trans ?_ (by assumption)))⟩

set_option linter.unusedVariables false in
set_option maxRecDepth 100000 in
theorem lifted (os : Os) (started : os.Started) (H : Type) (enc : TypeId × Value → H) :
    ReturnsInHanded {} Try.checked os 6 .any (Rows.confPlansSpec.pre6 enc Try.prog Try.f6 Rows.confPlansRow.domain false) (Rows.confPlansSpec.post enc Try.prog Try.f6 false true false false) := by
  refine returnsInHanded_of_change (C := Try.checked) Own.own started (by kernel_rfl) Try.func6
    (ChangeSpec.witness6 (enc := enc) (C := Try.checked) false ⟨#[], #[.int .u8 0, .int .u8 0], []⟩ 8 (by kernel_rfl) (by kernel_rfl) (by kernel_rfl) (by kernel_rfl)) ?_
  intro W base args ds gs before hval0 hW hcnd _
  have hval : ∀ (j : Nat) t v, Try.f6.params[j]? = some t → args[j]? = some v → Value.okWide Try.prog W .any base t v := hval0
  have hW' := hW
  obtain ⟨p, q, hA0, hV, rfl, hfz, hnd⟩ := hW
  have hA : DataW.TrodAll enc Try.prog W 0 (fun _ => true) true Try.f6.params.toList args.toList ds p := hA0
  rw [Try.params6] at hA hval
  obtain ⟨v0, vs0, d0, ds0, p0, q0, hargs, rfl, rfl, h0, r0⟩ := trodAll_cons hA
  obtain ⟨v1, vs1, d1, ds1, p1, q1, rfl, rfl, rfl, h1, r1⟩ := trodAll_cons r0
  obtain ⟨rfl, rfl, rfl⟩ := trodAll_nil r1
  obtain rfl : args = #[v0, v1] := by cases args; simp_all
  obtain ⟨rfl, rfl⟩ := trodVars_none hV
  have k0 := h0
  have lt0 : ∀ x ∈ p0, x.block < W.heap.size := by obtain ⟨m, hm⟩ := k0; exact DataW.trod_lt m _ _ _ hm
  have k1 := h1
  have lt1 : ∀ x ∈ p1, x.block < W.heap.size := by obtain ⟨m, hm⟩ := k1; exact DataW.trod_lt m _ _ _ hm
  obtain ⟨a, rfl, rfl, rfl, wa⟩ := open_int Try.underlying5 (hval 0 5 v0 rfl rfl) h0
  obtain ⟨n, rfl, rfl, rfl, wn⟩ := open_int Try.underlying5 (hval 1 5 v1 rfl rfl) h1
  have ba := bounds_u8 wa
  have bn := bounds_u8 wn
  clear hA0 hval0
  refine (walk a n (by omega) (by omega) (by omega) (by omega) W).mono fun e W' ⟨he, hx⟩ => ?_
  subst he
  exact ⟨_, rfl, _, _, _, [], _, [], hW', trodAll_mk1 (shut_bool Try.underlying4 _), (trodAll_cons_mk (Below.trod Own.laidOut (by kernel_rfl) (of_decide_eq_true (by kernel_rfl)) k0 hx.below lt0) (trodAll_cons_mk (Below.trod Own.laidOut (by kernel_rfl) (of_decide_eq_true (by kernel_rfl)) k1 hx.below lt1) trodAll_mk0)), rfl, hx.below.frame _, fun h => by cases h⟩

theorem proved : Rows.ConfPlansSaid :=
  OpenClaim.holds_of_wide 6 Try.f6 rfl rfl rfl rfl rfl rfl rfl ⟨rfl, rfl, rfl, rfl, rfl⟩ rfl rfl rfl rfl rfl (by kernel_rfl) Try.func6 (by kernel_rfl)
    (of_decide_eq_true (by kernel_rfl)) (by unfold Func.isWrapper; first | (rw [if_pos (by decide +kernel)]; kernel_rfl) | (rw [if_neg (by decide +kernel)]; exact ⟨rfl, rfl⟩))
    (fun os started H enc _ => lifted os started H enc)

end confPlans
end Go.Proofs.Ytgcbkhbpbmmfhaa
