/- The program's own tree: where a node is. -/
import Derived.Test.YtocicffmajbecaaGreatDoorPt0
namespace Go.Proofs.YtocicffmajbecaaGreatDoor
open Go.RowKit
section
variable {base : Nat} {x : Site} {W : Wit} {l : List Nd} {w w' : World}
theorem Pt.shape (h : Pt base x W l w) : ∃ p cap,W.v = .slice p l.length cap ∧ l.length ≤ cap ∧ cap ≤ maxLen ∧ (p = none → l = [] ∧ cap = 0) ∧ (∀ a,p = some a → ∃ g,a = ⟨g,0,none⟩ ∧ base ≤ g ∧ g < w.heap.size) := by
  rcases h.row.2 with ⟨e,h0⟩ | ⟨g,cap,cur,e,e2,e3,e4,e5,_⟩
  · exact ⟨none,0,by rw [e,h0],by omega,by unfold maxLen; omega,fun _ => ⟨List.eq_nil_of_length_eq_zero h0,rfl⟩,fun _ h => by cases h⟩
  · exact ⟨_,cap,e,e4,e5,(fun h => by cases h),fun a ha => by cases ha; exact ⟨g,rfl,e2,lt_blk e3⟩⟩
theorem ptrs_get {i : Nat} {n : Nd} (hi : l[i]? = some n) : (W.ptrs l)[i]? = some (.pointer (some ⟨W.nb n.id,0,none⟩)) := by simp [Wit.ptrs,hi]
theorem ptrs_len : (W.ptrs l).length = l.length := by simp [Wit.ptrs]
theorem Pt.ptr (h : Pt base x W l w) {g cap : Nat} (hv : W.v = .slice (some ⟨g,0,none⟩) l.length cap) {i : Nat} {n : Nd} (hi : l[i]? = some n) : w.cell? ⟨g,i,none⟩ = some (.pointer (some ⟨W.nb n.id,0,none⟩)) := by
  rcases h.row.2 with ⟨e,_⟩ | ⟨g',cap',cur,e,e2,e3,e4,e5,e6,e7⟩
  · rw [hv] at e; cases e
  · rw [hv] at e
    injection e with e1 _ e8
    injection e1 with e1
    injection e1 with e1
    subst e1 e8
    have hil := (List.getElem?_eq_some_iff.1 hi).1
    have f0 := ptrs_get (W := W) hi
    rw [← e7,List.getElem?_take,if_pos (by omega)] at f0
    simp only [World.cell?,e3]
    simpa using f0
end
def hasU (l : List Nd) (id : Int) : Bool := (getU l id).isSome
theorem hasU_iff {l : List Nd} {id : Int} : hasU l id = true ↔ ∃ n ∈ l,n.id = id := by
  unfold hasU
  cases h : getU l id with
  | none =>
    simp only [Option.isSome_none]
    constructor
    · intro h; cases h
    · rintro ⟨n,hn,e⟩; exact absurd e (getU_none.1 h n hn)
  | some n => exact ⟨fun _ => ⟨n,getU_mem h⟩,fun _ => rfl⟩
theorem ids_get {l : List Nd} (h : Ids l) {i j : Nat} (hi : i < l.length) (hj : j < l.length) (hij : i < j) : l[i].id < l[j].id := List.pairwise_iff_getElem.1 h i j hi hj hij
theorem placeT_of {l : List Nd} (hs : Ids l) {id : Int} {k : Nat} (hk : k ≤ l.length) (h1 : ∀ t (h : t < l.length),t < k → l[t].id < id) (h2 : ∀ t (h : t < l.length),k ≤ t → id ≤ l[t].id) :
    placeT l id = k ∧ hasU l id = (decide (k < l.length) && (match l[k]? with | some n => n.id == id | none => false)) := by
  constructor
  · unfold placeT
    by_cases hlt : k < l.length
    · rw [List.findIdx_eq hlt]
      exact ⟨by have := h2 k hlt (Nat.le_refl _); simp; omega,fun j hj => by simp [h1 j (by omega) hj]⟩
    · obtain rfl : k = l.length := by omega
      rw [List.findIdx_eq_length]
      intro y hy
      obtain ⟨i,hi,rfl⟩ := List.mem_iff_getElem.1 hy
      simp [h1 i hi hi]
  · rw [Bool.eq_iff_iff,hasU_iff]
    by_cases hlt : k < l.length
    · rw [List.getElem?_eq_getElem hlt]
      simp only [hlt,decide_true,Bool.true_and,beq_iff_eq]
      constructor
      · rintro ⟨n,hn,e⟩
        obtain ⟨i,hi,rfl⟩ := List.mem_iff_getElem.1 hn
        rcases Nat.lt_trichotomy i k with h | h | h
        · have := h1 i hi h; omega
        · subst h; exact e
        · have := h2 k hlt (Nat.le_refl _); have := ids_get hs hlt hi h; omega
      · intro e; exact ⟨_,List.getElem_mem hlt,e⟩
    · simp only [hlt,decide_false,Bool.false_and]
      constructor
      · rintro ⟨n,hn,e⟩
        obtain ⟨i,hi,rfl⟩ := List.mem_iff_getElem.1 hn
        have := h1 i hi (by omega); omega
      · intro h; cases h
theorem placeT_has {l : List Nd} (hs : Ids l) {n : Nd} (hn : n ∈ l) : l[placeT l n.id]? = some n := by
  obtain ⟨i,hi,rfl⟩ := List.mem_iff_getElem.1 hn
  obtain ⟨h1,-⟩ := placeT_of hs (id := l[i].id) (k := i) (by omega) (fun t h hlt => ids_get hs h hi hlt) (fun t h hle => by
    by_cases e : t = i
    · subst e; exact Int.le_refl _
    · exact Int.le_of_lt (ids_get hs hi h (by omega)))
  rw [h1,List.getElem?_eq_getElem hi]
set_option maxHeartbeats 400000 in
theorem isNaN_any (a : Int) (w : World) : Calls Tryz.prog 133 #[.int .i64 a] w (Yields w (.bool false)) := by
  go_enter Tryz.func133,Tryz.ntmps133
  go_wp2
  go_returns
  exact ⟨by simp,ext_by⟩
def cmpI (a b : Int) : Int := if a < b then -1 else if b < a then 1 else 0
set_option maxHeartbeats 400000 in
theorem cmp_any (a b : Int) (w : World) : Calls Tryz.prog 118 #[.int .i64 a,.int .i64 b] w (Yields w (.int .i64 (cmpI a b))) := by
  rcases Int.lt_trichotomy a b with h | h | h
  · go_enter Tryz.func118,Tryz.ntmps118
    go_wp2_with (go_at_call 133; (with_reducible refine (isNaN_any _ _).yields ?_); intro p0)
    go_returns
    exact ⟨by simp [cmpI,h],ext_by⟩
  · subst h
    go_enter Tryz.func118,Tryz.ntmps118
    go_wp2_with (go_at_call 133; (with_reducible refine (isNaN_any _ _).yields ?_); intro p0)
    go_returns
    exact ⟨by simp [cmpI],ext_by⟩
  · have h2 : ¬ a < b := by omega
    go_enter Tryz.func118,Tryz.ntmps118
    go_wp2_with (go_at_call 133; (with_reducible refine (isNaN_any _ _).yields ?_); intro p0)
    go_returns
    exact ⟨by simp [cmpI,h,h2],ext_by⟩
set_option maxHeartbeats 400000 in
theorem plc_any (b : Nat) (i id : Int) (w : World) (h : w.cell? ⟨b,0,none⟩ = some (.int .i64 i)) (_hb : b < w.heap.size) :
    Calls Tryz.prog 117 #[.pointer (some ⟨b,0,none⟩),.int .i64 id] w (Yields w (.int .i64 (cmpI i id))) := by
  go_enter Tryz.func117,Tryz.ntmps117
  go_wp2_with (go_at_call 118; (with_reducible refine (cmp_any _ _ _).yields ?_); intro p0)
  go_returns
  exact ⟨rfl,ext_by⟩
set_option maxRecDepth 100000 in
set_option maxHeartbeats 2000000 in
theorem bsf_any {base : Nat} {x : Site} {W : Wit} {l : List Nd} {w : World} (h : Pt base x W l w) (hs : Ids l) (hl : l.length ≤ 1000) (id : Int) :
    Calls Tryz.prog 116 #[W.v,.int .i64 id,.func (.func 117) #[] #[]] w (Yields w (.tuple #[.int .i64 (placeT l id),.bool (hasU l id)])) := by
  obtain ⟨p,cap,hv,hc1,hc2,hp0,hp1⟩ := h.shape
  rw [hv]
  have H := hid h
  have HS := hid hs
  have HV := hid hv
  have HP := hid hp1
  have HN := hid hp0
  have HL := hid hl
  unfold maxLen at hc2
  obtain ⟨N,hN⟩ : ∃ N,N = l.length := ⟨_,rfl⟩
  have HN' := hid hN
  rw [← hN] at hc1 hl ⊢
  clear h hs hv hp0 hp1 hN
  go_enter Tryz.func116,Tryz.ntmps116
  go_wp2
  go_loopg [9,10] N (fun kx s9 s10 wr => ∃ lo hi : Nat,s9 = .int .i64 lo ∧ s10 = .int .i64 hi ∧ lo ≤ hi ∧ hi ≤ N ∧ hi - lo ≤ kx ∧ Ext w wr ∧
    Aside ((∀ t (h : t < l.length),t < lo → l[t].id < id) ∧ (∀ t (h : t < l.length),hi ≤ t → id ≤ l[t].id)))
  case atStart => exact ⟨0,N,rfl,rfl,Nat.zero_le _,Nat.le_refl _,by omega,Ext.refl w,(⟨fun t _ ht => absurd ht (Nat.not_lt_zero _),fun t h1 h2 => by have := HN'.out; omega⟩ : (∀ t (h : t < l.length),t < 0 → l[t].id < id) ∧ (∀ t (h : t < l.length),N ≤ t → id ≤ l[t].id))⟩
  case round =>
    obtain ⟨lo,hi,rfl,rfl,hlh,hin,hg,X,I⟩ := hrel
    by_cases hlt : lo < hi
    · have hml : (lo + hi) / 2 < l.length := by have := HN'.out; omega
      obtain ⟨a,rfl⟩ : ∃ a,p = some a := by
        cases p with
        | none => exact absurd (HN.out rfl).1 (by intro e; rw [e] at hml; simp at hml)
        | some a => exact ⟨a,rfl⟩
      obtain ⟨g,rfl,hg,hgl⟩ := HP.out a rfl
      have cm := X.cell (H.out.ptr (by rw [HV.out]) (List.getElem?_eq_getElem hml))
      have c0 := X.cell (H.out.cells (List.getElem_mem hml)).1
      have hbl := Nat.lt_of_lt_of_le (H.out.nlt (List.getElem_mem hml)) X.size
      have i1 : (((lo : Int) + (hi : Int)) / 2).toNat = (lo + hi) / 2 := by omega
      by_cases hyx : l[(lo + hi) / 2].id < id
      · have I2 : Aside ((∀ t (h : t < l.length),t < (lo + hi) / 2 + 1 → l[t].id < id) ∧ (∀ t (h : t < l.length),hi ≤ t → id ≤ l[t].id)) := (⟨fun t h ht => by
          by_cases e : t = (lo + hi) / 2
          · subst e; exact hyx
          · have := ids_get HS.out h hml (by omega); omega,I.out.2⟩ : (∀ t (h : t < l.length),t < (lo + hi) / 2 + 1 → l[t].id < id) ∧ (∀ t (h : t < l.length),hi ≤ t → id ≤ l[t].id))
        have hc := plc_any _ _ id wr c0 hbl
        rw [show cmpI l[(lo + hi) / 2].id id = -1 by simp [cmpI,hyx]] at hc
        have HC := hid hc
        clear hc hyx c0 hbl
        generalize W.nb l[(lo + hi) / 2].id = b at *
        go_wp2_with (go_at_call 117; (with_reducible refine HC.out.yields ?_); intro p0)
        go_roundg (hi - ((lo + hi) / 2 + 1))
        case measure => omega
        case rel => exact ⟨(lo + hi) / 2 + 1,hi,by rw [show ((lo : Int) + (hi : Int)) / 2 + 1 = (((lo + hi) / 2 + 1 : Nat) : Int) by omega],rfl,by omega,hin,Nat.le_refl _,ext_by,I2⟩
      · have I2 : Aside ((∀ t (h : t < l.length),t < lo → l[t].id < id) ∧ (∀ t (h : t < l.length),(lo + hi) / 2 ≤ t → id ≤ l[t].id)) := (⟨I.out.1,fun t h ht => by
          by_cases e : t = (lo + hi) / 2
          · subst e; omega
          · have := ids_get HS.out hml h (by omega); omega⟩ : (∀ t (h : t < l.length),t < lo → l[t].id < id) ∧ (∀ t (h : t < l.length),(lo + hi) / 2 ≤ t → id ≤ l[t].id))
        have hc := plc_any _ _ id wr c0 hbl
        have hcv : 0 ≤ cmpI l[(lo + hi) / 2].id id := by unfold cmpI; rw [if_neg hyx]; split <;> omega
        have hcw : cmpI l[(lo + hi) / 2].id id ≤ 1 := by unfold cmpI; rw [if_neg hyx]; split <;> omega
        have HC := hid hc
        clear hc hyx c0 hbl
        generalize cmpI l[(lo + hi) / 2].id id = cv at *
        generalize W.nb l[(lo + hi) / 2].id = b at *
        go_wp2_with (go_at_call 117; (with_reducible refine HC.out.yields ?_); intro p0)
        go_roundg ((lo + hi) / 2 - lo)
        case measure => omega
        case rel => exact ⟨lo,(lo + hi) / 2,rfl,by rw [show ((lo : Int) + (hi : Int)) / 2 = (((lo + hi) / 2 : Nat) : Int) by omega],by omega,by omega,Nat.le_refl _,ext_by,I2⟩
    · obtain rfl : hi = lo := by omega
      obtain ⟨f1,f2⟩ := placeT_of HS.out (id := id) (k := hi) (by have := HN'.out; omega) I.out.1 I.out.2
      rw [← HN'.out] at f2
      by_cases hn : hi < N
      · have hml : hi < l.length := by have := HN'.out; omega
        obtain ⟨a,rfl⟩ : ∃ a,p = some a := by
          cases p with
          | none => exact absurd (HN.out rfl).1 (by intro e; rw [e] at hml; simp at hml)
          | some a => exact ⟨a,rfl⟩
        obtain ⟨g,rfl,hg,hgl⟩ := HP.out a rfl
        have cm := X.cell (H.out.ptr (by rw [HV.out]) (List.getElem?_eq_getElem hml))
        have c0 := X.cell (H.out.cells (List.getElem_mem hml)).1
        have hbl := Nat.lt_of_lt_of_le (H.out.nlt (List.getElem_mem hml)) X.size
        have hc := plc_any _ _ id wr c0 hbl
        rw [List.getElem?_eq_getElem hml] at f2
        simp only [hn,decide_true,Bool.true_and] at f2
        have hq : (cmpI l[hi].id id == 0) = (l[hi].id == id) := by
          rw [Bool.eq_iff_iff,beq_iff_eq,beq_iff_eq]; unfold cmpI; split
          · omega
          · split <;> omega
        rw [← hq] at f2
        have F1 := hid f1
        have F2 := hid f2
        have HC := hid hc
        clear hc c0 hbl hq f1 f2
        generalize cmpI l[hi].id id = cv at *
        generalize W.nb l[hi].id = b at *
        go_wp2_with (go_at_call 117; (with_reducible refine HC.out.yields ?_); intro p0)
        refine bodyPost_ret (v := .tuple #[.int .i64 hi,.bool (cv == 0)]) (by simp [results,Tryz.results116,go_sem]) rfl ⟨by rw [F1.out,F2.out],ext_by⟩
      · have F1 := hid f1
        have F2 : Hid (hasU l id = false) := by rw [Hid,f2]; simp [hn]
        clear f1 f2
        go_wp2
        refine bodyPost_ret (v := .tuple #[.int .i64 hi,.bool false]) (by simp [results,Tryz.results116,go_sem]) rfl ⟨by rw [F1.out,F2.out],ext_by⟩
set_option maxHeartbeats 400000 in
theorem place_at {base : Nat} {x : Site} {W : Wit} {l : List Nd} {w : World} (h : Pt base x W l w) (hs : Ids l) (hl : l.length ≤ 1000) (id : Int) :
    Calls Tryz.prog 88 #[.pointer (some ⟨x.b,x.d,none⟩),.int .i64 id] w (Yields w (.tuple #[.int .i64 (placeT l id),.bool (hasU l id)])) := by
  have H := hid h
  have HS := hid hs
  have HL := hid hl
  have c0 := h.cell
  have hx := h.lt
  clear h hs hl
  go_enter Tryz.func88,Tryz.ntmps88
  go_wp2_with (go_at_call 116; (with_reducible refine (bsf_any (H.out.ext ext_by) HS.out HL.out _).yields ?_); intro p0)
  refine bodyPost_ret (v := .tuple #[.int .i64 (placeT l id),.bool (hasU l id)]) (by simp [results,Tryz.results88,go_sem]) rfl ⟨rfl,ext_by⟩
def nodP (W : Wit) (l : List Nd) (id : Int) : Value := if hasU l id = true then .pointer (some ⟨W.nb id,0,none⟩) else .pointer none
set_option maxRecDepth 100000 in
set_option maxHeartbeats 1000000 in
theorem find_at {base : Nat} {x : Site} {W : Wit} {l : List Nd} {w : World} (h : Pt base x W l w) (hs : Ids l) (hl : l.length ≤ 1000) (id : Int) :
    Calls Tryz.prog 79 #[.pointer (some ⟨x.b,x.d,none⟩),.int .i64 id] w (Yields w (nodP W l id)) := by
  obtain ⟨p,cap,hv,hc1,hc2,hp0,hp1⟩ := h.shape
  unfold maxLen at hc2
  have c0 := h.cell
  rw [hv] at c0
  have hx := h.lt
  cases hq : hasU l id with
  | false =>
    have hcall := place_at h hs hl id
    rw [hq] at hcall
    have HC := hid hcall
    have hV : Hid (nodP W l id = .pointer none) := by simp [Hid,nodP,hq]
    clear hcall h hs hl hv hp0 hp1 hq
    rw [hV.out]
    go_enter Tryz.func79,Tryz.ntmps79
    go_wp2_with (go_at_call 88; (with_reducible refine HC.out.yields ?_); intro p0)
    go_returns
    exact ⟨rfl,ext_by⟩
  | true =>
    obtain ⟨n,hn,rfl⟩ := hasU_iff.1 hq
    have hpl := placeT_has hs hn
    have hlt := (List.getElem?_eq_some_iff.1 hpl).1
    obtain ⟨a,rfl⟩ : ∃ a,p = some a := by
      cases p with
      | none => exact absurd (hp0 rfl).1 (by intro e; rw [e] at hlt; simp at hlt)
      | some a => exact ⟨a,rfl⟩
    obtain ⟨g,rfl,hg,hgl⟩ := hp1 a rfl
    have cm := h.ptr hv hpl
    have hcall := place_at h hs hl n.id
    rw [hq] at hcall
    have HC := hid hcall
    have hV : Hid (nodP W l n.id = .pointer (some ⟨W.nb n.id,0,none⟩)) := by simp [Hid,nodP,hq]
    have i1 : (placeT l n.id : Int) < (l.length : Int) := by omega
    have i2 : (placeT l n.id : Int) ≤ 1000 := by omega
    clear hcall h hs hv hp0 hp1 hq hpl hlt
    rw [hV.out]
    generalize placeT l n.id = k at *
    generalize l.length = N at *
    go_enter Tryz.func79,Tryz.ntmps79
    go_wp2_with (go_at_call 88; (with_reducible refine HC.out.yields ?_); intro p0)
    go_returns
    exact ⟨rfl,ext_by⟩
theorem find_yes {base : Nat} {x : Site} {W : Wit} {l : List Nd} {w : World} (h : Pt base x W l w) (hs : Ids l) (hl : l.length ≤ 1000) {n : Nd} (hn : n ∈ l) :
    Calls Tryz.prog 79 #[.pointer (some ⟨x.b,x.d,none⟩),.int .i64 n.id] w (Yields w (.pointer (some ⟨W.nb n.id,0,none⟩))) := by
  have := find_at h hs hl n.id
  rwa [show nodP W l n.id = .pointer (some ⟨W.nb n.id,0,none⟩) from if_pos (hasU_iff.2 ⟨n,hn,rfl⟩)] at this
theorem find_nil {base : Nat} {x : Site} {W : Wit} {l : List Nd} {w : World} (h : Pt base x W l w) (hs : Ids l) (hl : l.length ≤ 1000) {id : Int} (hn : getU l id = none) :
    Calls Tryz.prog 79 #[.pointer (some ⟨x.b,x.d,none⟩),.int .i64 id] w (Yields w (.pointer none)) := by
  have := find_at h hs hl id
  rwa [show nodP W l id = .pointer none from if_neg (by simp [hasU,hn])] at this
end Go.Proofs.YtocicffmajbecaaGreatDoor
