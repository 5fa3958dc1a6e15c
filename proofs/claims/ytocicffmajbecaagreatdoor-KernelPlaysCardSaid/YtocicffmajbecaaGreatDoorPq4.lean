/- slices.Delete of one entry, slices.Clone at rows of entries. -/
import Derived.Test.YtocicffmajbecaaGreatDoorPq2
import Derived.WalkKit
import Derived.WalkSpells
import Derived.WalkLawsBesides
import Derived.Deep.RegionLaw
import Derived.Shelf.RegionOpenPlain
import Derived.Lib.SliceRun
import Derived.OwnWalk
import Derived.Handy
namespace Go.Proofs.YtocicffmajbecaaGreatDoor
open Go.RowKit
theorem clear_one (w : World) (ty : TypeId) (g o c : Nat) (hc : ∀ j,j < 2 → (w.cell? ⟨g,o + j,none⟩).isSome = true) (hf : ∀ j,j < 2 → w.frozen? ⟨g,o + j,none⟩ = false) :
    (Builtin.clear_ #[172] ty #[.slice (some ⟨g,o,none⟩) 1 c]).run Tryz.prog w = .ok (.tuple #[]) (w.setCells g o [.int .i64 0,.int .i64 0]) := by
  have hzv : ∀ w,(zeroValue 187).run Tryz.prog w = .ok (.agg #[.int .i64 0,.int .i64 0]) w := Tryz.zeroValue187
  have hst := run_storeCells_cells (P := Tryz.prog) g o [.int .i64 0,.int .i64 0] 0 w (by simpa using hc) (by simpa using hf) (by simp; rfl)
  simp only [Nat.add_zero] at hst
  have hzc : (Builtin.zeroCells (Value.agg #[.int .i64 0,.int .i64 0]).cells 1).toList = [.int .i64 0,.int .i64 0] := by
    have hc : (Value.agg #[.int .i64 0,.int .i64 0]).cells = #[.int .i64 0,.int .i64 0] := by simp [Value.cells]
    rw [hc]
    simp [Builtin.zeroCells]
    rfl
  simp [Builtin.clear_,run_underlying Tryz.underlying172,hzv,hzc,hst]
theorem setCells_block (g : Nat) (T : TypeId) : ∀ (vs : List Value) (o : Nat) (w : World) (cur : Array Value),w.heap[g]? = some (.cells cur T (0,0)) →
    w.grownBy (w.setCells g o vs) (some g) ∧ ∃ cur',(w.setCells g o vs).heap[g]? = some (.cells cur' T (0,0)) ∧ cur'.size = cur.size ∧ ∀ j,j < cur.size → cur'[j]? = if o ≤ j ∧ j < o + vs.length then vs[j - o]? else cur[j]?
  | [],o,w,cur,h => ⟨⟨rfl,rfl,rfl,Nat.le_refl _,fun _ _ _ => rfl⟩,cur,h,rfl,fun j _ => by rw [if_neg (by simp)]⟩
  | u :: vs,o,w,cur,h => by
    obtain ⟨hg,cur',h1,h2,h3⟩ := setCells_block g T vs (o + 1) (w.setCell ⟨g,o,none⟩ u) _ (set_same h o u)
    refine ⟨⟨hg.os,hg.tape,hg.output,Nat.le_trans (by simp [World.setCell]) hg.size,fun k hk hne => ?_⟩,cur',h1,by simpa using h2,fun j hj => ?_⟩
    · have hne' : k ≠ g := by simpa using hne
      exact (hg.block k (by simpa [World.setCell] using hk) hne).trans (Below.heap_setCell _ _ _ _ hne')
    · rw [h3 j (by simpa using hj)]
      by_cases h4 : o + 1 ≤ j ∧ j < o + 1 + vs.length
      · rw [if_pos h4,if_pos (by simp; omega),show j - o = (j - (o + 1)) + 1 from by omega]
        rfl
      · rw [if_neg h4]
        by_cases h5 : j = o
        · subst h5
          rw [if_pos (by simp),Nat.sub_self,Array.getElem?_setIfInBounds,if_pos rfl,if_pos hj]
          rfl
        · rw [if_neg (by simp; omega),Array.getElem?_setIfInBounds,if_neg (by omega)]
set_option maxRecDepth 100000 in
set_option maxHeartbeats 4000000 in
theorem delete_any (base g cap i k : Nat) (rows : List En) (hlen : rows.length = i + k + 1) (hl : rows.length ≤ 1000) (w : World) (h : Row w base (.slice (some ⟨g,0,none⟩) (i + k + 1) cap) (i + k + 1) rows) :
    Calls Tryz.prog 132 #[.slice (some ⟨g,0,none⟩) (i + k + 1) cap,.int .i64 i,.int .i64 ((i : Int) + 1)] w fun e w' => e = .returned (.slice (some ⟨g,0,none⟩) (i + k) cap) ∧
      Row w' base (.slice (some ⟨g,0,none⟩) (i + k) cap) (i + k) (rows.eraseIdx i) ∧ w.grownBy w' (some g) := by
  obtain ⟨g',cap',e,hgb,hgl,hc1,hc2⟩ := h.shape (by omega)
  injection e with e _ ec
  injection e with e
  injection e with e
  subst e ec
  unfold maxLen at hc2
  have HR := hid h
  have HL := hid hlen
  have hik : i + k + 1 ≤ cap := by omega
  have hik2 : i + k + 1 ≤ 1000 := by omega
  have i1 : (i : Int) ≤ (i : Int) + 1 := by omega
  have i2 : (i : Int) + 1 ≤ (i : Int) + k + 1 := by omega
  have i3 : (i : Int) + k + 1 ≤ (cap : Int) := by omega
  have i4 : ((i : Int) == (i : Int) + 1) = false := by rw [beq_eq_false_iff_ne]; omega
  have i5 : (0 : Int) ≤ (i : Int) + 1 := by omega
  clear h hlen hl hc1
  go_enter Tryz.func132,Tryz.ntmps132
  go_wp2_with fail
  obtain ⟨i0,hi,hz0,hz1,hz2⟩ := info_parts infoEn
  have hin := hid (show Tryz.prog.info? 187 = some i0 from hi)
  have hin1 := hid (show i0.size = 2 from hz1)
  clear hi hz0 hz1 hz2
  have hic : i ≤ cap := by omega
  obtain ⟨news,hnews⟩ : ∃ news,news = (rows.drop (i + 1)).flatMap ecells := ⟨_,rfl⟩
  have hnl : news.length = k * 2 := by rw [hnews,flat_len,List.length_drop,HL.out]; omega
  have hget : ∀ j,j < k * 2 → news[j]? = (rows.flatMap ecells)[(i + 1) * 2 + j]? := fun j hj => by
    rw [hnews,← List.take_append_drop (i + 1) rows,List.flatMap_append,List.getElem?_append_right (by rw [flat_len]; simp; omega),flat_len]
    simp only [List.take_append_drop]
    congr 1
    have := HL.out
    simp
    omega
  obtain ⟨cur,e3,e4,e6,e7⟩ : ∃ cur,w.heap[g]? = some (.cells cur 187 (0,0)) ∧ rows.length ≤ cap ∧ cur.size = cap * 2 ∧ cur.toList.take (rows.length * 2) = rows.flatMap ecells := by
    rcases HR.out.2 with ⟨h,_⟩ | ⟨g',cap',cur,e1,e2,e3,e4,e5,e6,e7⟩
    · cases h
    · injection e1 with e1 _ e8
      injection e1 with e1
      injection e1 with e1
      subst e1 e8
      exact ⟨cur,e3,e4,e6,e7⟩
  have hcur : ∀ j,j < rows.length * 2 → cur[j]? = (rows.flatMap ecells)[j]? := fun j hj => by
    rw [← e7,List.getElem?_take,if_pos hj]; simp
  obtain ⟨A,hA,hsrc⟩ : ∃ A : Addr,(if cap = i + 1 then some (⟨g,0,none⟩ : Addr) else some ⟨g,(i + 1) * 2,none⟩) = some A ∧ Hid (∀ j u,news[j]? = some u → w.drew.cell? (A.add j) = some u) := by
    by_cases hce : cap = i + 1
    · refine ⟨⟨g,0,none⟩,by simp [hce],fun j u hu => ?_⟩
      have := (List.getElem?_eq_some_iff.1 hu).1
      omega
    · refine ⟨⟨g,(i + 1) * 2,none⟩,by simp [hce],fun j u hu => ?_⟩
      have hj := (List.getElem?_eq_some_iff.1 hu).1
      rw [add_add]
      show w.cell? _ = _
      rw [cell_of_row _ _ _ _ _ (0,0) e3,hcur _ (by have := HL.out; omega),← hget j (by omega)]
      exact hu
  have s1 : Hid (news.length = k * 2) := hnl
  have s2 : Hid (∀ u ∈ news,u.oneCell' = true) := fun u hu => by
    rw [hnews] at hu
    obtain ⟨x,_,hx⟩ := List.mem_flatMap.1 hu
    simp [ecells] at hx
    rcases hx with rfl | rfl <;> rfl
  have s3 : Hid (∀ j,j < news.length → (w.drew.cell? ⟨g,0 + i * 2 + j,none⟩).isSome = true ∧ w.drew.frozen? ⟨g,0 + i * 2 + j,none⟩ = false) := fun j hj => by
    refine ⟨?_,show w.frozen? _ = false by simp [World.frozen?,e3]⟩
    show (w.cell? _).isSome = true
    rw [cell_of_row _ _ _ _ _ (0,0) e3,Array.getElem?_eq_getElem (by omega)]
    rfl
  obtain ⟨W1,hW1⟩ : ∃ W1,W1 = w.drew.setCells g (0 + i * 2) news := ⟨_,rfl⟩
  obtain ⟨hg1,cur1,b1,b2,b3⟩ := setCells_block g 187 news (0 + i * 2) w.drew cur e3
  rw [← hW1] at hg1 b1
  obtain ⟨hg2,cur2,d1,d2,d3⟩ := setCells_block g 187 [.int .i64 0,.int .i64 0] ((i + k) * 2) W1 cur1 b1
  have hcl : ∀ ty,(Builtin.clear_ #[172] ty #[.slice (some ⟨g,(i + k) * 2,none⟩) 1 (cap - (i + k))]).run Tryz.prog W1 = .ok (.tuple #[]) (W1.setCells g ((i + k) * 2) [.int .i64 0,.int .i64 0]) := fun ty =>
    clear_one W1 ty g _ _ (fun j hj => by rw [cell_of_row _ _ _ _ _ (0,0) b1,Array.getElem?_eq_getElem (by omega)]; rfl) (fun j _ => by simp [World.frozen?,b1])
  obtain ⟨W2,hW2⟩ : ∃ W2,W2 = W1.setCells g ((i + k) * 2) [.int .i64 0,.int .i64 0] := ⟨_,rfl⟩
  rw [← hW2] at hg2 d1
  simp only [← hW2] at hcl
  have HF : Hid (Row W2 base (.slice (some ⟨g,0,none⟩) (i + k) cap) (i + k) (rows.eraseIdx i) ∧ w.grownBy W2 (some g)) := by
    have hel : (rows.eraseIdx i).length = i + k := by rw [List.length_eraseIdx,HL.out,if_pos (by omega)]; omega
    refine ⟨⟨by omega,.inr ⟨g,cap,cur2,rfl,hgb,d1,by omega,by unfold maxLen; omega,by omega,?_⟩⟩,⟨hg2.os.trans hg1.os,hg2.tape.trans hg1.tape,hg2.output.trans hg1.output,Nat.le_trans hg1.size hg2.size,fun j hj hne => (hg2.block j (Nat.lt_of_lt_of_le hj hg1.size) hne).trans (hg1.block j hj hne)⟩⟩
    rw [hel]
    apply List.ext_getElem?
    intro j
    rw [List.getElem?_take]
    by_cases hj : j < (i + k) * 2
    · rw [if_pos hj,Array.getElem?_toList,d3 j (by omega),if_neg (by simp; omega),b3 j (by omega),List.eraseIdx_eq_take_drop_succ,List.flatMap_append]
      have hr := HL.out
      have htl : ((rows.take i).flatMap ecells).length = i * 2 := by rw [flat_len,List.length_take]; omega
      by_cases h1 : j < i * 2
      · rw [if_neg (by omega),List.getElem?_append_left (by omega),hcur j (by omega)]
        conv => lhs; rw [← List.take_append_drop i rows,List.flatMap_append,List.getElem?_append_left (by omega)]
      · rw [if_pos (by omega),List.getElem?_append_right (by omega),htl,← hnews,Nat.zero_add]
    · rw [if_neg hj,List.getElem?_eq_none (by rw [flat_len]; omega)]
  have hW := hid hW1
  clear hW1 hW2 hg1 hg2 b1 b2 b3 d1 d2 d3 hget hcur hnews hnl e3 e4 e6 e7
  have hck : cap ≠ i + k := by omega
  have hik4 : i + k ≤ cap := by omega
  go_region_law (refine step_append_room rfl (.tmp 22) (.tmp 25) 172 rfl 187 i0 2 Tryz.underlying172 hin.out hin1.out g 0 i cap (by simp [Act.eval,Act.put]) A k (cap - (i + 1)) news (by simp [Act.eval,Act.put]) s1.out hsrc.out s2.out hik4 s3.out ?_; rw [← hW.out])
  go_wp2
  go_returns
  exact ⟨rfl,HF.out⟩
end Go.Proofs.YtocicffmajbecaaGreatDoor
