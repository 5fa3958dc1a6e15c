/- Pieces of a row, and what an append of such a piece comes to. No program is named here. -/
import Derived.Test.YtocicffmajbecaaGreatDoorRw
import Derived.Laws.OwnMore
import Derived.OwnWalk
import Derived.Handy
namespace Go.Proofs.YtocicffmajbecaaGreatDoor.Rw
open Go.RowKit
def Src (w : World) (n : Nat) (x : Value) (m : Nat) (news : List Value) : Prop :=
  (x = .slice none 0 0 ∧ m = 0 ∧ news = []) ∨ ∃ ad c,x = .slice (some ad) m c ∧ news.length = m * n ∧ ∀ j u,news[j]? = some u → w.cell? (ad.add j) = some u
theorem Src.ext {w w' : World} {n m : Nat} {x : Value} {news : List Value} (h : Src w n x m news) (k : Ext w w') : Src w' n x m news := by
  rcases h with h | ⟨ad,c,h1,h2,h3⟩
  · exact .inl h
  · exact .inr ⟨ad,c,h1,h2,fun j u hj => k.cell (h3 j u hj)⟩
theorem wp_append_src {P : Program} {o : Oper} {a : Act} {w : World} {K : Act → World → Prop} {Q : Exit → Act → World → Prop} (s x : Operand) (t T : TypeId) (z : Value) (n by' : Nat)
    (ho : o.op = .call { callee := .builtin .append,args := #[s,x],argTypes := #[t,t] }) (ht : P.underlying t = some (.slice T)) (hi : (P.info? T).map (fun i => (i.zero,i.size,i.bytes)) = some (some z,n,by')) (hz : z.cells.size = n) (hn : 0 < n)
    {base m : Nat} {v : Value} {xs : List Value} (hown : w.ownsRow base T n v m xs) {xv : Value} {m2 : Nat} {news : List Value} (hs : a.eval s = v) (hx : a.eval x = xv) (hsrc : Src w n xv m2 news)
    (h1 : ∀ u ∈ news,u.oneCell' = true) (b1 : m + m2 ≤ maxLen) (b2 : (m + m2) * by' ≤ 140737488355328) (hbase : base ≤ w.heap.size)
    (k : ∀ v' w',w'.ownsRow base T n v' (m + m2) (xs ++ news) → Below base w w' → K (a.put o.dst v') w') : o.wp P a w K Q := by
  obtain ⟨i0,hi,hz0,hz1,hz2⟩ := info_parts hi
  rcases hsrc with ⟨rfl,rfl,rfl⟩ | ⟨ad,c,rfl,hl,hnews⟩
  · have hrun := run_append_owned_none (P := P) (w := w) base t o.type T i0 n ht hi v m xs hown
    unfold Oper.wp
    simp [execOp,ho,resolve,invoke,builtin,hs,hx,hrun,Result.andThen]
    exact k v w (by simpa using hown) (Below.refl _ _)
  · refine wp_append_own _ s x t ho base T i0 z n by' ht hi hz0 hz1 hz2 hz hn v m xs hs hown ad m2 c news hx hl hnews h1 b1 b2 hbase fun v' w' h2 h3 _ => ?_
    refine k v' w' h2 ⟨h3.os,h3.tape,h3.output,h3.size,fun i hi => h3.block i (by omega) fun e => ?_⟩
    have := (World.ownsRow.lt hown i e.symm).1
    omega
theorem owns_shape {w : World} {base T n m : Nat} {v : Value} {xs : List Value} (h : w.ownsRow base T n v m xs) : ∃ p c,v = .slice p m c := by
  rcases h.2 with ⟨rfl,rfl⟩ | ⟨g,cap,cur,rfl,_⟩
  · exact ⟨none,0,rfl⟩
  · exact ⟨_,cap,rfl⟩
variable {T : TypeId}
theorem ecells_one (l : List En) : ∀ u ∈ l.flatMap ecells,u.oneCell' = true := by
  intro u hu
  obtain ⟨e,_,h⟩ := List.mem_flatMap.1 hu
  simp [ecells] at h
  rcases h with rfl | rfl <;> rfl
theorem Row.src {w : World} {base g cap : Nat} {l : List En} (h : Row T w base (.slice (some ⟨g,0,none⟩) l.length cap) l.length l) (a : Nat) (m r : List En) (hm : l.drop a = m ++ r) : ∀ j u,(m.flatMap ecells)[j]? = some u → w.cell? ((⟨g,a * 2,none⟩ : Addr).add j) = some u := by
  intro j u hj
  rcases h.2 with ⟨h,_⟩ | ⟨g',cap',cur,e1,e2,e3,e4,e5,e6,e7⟩
  · cases h
  injection e1 with e1 _ e8
  injection e1 with e1
  injection e1 with e1
  subst e1 e8
  have hjl := (List.getElem?_eq_some_iff.1 hj).1
  have hml := flat_len m
  have hal : a ≤ l.length := by
    apply Decidable.byContradiction
    intro hc
    rw [List.drop_eq_nil_of_le (by omega)] at hm
    have : m = [] := (List.append_eq_nil_iff.1 hm.symm).1
    subst this
    simp at hjl
  have hll : l.length = a + (m.length + r.length) := by
    have := congrArg List.length hm
    rw [List.length_drop,List.length_append] at this
    omega
  have hfl : l.flatMap ecells = (l.take a).flatMap ecells ++ (m.flatMap ecells ++ r.flatMap ecells) := by
    rw [← List.flatMap_append,← hm,← List.flatMap_append,List.take_append_drop]
  have hta : ((l.take a).flatMap ecells).length = a * 2 := by rw [flat_len,List.length_take,Nat.min_eq_left hal]
  have key : (l.flatMap ecells)[a * 2 + j]? = some u := by
    rw [hfl,List.getElem?_append_right (by omega),hta,show a * 2 + j - a * 2 = j by omega,List.getElem?_append_left hjl]
    exact hj
  rw [add_add]
  rw [← e7,List.getElem?_take,if_pos (by omega)] at key
  simp only [World.cell?,e3]
  simpa using key
theorem Row.parts {P : Program} {ST : TypeId} (hST : P.underlying ST = some (.slice (P.elem ST))) (hsz : ∀ w : World,(sizeOf (P.elem ST)).run P w = .ok 2 w) {w : World} {base : Nat} {v : Value} {l : List En} (h : Row T w base v l.length l) (k : Nat) (hk : k ≤ l.length) :
    ∃ pl pr,(∀ w,(Instr.slice ST v none (some (.int .i64 (k : Int))) none).run P w = .ok pl w) ∧ (∀ w,(Instr.slice ST v (some (.int .i64 (k : Int))) none none).run P w = .ok pr w) ∧
      Src w 2 pl k ((l.take k).flatMap ecells) ∧ Src w 2 pr (l.length - k) ((l.drop k).flatMap ecells) := by
  obtain ⟨p,cap,rfl,h1,h2,h3⟩ := h.slice
  refine ⟨sliced p 0 k cap 2,sliced p k l.length cap 2,fun w => ?_,fun w => ?_,?_,?_⟩
  · rw [run_slice_h w ST p l.length cap hST .i64 (k : Int) (by omega) (by omega),hsz]
    rfl
  · rw [run_slice_l w ST p l.length cap hST .i64 (k : Int) (by omega) (by omega),hsz]
    rfl
  · cases p with
    | none =>
      have hc := h3 rfl
      obtain rfl : k = 0 := by omega
      subst hc
      exact .inl ⟨rfl,rfl,by simp⟩
    | some ad =>
      rcases h.2 with ⟨e,_⟩ | ⟨g,cap',cur,e1,_⟩
      · cases e
      injection e1 with e1 _ _
      injection e1 with e1
      subst e1
      refine .inr ⟨⟨g,0,none⟩,cap,?_,by rw [flat_len,List.length_take,Nat.min_eq_left hk],fun j u hj => ?_⟩
      · simp [sliced,add_add]
      · have := h.src 0 (l.take k) (l.drop k) (by simp) j u hj
        simpa using this
  · cases p with
    | none =>
      have hc := h3 rfl
      have hl : l.length = 0 := by omega
      obtain rfl : k = 0 := by omega
      subst hc
      refine .inl ⟨by simp [sliced,hl],by omega,by rw [List.eq_nil_of_length_eq_zero hl]; rfl⟩
    | some ad =>
      rcases h.2 with ⟨e,_⟩ | ⟨g,cap',cur,e1,_⟩
      · cases e
      injection e1 with e1 _ _
      injection e1 with e1
      subst e1
      by_cases hck : cap = k
      · refine .inr ⟨⟨g,0,none⟩,cap - k,by simp [sliced,hck],by rw [flat_len,List.length_drop],fun j u hj => ?_⟩
        rw [List.drop_eq_nil_of_le (by omega)] at hj
        simp at hj
      · refine .inr ⟨⟨g,k * 2,none⟩,cap - k,by simp [sliced,hck,add_add],by rw [flat_len,List.length_drop],fun j u hj => ?_⟩
        exact h.src k (l.drop k) [] (by simp) j u hj
end Go.Proofs.YtocicffmajbecaaGreatDoor.Rw
