/- Rows of pairs of integers (a struct of two) in memory of the call's own: read, set, appended to. No program is named here. -/
import Derived.Test.YtocicffmajbecaaGreatDoorLib
import Derived.Test.YtocicffmajbecaaGreatDoorPush
import Derived.Test.YtocicffmajbecaaGreatDoorMv
import Derived.WalkKit
import Derived.OwnWalk
import Derived.ArgAppend
import Derived.Handy
import Derived.Deep.RegionLaw
import Derived.Deep.RegionLawGrows
namespace Go.Proofs.YtocicffmajbecaaGreatDoor.Rw
open Go.RowKit
abbrev En := Int × Int
def ecells (p : En) : List Value := [.int .i64 p.1,.int .i64 p.2]
abbrev entV (p : En) : Value := .agg #[.int .i64 p.1,.int .i64 p.2]
theorem ecells_length (p : En) : (ecells p).length = 2 := rfl
def IsEn (P : Program) (T : TypeId) : Prop := (P.info? T).map (fun i => (i.zero,i.size,i.bytes)) = some (some (.agg #[.int .i64 0,.int .i64 0]),2,16)
variable {T : TypeId}
def Row (T : TypeId) (w : World) (base : Nat) (v : Value) (n : Nat) (rows : List En) : Prop :=
  n ≤ rows.length ∧ ((v = .slice none 0 0 ∧ rows = []) ∨
    ∃ g cap cur,v = .slice (some ⟨g,0,none⟩) n cap ∧ base ≤ g ∧ w.heap[g]? = some (.cells cur T (0,0)) ∧ rows.length ≤ cap ∧ cap ≤ maxLen ∧ cur.size = cap * 2 ∧ cur.toList.take (rows.length * 2) = rows.flatMap ecells)
theorem flat_len (rows : List En) : (rows.flatMap ecells).length = rows.length * 2 := flat_length ecells_length rows
theorem Row.nil (w : World) (base : Nat) : Row T w base (.slice none 0 0) 0 [] := ⟨by simp,.inl ⟨rfl,rfl⟩⟩
theorem Row.of_owns {w : World} {base : Nat} {v : Value} {n : Nat} {rows : List En} (h : w.ownsRow base T 2 v n (rows.flatMap ecells)) : Row T w base v n rows := by
  have hn : n = rows.length := by have := h.1; rw [flat_len] at this; omega
  subst hn
  refine ⟨Nat.le_refl _,?_⟩
  rcases h.2 with ⟨rfl,h0⟩ | ⟨g,cap,cur,e1,e2,e3,e4,e5,e6,e7⟩
  · exact .inl ⟨rfl,List.eq_nil_of_length_eq_zero h0⟩
  · exact .inr ⟨g,cap,cur,e1,e2,e3,e4,e5,e6,e7⟩
theorem Row.keep {w w' : World} {base : Nat} {v : Value} {n : Nat} {rows : List En} (h : Row T w base v n rows) (k : ∀ g,v.ownBlock = some g → w'.heap[g]? = w.heap[g]?) : Row T w' base v n rows := by
  refine ⟨h.1,?_⟩
  rcases h.2 with h | ⟨g,cap,cur,e1,e2,e3,r⟩
  · exact .inl h
  · exact .inr ⟨g,cap,cur,e1,e2,by rw [k g (by rw [e1]; rfl)]; exact e3,r⟩
theorem Row.lt {w : World} {base : Nat} {v : Value} {n : Nat} {rows : List En} (h : Row T w base v n rows) : ∀ g,v.ownBlock = some g → base ≤ g ∧ g < w.heap.size := by
  intro g hg
  rcases h.2 with ⟨rfl,_⟩ | ⟨g',cap,cur,rfl,e2,e3,r⟩
  · cases hg
  · simp only [Value.ownBlock,Option.some.injEq] at hg
    subst hg
    exact ⟨e2,lt_blk e3⟩
theorem Row.ext {w w' : World} {base : Nat} {v : Value} {n : Nat} {rows : List En} (h : Row T w base v n rows) (k : Ext w w') : Row T w' base v n rows := h.keep fun g hg => k.below.block g (h.lt g hg).2
theorem Row.base {w : World} {base base' : Nat} {v : Value} {n : Nat} {rows : List En} (h : Row T w base v n rows) (hb : base' ≤ base) : Row T w base' v n rows := by
  refine ⟨h.1,?_⟩
  rcases h.2 with h | ⟨g,cap,cur,e1,e2,r⟩
  · exact .inl h
  · exact .inr ⟨g,cap,cur,e1,by omega,r⟩
theorem Row.far {w : World} {base b : Nat} {v : Value} {n : Nat} {rows : List En} {cs : Array Value} {T' : TypeId} (h : Row T w base v n rows) (hb : w.heap[b]? = some (.cells cs T' (0,0))) (hT : T' ≠ T) : v.ownBlock ≠ some b := by
  intro hg
  rcases h.2 with ⟨rfl,_⟩ | ⟨g',cap,cur,rfl,e2,e3,r⟩
  · cases hg
  · simp only [Value.ownBlock,Option.some.injEq] at hg
    subst hg
    rw [hb] at e3
    injection (Option.some.inj e3) with _ h
    exact hT h
theorem Row.shape {w : World} {base : Nat} {v : Value} {n : Nat} {rows : List En} (h : Row T w base v n rows) (hn : 0 < rows.length) : ∃ g cap,v = .slice (some ⟨g,0,none⟩) n cap ∧ base ≤ g ∧ g < w.heap.size ∧ rows.length ≤ cap ∧ cap ≤ maxLen := by
  rcases h.2 with ⟨rfl,h0⟩ | ⟨g,cap,cur,rfl,e2,e3,e4,e5,_⟩
  · rw [h0] at hn; cases hn
  · exact ⟨g,cap,rfl,e2,lt_blk e3,e4,e5⟩
theorem Row.slice {w : World} {base : Nat} {v : Value} {n : Nat} {rows : List En} (h : Row T w base v n rows) : ∃ p cap,v = .slice p n cap ∧ n ≤ cap ∧ cap ≤ maxLen ∧ (p = none → cap = 0) := by
  have h1 := h.1
  rcases h.2 with ⟨rfl,h0⟩ | ⟨g,cap,cur,rfl,e2,e3,e4,e5,_⟩
  · rw [h0] at h1
    obtain rfl : n = 0 := by simpa using h1
    exact ⟨none,0,rfl,by omega,by unfold maxLen; omega,fun _ => rfl⟩
  · exact ⟨_,cap,rfl,by omega,e5,fun h => by cases h⟩
theorem Row.cell {w : World} {base g cap : Nat} {n : Nat} {rows : List En} (h : Row T w base (.slice (some ⟨g,0,none⟩) n cap) n rows) {i : Nat} {p : En} (hi : rows[i]? = some p) :
    w.cell? ⟨g,i * 2,none⟩ = some (.int .i64 p.1) ∧ w.cell? ⟨g,i * 2 + 1,none⟩ = some (.int .i64 p.2) ∧ w.frozen? ⟨g,i * 2,none⟩ = false ∧ w.frozen? ⟨g,i * 2 + 1,none⟩ = false := by
  rcases h.2 with ⟨h,_⟩ | ⟨g',cap',cur,e1,e2,e3,e4,e5,e6,e7⟩
  · cases h
  injection e1 with e1 _ e8
  injection e1 with e1
  injection e1 with e1
  subst e1 e8
  have hil := (List.getElem?_eq_some_iff.1 hi).1
  have f0 := flat_get ecells_length rows i p 0 hi (by omega)
  have f1 := flat_get ecells_length rows i p 1 hi (by omega)
  rw [← e7,List.getElem?_take,if_pos (by omega)] at f0 f1
  refine ⟨?_,?_,by simp [World.frozen?,e3],by simp [World.frozen?,e3]⟩
  · simp only [World.cell?,e3]; simpa [ecells] using f0
  · simp only [World.cell?,e3]; simpa [ecells] using f1
theorem Row.forget {w : World} {base : Nat} {v : Value} {n : Nat} {a b : List En} (h : Row T w base v n (a ++ b)) (hn : n ≤ a.length) : Row T w base v n a := by
  refine ⟨hn,?_⟩
  rcases h.2 with ⟨rfl,h0⟩ | ⟨g,cap,cur,e1,e2,e3,e4,e5,e6,e7⟩
  · exact .inl ⟨rfl,(List.append_eq_nil_iff.1 h0).1⟩
  · rw [List.length_append] at e4 e7
    refine .inr ⟨g,cap,cur,e1,e2,e3,by omega,e5,e6,?_⟩
    have := congrArg (List.take (a.length * 2)) e7
    rw [List.take_take,Nat.min_eq_left (by omega)] at this
    rw [this,List.flatMap_append,List.take_append_of_le_length (by rw [flat_len]; omega),List.take_of_length_le (by rw [flat_len]; omega)]
theorem Row.owns {w : World} {base : Nat} {v : Value} {rows : List En} (h : Row T w base v rows.length rows) : w.ownsRow base T 2 v rows.length (rows.flatMap ecells) := by
  refine ⟨flat_len rows,?_⟩
  rcases h.2 with ⟨rfl,h0⟩ | ⟨g,cap,cur,e1,e2,e3,e4,e5,e6,e7⟩
  · exact .inl ⟨rfl,by rw [h0]; rfl⟩
  · exact .inr ⟨g,cap,cur,e1,e2,e3,e4,e5,e6,e7⟩
theorem Row.cut {w : World} {base : Nat} {p : Option Addr} {n m cap : Nat} {rows : List En} (h : Row T w base (.slice p n cap) n rows) (hm : m ≤ rows.length) : Row T w base (.slice p m cap) m rows := by
  refine ⟨hm,?_⟩
  rcases h.2 with ⟨e,h0⟩ | ⟨g,cap',cur,e1,r⟩
  · injection e with e1 e2 e3
    subst e1 e3
    rw [h0] at hm
    obtain rfl : m = 0 := by simpa using hm
    exact .inl ⟨rfl,h0⟩
  · injection e1 with e1 e2 e3
    subst e1 e3
    exact .inr ⟨g,cap,cur,rfl,r⟩
theorem flat_set : ∀ (rows : List En) (i : Nat) (p : En),(rows.set i p).flatMap ecells = ((rows.flatMap ecells).set (i * 2) (.int .i64 p.1)).set (i * 2 + 1) (.int .i64 p.2)
  | [],_,_ => rfl
  | y :: l,0,p => by simp [ecells]
  | y :: l,i + 1,p => by
    rw [List.set_cons_succ,List.flatMap_cons,flat_set l i p,List.flatMap_cons]
    simp only [ecells,List.cons_append,List.nil_append]
    rw [show (i + 1) * 2 = i * 2 + 1 + 1 from by omega]
    rfl
theorem Row.set {w : World} {base g cap : Nat} {n : Nat} {rows : List En} (h : Row T w base (.slice (some ⟨g,0,none⟩) n cap) n rows) (i : Nat) (p : En) :
    Row T ((w.setCell ⟨g,i * 2,none⟩ (.int .i64 p.1)).setCell ⟨g,i * 2 + 1,none⟩ (.int .i64 p.2)) base (.slice (some ⟨g,0,none⟩) n cap) n (rows.set i p) := by
  rcases h.2 with ⟨h,_⟩ | ⟨g',cap',cur,e1,e2,e3,e4,e5,e6,e7⟩
  · cases h
  injection e1 with e1 _ e8
  injection e1 with e1
  injection e1 with e1
  subst e1 e8
  have s2 := set_same (set_same e3 (i * 2) (.int .i64 p.1)) (i * 2 + 1) (.int .i64 p.2)
  refine ⟨by simpa using h.1,.inr ⟨g,cap,_,rfl,e2,s2,by simpa using e4,e5,by simpa using e6,?_⟩⟩
  rw [List.length_set,flat_set,← e7]
  simp [List.take_set]
theorem step_push_row {P : Program} {ST : TypeId} (hST : P.underlying ST = some (.slice T)) (hT : IsEn P T) {ops : Array Oper} {o : Oper} {a : Act} {w W : World} {K : Act → World → Prop} {Q : Exit → Act → World → Prop} {E : Prop} (hgd : o.guard = none) (s x : Operand)
    (ho : o.op = .call { callee := .builtin .append,args := #[s,x],argTypes := #[ST,ST] })
    {base : Nat} {v : Value} {l rest : List En} (p : En) (hrow : Row T w base v l.length (l ++ rest)) (hlen : l.length ≤ 1000000)
    (hs : a.eval s = v) {nb : Nat} (hx : a.eval x = .slice (some ⟨nb,0,none⟩) 1 1) (hnb : nb = w.heap.size) (hbase : base ≤ w.heap.size)
    (hW : W = w.alloc (.cells #[.int .i64 p.1,.int .i64 p.2] T))
    (hK : ∀ (g c : Nat) w1,Row T w1 base (.slice (some ⟨g,0,none⟩) (l.length + 1) c) (l.length + 1) (l ++ p :: rest.drop 1) → (v.ownBlock = some g ∨ w.heap.size ≤ g) → W.grownBy w1 v.ownBlock → (rest ≠ [] → v = .slice (some ⟨g,0,none⟩) l.length c) → K (a.put o.dst (.slice (some ⟨g,0,none⟩) (l.length + 1) c)) w1) :
    if Region.wanted o (yielded ops a.tmps) = true then Oper.wp P o a W K Q else E := by
  have hnew : W.heap[w.heap.size]? = some (.cells #[.int .i64 p.1,.int .i64 p.2] T (0,0)) := by rw [hW]; exact heap_alloc_new w _
  have hrowW : Row T W base v l.length (l ++ rest) := hrow.ext (by rw [hW]; exact Ext.alloc (Ext.refl _) _)
  have hsz : W.heap.size = w.heap.size + 1 := by rw [hW]; simp
  clear hW
  subst hnb
  obtain ⟨i0,hi,hz0,hz1,hz2⟩ := info_parts hT
  have hc : ∀ j u,(ecells p)[j]? = some u → W.cell? ((⟨w.heap.size,0,none⟩ : Addr).add j) = some u := by
    intro j u hj
    rw [add_add,Nat.zero_add,cell_of_row _ _ j _ _ (0,0) hnew]
    simpa [ecells] using hj
  have h1c : ∀ u ∈ ecells p,u.oneCell' = true := by
    intro u hu
    simp [ecells] at hu
    rcases hu with rfl | rfl <;> rfl
  have hg0 := hrow.lt
  rcases hrowW.2 with ⟨rfl,h0⟩ | ⟨g,cap,cur,rfl,e2,e3,e4,e5,e6,e7⟩
  · obtain ⟨rfl,rfl⟩ := List.append_eq_nil_iff.1 h0
    refine step_append_grows hgd s x ST ho T i0 _ 2 16 hST hi hz0 hz1 hz2 rfl (by decide) none 0 0 [] hs (fun _ => ⟨rfl,rfl⟩) rfl (fun b hb => by cases hb) ⟨w.heap.size,0,none⟩ 1 1 (ecells p) hx rfl hc h1c (by omega) (by unfold maxLen; omega) (by omega) ?_
    intro v' w' ho' hg'
    obtain ⟨g,cap,rfl⟩ : ∃ g cap,v' = .slice (some ⟨g,0,none⟩) 1 cap := by
      rcases ho'.2 with ⟨_,h⟩ | ⟨g,cap,cur,rfl,_⟩
      · cases h
      · exact ⟨_,_,rfl⟩
    have hgl := (ho'.lt g rfl).1
    refine hK g cap w' (Row.of_owns (rows := [p]) (by simpa using ho') |>.base (by omega)) (.inr (by omega)) ⟨hg'.os,hg'.tape,hg'.output,hg'.size,fun k hk _ => hg'.block k hk (by simp)⟩ (fun h => absurd rfl h)
  · by_cases hroom : l.length + 1 ≤ cap
    · refine step_append_room hgd s x ST ho T i0 2 hST hi hz1 g 0 l.length cap hs ⟨w.heap.size,0,none⟩ 1 1 (ecells p) hx rfl hc h1c hroom ?_ ?_
      · intro j hj
        have hj : j < 2 := hj
        refine ⟨?_,by simp [World.frozen?,e3]⟩
        rw [cell_of_row _ _ _ _ _ (0,0) e3]
        simp
        omega
      · refine hK g cap _ ?_ (.inl rfl) ?_ (fun _ => rfl)
        · have hh : (W.setCells g (0 + l.length * 2) (ecells p)).heap[g]? = some (.cells ((cur.setIfInBounds (l.length * 2) (.int .i64 p.1)).setIfInBounds (l.length * 2 + 1) (.int .i64 p.2)) T (0,0)) := by
            rw [Nat.zero_add]
            exact set_same (set_same e3 (l.length * 2) (.int .i64 p.1)) (l.length * 2 + 1) (.int .i64 p.2)
          refine ⟨by simp,.inr ⟨g,cap,_,rfl,e2,hh,?_,e5,by simpa using e6,?_⟩⟩
          · simp only [List.length_append,List.length_cons,List.length_drop] at e4 ⊢
            omega
          · have hlen2 : (l ++ p :: rest.drop 1).length * 2 ≤ cap * 2 := by
              simp only [List.length_append,List.length_cons,List.length_drop] at e4 ⊢
              omega
            apply List.ext_getElem?
            intro j
            rw [List.getElem?_take]
            by_cases hj : j < (l ++ p :: rest.drop 1).length * 2
            · rw [if_pos hj,List.flatMap_append,List.flatMap_cons]
              simp only [Array.toList_setIfInBounds,List.getElem?_set,List.length_set]
              have hfl := flat_len l
              have hcs : cur.toList.length = cap * 2 := by simpa using e6
              by_cases h1 : l.length * 2 + 1 = j
              · subst h1
                rw [if_pos rfl,if_pos (by omega),List.getElem?_append_right (by omega),hfl]
                simp [ecells]
              · rw [if_neg h1]
                by_cases h2 : l.length * 2 = j
                · subst h2
                  rw [if_pos rfl,if_pos (by omega),List.getElem?_append_right (by omega),hfl]
                  simp [ecells]
                · rw [if_neg h2]
                  rw [List.flatMap_append] at e7
                  by_cases h3 : j < l.length * 2
                  · rw [List.getElem?_append_left (by omega)]
                    have := congrArg (fun l => l[j]?) e7
                    simp only [List.getElem?_take] at this
                    rw [if_pos (by rw [List.length_append]; omega),List.getElem?_append_left (by omega)] at this
                    exact this
                  · rw [List.getElem?_append_right (by omega),hfl,List.getElem?_append_right (by rw [ecells_length]; omega),ecells_length]
                    have := congrArg (fun l => l[j]?) e7
                    simp only [List.getElem?_take] at this
                    simp only [List.length_append,List.length_cons,List.length_drop] at hj
                    rw [if_pos (by rw [List.length_append]; omega),List.getElem?_append_right (by omega),hfl] at this
                    rw [this]
                    cases rest with
                    | nil => simp at hj; omega
                    | cons r rs =>
                      rw [List.flatMap_cons,List.getElem?_append_right (by rw [ecells_length]; omega),ecells_length]
                      rfl
            · rw [if_neg hj,List.getElem?_eq_none]
              rw [flat_len]; omega
        · refine ⟨rfl,rfl,rfl,by simp [ecells,World.setCells,World.setCell],fun k hk hne => ?_⟩
          have hne : k ≠ g := by simpa [Value.ownBlock] using hne
          simp only [ecells,World.setCells]
          rw [Below.heap_setCell _ _ _ _ (by simpa using hne),Below.heap_setCell _ _ _ _ (by simpa using hne)]
    · have hr0 : rest = [] := by
        rw [List.length_append] at e4
        exact List.eq_nil_of_length_eq_zero (by omega)
      subst hr0
      rw [List.append_nil] at hrowW e7 e4
      refine step_append_grows hgd s x ST ho T i0 _ 2 16 hST hi hz0 hz1 hz2 rfl (by decide) (some ⟨g,0,none⟩) l.length cap (l.flatMap ecells) hs (fun h => by cases h) (flat_len l) ?_ ⟨w.heap.size,0,none⟩ 1 1 (ecells p) hx rfl hc h1c (by omega) (by unfold maxLen; omega) (by omega) ?_
      · intro b hb j u hj
        cases hb
        rw [add_add,Nat.zero_add,cell_of_row _ _ j _ _ (0,0) e3]
        rw [← e7,List.getElem?_take] at hj
        split at hj
        · simpa using hj
        · cases hj
      · intro v' w' ho' hg'
        obtain ⟨g',cap',rfl⟩ : ∃ g cap,v' = .slice (some ⟨g,0,none⟩) (l.length + 1) cap := by
          rcases ho'.2 with ⟨_,h⟩ | ⟨g,cap,cur,rfl,_⟩
          · cases h
          · exact ⟨_,_,rfl⟩
        have hgl := (ho'.lt g' rfl).1
        have hrow' : w'.ownsRow W.heap.size T 2 (.slice (some ⟨g',0,none⟩) (l.length + 1) cap') (l.length + 1) ((l ++ [p]).flatMap ecells) := by simpa using ho'
        exact hK g' cap' w' ((Row.of_owns hrow').base (by omega)) (.inr (by omega)) ⟨hg'.os,hg'.tape,hg'.output,hg'.size,fun k hk _ => hg'.block k hk (by simp)⟩ (fun h => absurd rfl h)
end Go.Proofs.YtocicffmajbecaaGreatDoor.Rw
