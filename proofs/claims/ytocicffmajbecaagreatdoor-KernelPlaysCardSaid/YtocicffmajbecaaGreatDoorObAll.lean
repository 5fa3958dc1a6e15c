/- Objects in a statement's walk: the counts, who waits for each; what they own. -/
import Derived.Test.YtocicffmajbecaaGreatDoorRows
import Derived.Test.YtocicffmajbecaaGreatDoorObM
import Derived.Test.YtocicffmajbecaaGreatDoorMvp
import Derived.Test.YtocicffmajbecaaGreatDoorSite
import Derived.Test.YtocicffmajbecaaGreatDoorInts
import Derived.Maps.OwnSet
import Derived.WalkKit
import Derived.OwnWalk
import Derived.Handy
import Derived.Test.YtocicffmajbecaaGreatDoorTail
import Derived.WalkSpells
import Derived.WalkLawsBesides
import Derived.Deep.RegionLaw
import Derived.IntWalk
import Derived.Test.YtocicffmajbecaaGreatDoorErrV
import Derived.Test.YtocicffmajbecaaGreatDoorHop
import Derived.Maps.AppendAt
namespace Go.Proofs.YtocicffmajbecaaGreatDoor
open Go.RowKit
set_option maxRecDepth 100000
namespace Ob
open Go.Maps (Tidy IsMap Keyed)
theorem law : Keyed Tryz.prog 3 := Go.Maps.int_keyed Tryz.underlying3
theorem zeroP (w : World) : (zeroValue 78).run Tryz.prog w = .ok nilV w := by kernel_rfl
abbrev same (v : Value) : Option (DataW Value × List MemPlace) := some (.held v,[])
abbrev OM (w : World) (b : Nat) (D : DataW Value) : Prop := w.ownsMap Tryz.prog 3 same b (Maps.size D) D
theorem tight {w : World} {b n : Nat} {D : DataW Value} (h : w.ownsMap Tryz.prog 3 same b n D) : OM w b D := by
  obtain ⟨es,clock,h1,h2,h3,rfl⟩ := h
  exact ⟨es,clock,h1,h2,by rw [Maps.size_eq,length_sorted,List.length_map]; simp,rfl⟩
theorem OM.obj {w : World} {b : Nat} {D : DataW Value} (h : OM w b D) : ∃ es c,w.heap[b]? = some (.map es c) := by
  obtain ⟨es,clock,h1,_⟩ := h
  exact ⟨es,clock,h1⟩
theorem OM.of_block {w w' : World} {b : Nat} {D : DataW Value} (h : OM w b D) (k : w'.heap[b]? = w.heap[b]?) : OM w' b D := by
  obtain ⟨es,c,e1,e2⟩ := h
  exact ⟨es,c,k.trans e1,e2⟩
abbrev key (k : Int) : Lit := .int .i64 k
def hasK (D : DataW Value) (k : Int) : Bool := Maps.has D (key k)
def atK (D : DataW Value) (k : Int) : DataW Value := D.atKey (key k) (.held nilV)
theorem key_ne {a b : Int} (h : a ≠ b) : key a ≠ key b := fun e => h (by injection e)
theorem isKey (k : Int) : Go.WideAt.IsKeyLit (key k) := trivial
def Places (w : World) (base : Nat) (m : Value) (D : DataW Value) : Prop := (m = .map none ∧ D = .map []) ∨ ∃ b,m = .map (some b) ∧ base ≤ b ∧ OM w b D
theorem Places.keep {w w' : World} {base : Nat} {m : Value} {D : DataW Value} (h : Places w base m D) (k : ∀ b,m = .map (some b) → w'.heap[b]? = w.heap[b]?) : Places w' base m D := by
  rcases h with h1 | ⟨b,h1,h2,h3⟩
  · exact .inl h1
  · exact .inr ⟨b,h1,h2,h3.of_block (k b h1)⟩
structure Full (D : DataW Value) (F : List Wt) : Prop where
  here : ∀ e ∈ F,hasK D e.1 = true ∧ atK D e.1 = .held (ptrV e.2)
  only : ∀ k,hasK D k = true → ∃ e ∈ F,e.1 = k
  size : Maps.size D = F.length
theorem Full.start : Full (.map []) [] := ⟨fun _ h => (by cases h),fun k h => (by simp [hasK,Maps.has] at h),rfl⟩
theorem Full.perm {D : DataW Value} {F G : List Wt} (h : Full D F) (p : F.Perm G) : Full D G :=
  ⟨fun e he => h.here e (p.mem_iff.2 he),fun k hk => (h.only k hk).imp fun e ⟨he,h1⟩ => ⟨p.mem_iff.1 he,h1⟩,by rw [h.size,p.length_eq]⟩
theorem Full.absent {D : DataW Value} {F : List Wt} (h : Full D F) {k : Int} (hk : ∀ e ∈ F,e.1 ≠ k) : hasK D k = false := by
  cases hh : hasK D k with
  | false => rfl
  | true =>
    obtain ⟨e,he,h1⟩ := h.only k hh
    exact absurd h1 (hk e he)
theorem Full.miss {D : DataW Value} {F : List Wt} (h : Full D F) {k : Int} (hk : ∀ e ∈ F,e.1 ≠ k) : atK D k = .held nilV := Go.Maps.atKey_of_not_has (h.absent hk) _
theorem Full.put {D : DataW Value} {F : List Wt} (h : Full D F) (hT : Tidy D) {k : Int} (hk : ∀ e ∈ F,e.1 ≠ k) (b : Nat) : Full (D.put (key k) (.held (ptrV b))) ((k,b) :: F) := by
  refine ⟨fun e he => ?_,fun j hj => ?_,?_⟩
  · rcases List.mem_cons.1 he with rfl | he
    · exact ⟨Go.Maps.has_put_same hT.isMap (isKey _) _,Go.Maps.atKey_put_same hT.isMap (isKey _) _ _⟩
    · have hne := key_ne (hk e he)
      obtain ⟨h1,h2⟩ := h.here e he
      exact ⟨(Go.Maps.has_put_other hne _).trans h1,(Go.Maps.atKey_put_other hne _ _).trans h2⟩
  · by_cases e : j = k
    · exact ⟨(k,b),by simp,e.symm⟩
    · have h1 : hasK D j = true := (Go.Maps.has_put_other (key_ne e) _).symm.trans hj
      obtain ⟨x,hx,h2⟩ := h.only j h1
      exact ⟨x,by simp [hx],h2⟩
  · rw [Go.Maps.size_put hT,show Maps.has D (key k) = false from h.absent hk,List.length_cons,h.size]
    rfl
theorem Full.del {D : DataW Value} {F : List Wt} {e : Wt} (h : Full D (e :: F)) (hT : Tidy D) (hn : ((e :: F).map (·.1)).Nodup) : Full (D.del (key e.1)) F := by
  rw [List.map_cons,List.nodup_cons] at hn
  obtain ⟨hno,-⟩ := hn
  have hne : ∀ f ∈ F,f.1 ≠ e.1 := fun f hf he => hno (by rw [← he]; exact List.mem_map_of_mem hf)
  refine ⟨fun f hf => ?_,fun j hj => ?_,?_⟩
  · have hk := key_ne (hne f hf)
    obtain ⟨h1,h2⟩ := h.here f (by simp [hf])
    exact ⟨(Go.Maps.has_del_other hk).trans h1,(Go.Maps.atKey_del_other hk _).trans h2⟩
  · by_cases c : j = e.1
    · subst c
      have : hasK (D.del (key e.1)) e.1 = false := Go.Maps.has_del_same
      rw [this] at hj; cases hj
    · have h1 : hasK D j = true := (Go.Maps.has_del_other (key_ne c)).symm.trans hj
      obtain ⟨x,hx,h2⟩ := h.only j h1
      rcases List.mem_cons.1 hx with rfl | hx
      · exact absurd h2.symm c
      · exact ⟨x,hx,h2⟩
  · have h1 := Go.Maps.size_del (k := key e.1) hT
    rw [show Maps.has D (key e.1) = true from (h.here e (by simp)).1,if_pos rfl,h.size,List.length_cons] at h1
    omega
theorem look_any {w : World} {b : Nat} {D : DataW Value} (h : OM w b D) {k : Int} (hk : wf64 k) {v : Value} (ha : atK D k = .held v) : (Instr.lookup 82 (.map (some b)) (.int .i64 k) false).run Tryz.prog w = .ok v w := by
  obtain ⟨u,ps,h1,h2⟩ := World.ownsMap.lookup h law Tryz.underlying82 (zeroP w) (zd := .held nilV) (zp := []) rfl (Go.Maps.keyOf_int_mk Tryz.underlying3 hk.lit)
  have e1 : DataW.held u = D.atKey (key k) (.held nilV) := congrArg Prod.fst (Option.some.inj h2)
  have e2 : DataW.held u = DataW.held v := e1.trans ha
  injection e2 with e2
  rw [← e2]
  exact h1
theorem look_nil (w : World) {k : Int} (hk : wf64 k) : (Instr.lookup 82 (.map none) (.int .i64 k) false).run Tryz.prog w = .ok nilV w := by
  have := Go.Maps.look_nil (P := Tryz.prog) (w := w) false law Tryz.underlying82 (zeroP w) (Go.Maps.keyOf_int_mk Tryz.underlying3 hk.lit)
  simpa using this
theorem look_places {w : World} {base : Nat} {m : Value} {D : DataW Value} (h : Places w base m D) {k : Int} (hk : wf64 k) {v : Value} (ha : atK D k = .held v) : (Instr.lookup 82 m (.int .i64 k) false).run Tryz.prog w = .ok v w := by
  rcases h with ⟨rfl,rfl⟩ | ⟨b,rfl,_,h⟩
  · have e : v = nilV := by
      have : atK (.map []) k = .held nilV := rfl
      rw [this] at ha
      injection ha with ha
      exact ha.symm
    rw [e]
    exact look_nil w hk
  · exact look_any h hk ha
abbrev objV (x : Site) (i : Nat) : Value := .pointer (some ⟨x.b,x.d + i * 3,none⟩)
def Out (x : Site) (cs : Array Value) : Prop := cs.size = x.n ∧ x.d + 13 ≤ x.n ∧ x.T ≠ 153 ∧ ∀ j,j < x.n → j < x.d ∨ x.d + 13 ≤ j → cs[j]? = some (x.K j)
theorem Out.set {x : Site} {cs : Array Value} (h : Out x cs) {j : Nat} (h1 : x.d ≤ j) (h2 : j < x.d + 13) (u : Value) : Out x (cs.setIfInBounds j u) :=
  ⟨by simpa using h.1,h.2.1,h.2.2.1,fun k hk ho => by rw [Array.getElem?_setIfInBounds,if_neg (by omega)]; exact h.2.2.2 k hk ho⟩
def OAt (w : World) (x : Site) (c : Nat → Int) (f l : Nat → Value) (m : Value) : Prop :=
  ∃ cs,w.heap[x.b]? = some (.cells cs x.T (0,0)) ∧ Out x cs ∧ cs[x.d + 12]? = some m ∧ ∀ i,i < 4 → cs[x.d + i * 3]? = some (.int .i64 (c i)) ∧ cs[x.d + i * 3 + 1]? = some (f i) ∧ cs[x.d + i * 3 + 2]? = some (l i)
def NAt (w : World) (x : Site) (i : Nat) (a : Value) (e : Wt) (n : Value) : Prop := w.heap[e.2]? = some (.cells #[.int .i64 e.1,objV x i,a,n] 153 (0,0))
def Seg (w : World) (x : Site) (i : Nat) : Value → List Wt → Value → Prop
  | _,[],_ => True
  | a,e :: l,n => NAt w x i a e (headOr l n) ∧ Seg w x i (ptrV e.2) l n
section
variable {w w' : World} {x : Site} {i : Nat} {c : Nat → Int} {f l : Nat → Value} {m a n : Value}
theorem OAt.lt (h : OAt w x c f l m) : x.b < w.heap.size := by
  obtain ⟨cs,h1,_⟩ := h
  exact lt_blk h1
theorem OAt.same (h : OAt w x c f l m) (k : w'.heap[x.b]? = w.heap[x.b]?) : OAt w' x c f l m := by
  obtain ⟨cs,h1,h2⟩ := h
  exact ⟨cs,k.trans h1,h2⟩
theorem OAt.cell (h : OAt w x c f l m) (hi : i < 4) : w.cell? ⟨x.b,x.d + i * 3,none⟩ = some (.int .i64 (c i)) ∧ w.cell? ⟨x.b,x.d + i * 3 + 1,none⟩ = some (f i) ∧ w.cell? ⟨x.b,x.d + i * 3 + 2,none⟩ = some (l i) := by
  obtain ⟨cs,h1,_,_,h4⟩ := h
  obtain ⟨e1,e2,e3⟩ := h4 i hi
  exact ⟨by simp [World.cell?,h1,e1],by simp [World.cell?,h1,e2],by simp [World.cell?,h1,e3]⟩
theorem OAt.map (h : OAt w x c f l m) : w.cell? ⟨x.b,x.d + 12,none⟩ = some m := by
  obtain ⟨cs,h1,_,h3,_⟩ := h
  simp [World.cell?,h1,h3]
theorem OAt.free (h : OAt w x c f l m) (j : Nat) : w.frozen? ⟨x.b,j,none⟩ = false := by
  obtain ⟨cs,h1,_⟩ := h
  simp [World.frozen?,h1]
theorem OAt.setC (h : OAt w x c f l m) (hi : i < 4) (u : Int) : OAt (w.setCell ⟨x.b,x.d + i * 3,none⟩ (.int .i64 u)) x (upd c i u) f l m := by
  obtain ⟨cs,h1,h2,h3,h4⟩ := h
  have hn := h2.1
  have hd := h2.2.1
  refine ⟨_,set_same h1 _ _,h2.set (by omega) (by omega) _,?_,fun j hj => ?_⟩
  · rw [Array.getElem?_setIfInBounds,if_neg (by omega)]; exact h3
  · obtain ⟨e1,e2,e3⟩ := h4 j hj
    rw [Array.getElem?_setIfInBounds,Array.getElem?_setIfInBounds,Array.getElem?_setIfInBounds,if_neg (show ¬ x.d + i * 3 = x.d + j * 3 + 1 by omega),if_neg (show ¬ x.d + i * 3 = x.d + j * 3 + 2 by omega)]
    refine ⟨?_,e2,e3⟩
    by_cases e : j = i
    · subst e; rw [if_pos rfl,upd_same,if_pos (by omega)]
    · rw [if_neg (by omega),upd_other e]; exact e1
theorem OAt.setF (h : OAt w x c f l m) (hi : i < 4) (u : Value) : OAt (w.setCell ⟨x.b,x.d + i * 3 + 1,none⟩ u) x c (upd f i u) l m := by
  obtain ⟨cs,h1,h2,h3,h4⟩ := h
  have hn := h2.1
  have hd := h2.2.1
  refine ⟨_,set_same h1 _ _,h2.set (by omega) (by omega) _,?_,fun j hj => ?_⟩
  · rw [Array.getElem?_setIfInBounds,if_neg (by omega)]; exact h3
  · obtain ⟨e1,e2,e3⟩ := h4 j hj
    rw [Array.getElem?_setIfInBounds,Array.getElem?_setIfInBounds,Array.getElem?_setIfInBounds,if_neg (show ¬ x.d + i * 3 + 1 = x.d + j * 3 by omega),if_neg (show ¬ x.d + i * 3 + 1 = x.d + j * 3 + 2 by omega)]
    refine ⟨e1,?_,e3⟩
    by_cases e : j = i
    · subst e; rw [if_pos rfl,upd_same,if_pos (by omega)]
    · rw [if_neg (by omega),upd_other e]; exact e2
theorem OAt.setL (h : OAt w x c f l m) (hi : i < 4) (u : Value) : OAt (w.setCell ⟨x.b,x.d + i * 3 + 2,none⟩ u) x c f (upd l i u) m := by
  obtain ⟨cs,h1,h2,h3,h4⟩ := h
  have hn := h2.1
  have hd := h2.2.1
  refine ⟨_,set_same h1 _ _,h2.set (by omega) (by omega) _,?_,fun j hj => ?_⟩
  · rw [Array.getElem?_setIfInBounds,if_neg (by omega)]; exact h3
  · obtain ⟨e1,e2,e3⟩ := h4 j hj
    rw [Array.getElem?_setIfInBounds,Array.getElem?_setIfInBounds,Array.getElem?_setIfInBounds,if_neg (show ¬ x.d + i * 3 + 2 = x.d + j * 3 by omega),if_neg (show ¬ x.d + i * 3 + 2 = x.d + j * 3 + 1 by omega)]
    refine ⟨e1,e2,?_⟩
    by_cases e : j = i
    · subst e; rw [if_pos rfl,upd_same,if_pos (by omega)]
    · rw [if_neg (by omega),upd_other e]; exact e3
theorem OAt.setM (h : OAt w x c f l m) (u : Value) : OAt (w.setCell ⟨x.b,x.d + 12,none⟩ u) x c f l u := by
  obtain ⟨cs,h1,h2,h3,h4⟩ := h
  have hn := h2.1
  have hd := h2.2.1
  refine ⟨_,set_same h1 _ _,h2.set (by omega) (by omega) _,?_,fun j hj => ?_⟩
  · rw [Array.getElem?_setIfInBounds,if_pos rfl,if_pos (by omega)]
  · obtain ⟨e1,e2,e3⟩ := h4 j hj
    rw [Array.getElem?_setIfInBounds,Array.getElem?_setIfInBounds,Array.getElem?_setIfInBounds,if_neg (show ¬ x.d + 12 = x.d + j * 3 by omega),if_neg (show ¬ x.d + 12 = x.d + j * 3 + 1 by omega),if_neg (show ¬ x.d + 12 = x.d + j * 3 + 2 by omega)]
    exact ⟨e1,e2,e3⟩
theorem OAt.told {f' l' : Nat → Value} {c' : Nat → Int} (h : OAt w x c f l m) (hc : ∀ j,j < 4 → c' j = c j) (hf : ∀ j,j < 4 → f' j = f j) (hl : ∀ j,j < 4 → l' j = l j) : OAt w x c' f' l' m := by
  obtain ⟨cs,h1,h2,h3,h4⟩ := h
  exact ⟨cs,h1,h2,h3,fun j hj => by rw [hc j hj,hf j hj,hl j hj]; exact h4 j hj⟩
variable {e : Wt}
theorem NAt.lt (h : NAt w x i a e n) : e.2 < w.heap.size := lt_blk h
theorem NAt.cells (h : NAt w x i a e n) : w.cell? ⟨e.2,0,none⟩ = some (.int .i64 e.1) ∧ w.cell? ⟨e.2,1,none⟩ = some (objV x i) ∧ w.cell? ⟨e.2,2,none⟩ = some a ∧ w.cell? ⟨e.2,3,none⟩ = some n := by
  unfold NAt at h
  exact ⟨by simp [World.cell?,h],by simp [World.cell?,h],by simp [World.cell?,h],by simp [World.cell?,h]⟩
theorem NAt.free (h : NAt w x i a e n) (j : Nat) : w.frozen? ⟨e.2,j,none⟩ = false := by
  unfold NAt at h
  simp [World.frozen?,h]
theorem NAt.setA (h : NAt w x i a e n) (u : Value) : NAt (w.setCell ⟨e.2,2,none⟩ u) x i u e n := set_same h 2 u
theorem NAt.setN (h : NAt w x i a e n) (u : Value) : NAt (w.setCell ⟨e.2,3,none⟩ u) x i a e u := set_same h 3 u
theorem NAt.far {x' : Site} (h : NAt w x i a e n) (k : OAt w x' c f l m) : e.2 ≠ x'.b := by
  intro q
  obtain ⟨cs,h1,h2,_⟩ := k
  unfold NAt at h
  rw [q,h1] at h
  injection (Option.some.inj h) with _ h3
  exact h2.2.2.1 h3
theorem Seg.keep : ∀ {L : List Wt} {a n : Value},Seg w x i a L n → (∀ e ∈ L,w'.heap[e.2]? = w.heap[e.2]?) → Seg w' x i a L n
  | [],_,_,_,_ => trivial
  | e :: L,_,_,h,k => ⟨(k e (by simp)).trans h.1,Seg.keep h.2 fun f hf => k f (by simp [hf])⟩
theorem Seg.append : ∀ {L M : List Wt} {a n : Value},Seg w x i a (L ++ M) n ↔ Seg w x i a L (headOr M n) ∧ Seg w x i (lastOr a L) M n
  | [],M,a,n => ⟨fun h => ⟨trivial,h⟩,fun h => h.2⟩
  | e :: L,M,a,n => by
    show (NAt w x i a e (headOr (L ++ M) n) ∧ Seg w x i (ptrV e.2) (L ++ M) n) ↔ (NAt w x i a e (headOr L (headOr M n)) ∧ Seg w x i (ptrV e.2) L (headOr M n)) ∧ Seg w x i (lastOr (ptrV e.2) L) M n
    rw [headOr_append,Seg.append,and_assoc]
theorem Seg.lt : ∀ {L : List Wt} {a n : Value},Seg w x i a L n → ∀ e ∈ L,e.2 < w.heap.size
  | [],_,_,_,_,he => by cases he
  | f :: L,_,_,h,e,he => by
    rcases List.mem_cons.1 he with rfl | he
    · exact h.1.lt
    · exact Seg.lt h.2 e he
theorem Seg.far : ∀ {L : List Wt} {a n : Value} {x' : Site},Seg w x i a L n → OAt w x' c f l m → ∀ e ∈ L,e.2 ≠ x'.b
  | [],_,_,_,_,_,_,he => by cases he
  | f :: L,_,_,_,h,k,e,he => by
    rcases List.mem_cons.1 he with rfl | he
    · exact h.1.far k
    · exact Seg.far h.2 k e he
theorem Seg.blk : ∀ {L : List Wt} {a n : Value},Seg w x i a L n → ∀ e ∈ L,∃ cs,w.heap[e.2]? = some (.cells cs 153 (0,0))
  | [],_,_,_,_,he => by cases he
  | f :: L,_,_,h,e,he => by
    rcases List.mem_cons.1 he with rfl | he
    · exact ⟨_,h.1⟩
    · exact Seg.blk h.2 e he
end
structure Obs (base : Nat) (x : Site) (c : Nat → Int) (r : Nat → List Wt) (m : Value) (D : DataW Value) (w : World) : Prop where
  at' : OAt w x c (fun i => headOr (r i) nilV) (fun i => lastOr nilV (r i)) m
  seg : ∀ i,i < 4 → Seg w x i nilV (r i) nilV
  apart : ((flat r).map (·.2)).Nodup
  ids : ((flat r).map (·.1)).Nodup
  wf : ∀ e ∈ flat r,wf64 e.1
  low : ∀ e ∈ flat r,base ≤ e.2
  map : Places w base m D
  full : Full D (flat r)
  bx : base ≤ x.b
  cb : ∀ i,i < 4 → 0 ≤ c i ∧ c i ≤ 255
def Own (x : Site) (m : Value) (r : Nat → List Wt) (k : Nat) : Prop := k = x.b ∨ m = .map (some k) ∨ ∃ e ∈ flat r,e.2 = k
section
variable {base : Nat} {x : Site} {c : Nat → Int} {r : Nat → List Wt} {m : Value} {D : DataW Value} {w w' : World}
theorem Obs.lt (h : Obs base x c r m D w) : x.b < w.heap.size := h.at'.lt
theorem Obs.node (h : Obs base x c r m D w) {e : Wt} (he : e ∈ flat r) : e.2 < w.heap.size ∧ e.2 ≠ x.b := by
  obtain ⟨i,hi,he⟩ := mem_flat.1 he
  exact ⟨(h.seg i hi).lt e he,(h.seg i hi).far h.at' e he⟩
theorem Obs.mapFar (h : Obs base x c r m D w) {b : Nat} (hb : m = .map (some b)) : b ≠ x.b ∧ b < w.heap.size ∧ base ≤ b ∧ ∀ e ∈ flat r,e.2 ≠ b := by
  rcases h.map with ⟨h1,_⟩ | ⟨b',h1,h2,h3⟩
  · rw [h1] at hb; cases hb
  · rw [h1] at hb
    cases hb
    obtain ⟨es,k,ho⟩ := h3.obj
    refine ⟨fun e => ?_,lt_blk ho,h2,fun e he q => ?_⟩
    · obtain ⟨cs,h4,_⟩ := h.at'
      rw [e,h4] at ho; cases ho
    · obtain ⟨i,hi,he⟩ := mem_flat.1 he
      obtain ⟨cs,h4⟩ := (h.seg i hi).blk e he
      rw [q,ho] at h4; cases h4
theorem Obs.own (h : Obs base x c r m D w) : ∀ k,Own x m r k → base ≤ k ∧ k < w.heap.size := by
  intro k hk
  rcases hk with rfl | hk | ⟨e,he,rfl⟩
  · exact ⟨h.bx,h.lt⟩
  · obtain ⟨_,h2,h3,_⟩ := h.mapFar hk
    exact ⟨h3,h2⟩
  · exact ⟨h.low e he,(h.node he).1⟩
theorem Obs.keep (h : Obs base x c r m D w) (k : ∀ b,Own x m r b → w'.heap[b]? = w.heap[b]?) : Obs base x c r m D w' :=
  ⟨h.at'.same (k x.b (.inl rfl)),fun i hi => (h.seg i hi).keep fun e he => k e.2 (.inr (.inr ⟨e,mem_flat.2 ⟨i,hi,he⟩,rfl⟩)),h.apart,h.ids,h.wf,h.low,h.map.keep fun b hb => k b (.inr (.inl hb)),h.full,h.bx,h.cb⟩
theorem Obs.ext (h : Obs base x c r m D w) (k : Ext w w') : Obs base x c r m D w' := h.keep fun b hb => k.below.block b (h.own b hb).2
theorem Obs.lower {base' : Nat} (h : Obs base x c r m D w) (hb : base' ≤ base) : Obs base' x c r m D w :=
  ⟨h.at',h.seg,h.apart,h.ids,h.wf,fun e he => Nat.le_trans hb (h.low e he),by
    rcases h.map with h1 | ⟨b,h1,h2,h3⟩
    · exact .inl h1
    · exact .inr ⟨b,h1,Nat.le_trans hb h2,h3⟩,h.full,Nat.le_trans hb h.bx,h.cb⟩
theorem Obs.setC (h : Obs base x c r m D w) {i : Nat} (hi : i < 4) {u : Int} (hu : 0 ≤ u ∧ u ≤ 255) : Obs base x (upd c i u) r m D (w.setCell ⟨x.b,x.d + i * 3,none⟩ (.int .i64 u)) := by
  have hk : ∀ b,b ≠ x.b → (w.setCell ⟨x.b,x.d + i * 3,none⟩ (.int .i64 u)).heap[b]? = w.heap[b]? := fun b hb => Below.heap_setCell _ _ _ _ (by simpa using hb)
  refine ⟨h.at'.setC hi u,fun j hj => (h.seg j hj).keep fun e he => hk _ (h.node (mem_flat.2 ⟨j,hj,he⟩)).2,h.apart,h.ids,h.wf,h.low,h.map.keep fun b hb => hk _ (h.mapFar hb).1,h.full,h.bx,fun j hj => ?_⟩
  by_cases e : j = i
  · subst e; rw [upd_same]; exact hu
  · rw [upd_other e]; exact h.cb j hj
end
end Ob
end Go.Proofs.YtocicffmajbecaaGreatDoor
namespace Go.Proofs.YtocicffmajbecaaGreatDoor
open Go.RowKit
namespace Ob
abbrev ownO (b : Nat) : Site := ⟨b,0,13,84,fun _ => .bool false⟩
theorem Obs.new (w w' : World) (h : w' = w.alloc (.cells #[.int .i64 0,nilV,nilV,.int .i64 0,nilV,nilV,.int .i64 0,nilV,nilV,.int .i64 0,nilV,nilV,.map none] 84 (0,0))) : Obs w.heap.size (ownO w.heap.size) (fun _ => 0) (fun _ => []) (.map none) (.map []) w' := by
  subst h
  refine ⟨⟨_,heap_alloc_new _ _,⟨rfl,Nat.le_refl _,(by decide : 84 ≠ 153),fun j hj ho => by
    have h1 : j < 13 := hj
    have h2 : j < 0 ∨ 0 + 13 ≤ j := ho
    omega⟩,rfl,fun i hi => ?_⟩,fun i _ => trivial,List.nodup_nil,List.nodup_nil,fun e he => (by cases he),fun e he => (by cases he),.inl ⟨rfl,rfl⟩,Full.start,Nat.le_refl _,fun i _ => ⟨by omega,by omega⟩⟩
  rcases four hi with rfl | rfl | rfl | rfl <;> exact ⟨rfl,rfl,rfl⟩
set_option maxHeartbeats 1000000 in
theorem new_any (w : World) : Calls Tryz.prog 37 #[] w fun e w' => e = .returned (ptrV w.heap.size) ∧ Obs w.heap.size (ownO w.heap.size) (fun _ => 0) (fun _ => []) (.map none) (.map []) w' ∧ Ext w w' := by
  go_enter Tryz.func37,Tryz.ntmps37
  go_wp2
  go_returns
  exact ⟨rfl,Obs.new w _ rfl,ext_by⟩
set_option maxHeartbeats 1000000 in
theorem find_in (w : World) {x : Site} {i : Nat} {c : Nat → Int} {f l : Nat → Value} {m : Value} (h : OAt w x c f l m) (hi : i < 4) : Calls Tryz.prog 92 #[x.ptr,.int .i64 i] w fun e w' => e = .returned (objV x i) ∧ w' = w := by
  have hx := h.lt
  have i1 : decide ((i : Int) < 0) = false := by rw [decide_eq_false_iff_not]; omega
  have i2 : decide ((4 : Int) ≤ (i : Int)) = false := by rw [decide_eq_false_iff_not]; omega
  have i3 : (i : Int) < 4 := by omega
  clear h
  go_enter Tryz.func92,Tryz.ntmps92
  go_wp2
  go_returns
  exact ⟨rfl,rfl⟩
set_option maxHeartbeats 1000000 in
theorem find_out (w : World) {x : Site} {o : Int} (h : o < 0 ∨ 4 ≤ o) : Calls Tryz.prog 92 #[x.ptr,.int .i64 o] w fun e w' => e = .returned nilV ∧ w' = w := by
  by_cases h0 : o < 0
  · have i1 : decide (o < 0) = true := by simpa using h0
    clear h h0
    go_enter Tryz.func92,Tryz.ntmps92
    go_wp2
    go_returns
    exact ⟨rfl,rfl⟩
  · have i1 : decide (o < 0) = false := by simpa using h0
    have i2 : decide (4 ≤ o) = true := by rw [decide_eq_true_iff]; omega
    clear h h0
    go_enter Tryz.func92,Tryz.ntmps92
    go_wp2
    go_returns
    exact ⟨rfl,rfl⟩
section
variable {base : Nat} {x : Site} {c : Nat → Int} {r : Nat → List Wt} {m : Value} {D : DataW Value} {w w' : World}
end
end Ob
end Go.Proofs.YtocicffmajbecaaGreatDoor
namespace Go.Proofs.YtocicffmajbecaaGreatDoor
open Go.RowKit
namespace Ob
def In (x : Site) (L : List Wt) (k : Nat) : Prop := k = x.b ∨ ∃ p ∈ L,p.2 = k
section
variable {w w' : World} {x : Site} {i : Nat} {c : Nat → Int} {f l : Nat → Value} {m a n : Value}
theorem seg_far {L : List Wt} (h : Seg w x i a L n) {b j : Nat} {u : Value} (hb : ∀ e ∈ L,e.2 ≠ b) : Seg (w.setCell ⟨b,j,none⟩ u) x i a L n := h.keep fun e he => Below.heap_setCell _ _ _ _ (by simpa using hb e he)
theorem oat_far (h : OAt w x c f l m) {b j : Nat} {u : Value} (hb : x.b ≠ b) : OAt (w.setCell ⟨b,j,none⟩ u) x c f l m := h.same (Below.heap_setCell _ _ _ _ (by simpa using hb))
theorem seg_setN {L : List Wt} {p : Wt} (h : Seg w x i a (L ++ [p]) n) (hd : ∀ e ∈ L,e.2 ≠ p.2) (u : Value) : Seg (w.setCell ⟨p.2,3,none⟩ u) x i a (L ++ [p]) u := by
  rw [Seg.append] at h ⊢
  exact ⟨seg_far h.1 hd,NAt.setN h.2.1 u,trivial⟩
theorem seg_setA {L : List Wt} {q : Wt} (h : Seg w x i a (q :: L) n) (hd : ∀ e ∈ L,e.2 ≠ q.2) (u : Value) : Seg (w.setCell ⟨q.2,2,none⟩ u) x i u (q :: L) n := ⟨NAt.setA h.1 u,seg_far h.2 hd⟩
def Left (x : Site) (i : Nat) (c : Nat → Int) (f l : Nat → Value) (m : Value) (M : List Wt) (w : World) (e : Ending) (w' : World) : Prop :=
  e = .returned (.tuple #[]) ∧ OAt w' x c (upd f i (headOr M nilV)) (upd l i (lastOr nilV M)) m ∧ Seg w' x i nilV M nilV ∧ Mvp (In x M) (In x M) w w'
set_option maxRecDepth 100000 in
set_option maxHeartbeats 2000000 in
theorem leave_any (h : OAt w x c f l m) (hi : i < 4) {L1 L2 : List Wt} {e : Wt} (hs : Seg w x i nilV (L1 ++ e :: L2) nilV) (hd : ((L1 ++ e :: L2).map (·.2)).Nodup)
    (hf : f i = headOr (L1 ++ e :: L2) nilV) (hl : l i = lastOr nilV (L1 ++ e :: L2)) :
    Calls Tryz.prog 91 #[ptrV e.2] w (Left x i c f l m (L1 ++ L2) w) := by
  have hs2 := Seg.append.1 hs
  have he : NAt w x i (lastOr nilV L1) e (headOr L2 nilV) := hs2.2.1
  obtain ⟨-,e1,e2,e3⟩ := he.cells
  have hx := h.lt
  have hel := he.lt
  have hex := he.far h
  obtain ⟨-,c1,c2⟩ := h.cell hi
  have f1 := h.free (x.d + i * 3 + 1)
  have f2 := h.free (x.d + i * 3 + 2)
  have H := hid h
  have HS1 := hid hs2.1
  have HS2 : Hid (Seg w x i (ptrV e.2) L2 nilV) := hs2.2.2
  have HD := hid hd
  have HI := hid hi
  rw [List.map_append,List.map_cons,List.nodup_append,List.nodup_cons] at hd
  obtain ⟨d1,⟨d2,d3⟩,d4⟩ := hd
  have HF := hid hf
  have HL := hid hl
  clear hs hs2 he h hf hl
  rcases snoc_cases L1 with rfl | ⟨K,p,rfl⟩
  · cases L2 with
    | nil =>
      simp only [lastOr,headOr] at e2 e3
      clear d1 d2 d3 d4 hi
      go_enter Tryz.func91,Tryz.ntmps91
      go_wp2_with fail
      go_region
      go_wp2_with fail
      go_region
      go_returns
      refine ⟨rfl,(((H.out.setF HI.out nilV).same rfl).setL HI.out nilV).same rfl,trivial,?_⟩
      exact (((((Mvp.refl (In x ([] ++ [])) w).set (g := x.b) (.inl rfl) (x.d + i * 3 + 1) nilV).ext (Ext.drew (Ext.refl _))).set (g := x.b) (.inl rfl) (x.d + i * 3 + 2) nilV)).ext (Ext.drew (Ext.refl _))
    | cons q L2 =>
      simp only [lastOr,headOr] at e2 e3
      have hq := HS2.out.1
      obtain ⟨-,-,q2,-⟩ := hq.cells
      have qf := hq.free 2
      have hql := hq.lt
      have hqx := hq.far H.out
      have hqe : q.2 ≠ e.2 := fun k => d2 (by rw [← k]; simp)
      have hqe' : e.2 ≠ q.2 := fun k => hqe k.symm
      have hxq : x.b ≠ q.2 := fun k => hqx k.symm
      have HQ : Hid (∀ e ∈ L2,e.2 ≠ q.2) := fun e he k => (List.nodup_cons.1 d3).1 (by show q.2 ∈ _; rw [← k]; exact List.mem_map_of_mem he)
      clear d1 d2 d3 d4 hi hq
      go_enter Tryz.func91,Tryz.ntmps91
      go_wp2_with fail
      go_region
      go_wp2_with fail
      go_region
      go_returns
      refine ⟨rfl,?_,?_,?_⟩
      · have := (oat_far (b := q.2) (j := 2) (u := nilV) ((H.out.setF HI.out (ptrV q.2)).same (w' := (w.setCell ⟨x.b,x.d + i * 3 + 1,none⟩ (ptrV q.2)).drew) rfl) (by omega))
        rw [upd_eq (show l i = lastOr nilV (q :: L2) from HL.out)]
        exact this.same rfl
      · refine Seg.keep (w := (w.setCell ⟨x.b,x.d + i * 3 + 1,none⟩ (ptrV q.2)).setCell ⟨q.2,2,none⟩ nilV) ?_ fun _ _ => rfl
        exact seg_setA (seg_far HS2.out (HS2.out.far H.out)) HQ.out nilV
      · exact (((((Mvp.refl (In x ([] ++ q :: L2)) w).set (g := x.b) (.inl rfl) (x.d + i * 3 + 1) (ptrV q.2)).ext (Ext.drew (Ext.refl _))).set (g := q.2) (.inr ⟨q,by simp,rfl⟩) 2 nilV)).ext (Ext.drew (Ext.refl _))
  · rw [lastOr_snoc] at e2
    have hs1 := HS1.out
    have hp : NAt w x i (lastOr nilV K) p (ptrV e.2) := (Seg.append.1 hs1).2.1
    obtain ⟨-,-,-,p3⟩ := hp.cells
    have pf := hp.free 3
    have hpl := hp.lt
    have hpx := hp.far H.out
    have hxp : x.b ≠ p.2 := fun k => hpx k.symm
    have hpe : p.2 ≠ e.2 := d4 p.2 (List.mem_map_of_mem (by simp)) e.2 (by simp)
    have hpe' : e.2 ≠ p.2 := fun k => hpe k.symm
    have HK : Hid (∀ e ∈ K,e.2 ≠ p.2) := fun e he k => by
      rw [List.map_append,List.nodup_append] at d1
      exact d1.2.2 e.2 (List.mem_map_of_mem he) p.2 (by simp) k
    cases L2 with
    | nil =>
      simp only [headOr] at e3
      clear d1 d2 d3 d4 hi hp hs1
      go_enter Tryz.func91,Tryz.ntmps91
      go_wp2_with fail
      go_region
      go_wp2_with fail
      go_region
      go_returns
      refine ⟨rfl,?_,?_,?_⟩
      · have := (oat_far (b := p.2) (j := 3) (u := nilV) H.out hxp).setL HI.out (ptrV p.2)
        rw [List.append_nil,lastOr_snoc,upd_eq (by rw [HF.out,headOr_append,headOr_append,headOr_append]; rfl)]
        exact this.same rfl
      · rw [List.append_nil]
        refine Seg.keep (w := (w.setCell ⟨p.2,3,none⟩ nilV).setCell ⟨x.b,x.d + i * 3 + 2,none⟩ (ptrV p.2)) ?_ fun _ _ => rfl
        exact seg_far (seg_setN HS1.out HK.out nilV) (HS1.out.far H.out)
      · exact (((((Mvp.refl (In x (K ++ [p] ++ [])) w).set (g := p.2) (.inr ⟨p,by simp,rfl⟩) 3 nilV).ext (Ext.drew (Ext.refl _))).set (g := x.b) (.inl rfl) (x.d + i * 3 + 2) (ptrV p.2))).ext (Ext.drew (Ext.refl _))
    | cons q L2 =>
      simp only [headOr] at e3
      have hq := HS2.out.1
      obtain ⟨-,-,q2,-⟩ := hq.cells
      have qf := hq.free 2
      have hql := hq.lt
      have hqx := hq.far H.out
      have hqe : q.2 ≠ e.2 := fun k => d2 (by rw [← k]; simp)
      have hqe' : e.2 ≠ q.2 := fun k => hqe k.symm
      have hxq : x.b ≠ q.2 := fun k => hqx k.symm
      have hpq : p.2 ≠ q.2 := d4 p.2 (List.mem_map_of_mem (by simp)) q.2 (by simp)
      have hpq' : q.2 ≠ p.2 := fun k => hpq k.symm
      have HQ : Hid (∀ e ∈ L2,e.2 ≠ q.2) := fun e he k => (List.nodup_cons.1 d3).1 (by show q.2 ∈ _; rw [← k]; exact List.mem_map_of_mem he)
      have HPQ : Hid (∀ e ∈ q :: L2,e.2 ≠ p.2) := fun e he k => d4 p.2 (List.mem_map_of_mem (by simp)) e.2 (List.mem_cons_of_mem _ (List.mem_map_of_mem he)) k.symm
      have HQK : Hid (∀ e ∈ K ++ [p],e.2 ≠ q.2) := fun e he k => d4 e.2 (List.mem_map_of_mem he) q.2 (by simp) k
      clear d1 d2 d3 d4 hi hp hq hs1
      go_enter Tryz.func91,Tryz.ntmps91
      go_wp2_with fail
      go_region
      go_wp2_with fail
      go_region
      go_returns
      refine ⟨rfl,?_,?_,?_⟩
      · have := oat_far (b := q.2) (j := 2) (u := ptrV p.2) (oat_far (b := p.2) (j := 3) (u := ptrV q.2) H.out hxp) hxq
        rw [upd_eq (by rw [HF.out,headOr_append,headOr_append,headOr_append,headOr_append]; rfl),upd_eq (show l i = lastOr nilV (K ++ [p] ++ q :: L2) from by rw [HL.out,lastOr_append nilV (K ++ [p]),lastOr_append nilV (K ++ [p])]; rfl)]
        exact this.same rfl
      · rw [Seg.append]
        refine ⟨Seg.keep (w := (w.setCell ⟨p.2,3,none⟩ (ptrV q.2)).setCell ⟨q.2,2,none⟩ (ptrV p.2)) ?_ fun _ _ => rfl,Seg.keep (w := (w.setCell ⟨p.2,3,none⟩ (ptrV q.2)).setCell ⟨q.2,2,none⟩ (ptrV p.2)) ?_ fun _ _ => rfl⟩
        · exact seg_far (seg_setN HS1.out HK.out (ptrV q.2)) HQK.out
        · rw [lastOr_snoc]
          exact seg_setA (seg_far HS2.out HPQ.out) HQ.out (ptrV p.2)
      · exact (((((Mvp.refl (In x (K ++ [p] ++ q :: L2)) w).set (g := p.2) (.inr ⟨p,by simp,rfl⟩) 3 (ptrV q.2)).ext (Ext.drew (Ext.refl _))).set (g := q.2) (.inr ⟨q,by simp,rfl⟩) 2 (ptrV p.2))).ext (Ext.drew (Ext.refl _))
end
end Ob
end Go.Proofs.YtocicffmajbecaaGreatDoor
namespace Go.Proofs.YtocicffmajbecaaGreatDoor
open Go.RowKit
namespace Ob
open Go.Maps (Tidy IsMap Keyed)
section
variable {base : Nat} {x : Site} {c : Nat → Int} {r : Nat → List Wt} {m : Value} {D : DataW Value} {w w' w1 w2 : World}
theorem Obs.out (h : Obs base x c r m D w) {i : Nat} (hi : i < 4) {L1 L2 : List Wt} {e : Wt} (hr : r i = L1 ++ e :: L2) {b : Nat} (hm : m = .map (some b)) (ho : OM w1 b (D.del (key e.1))) (hg : w.grownBy w1 (some b))
    {v : Ending} (hl : Left x i c (fun i => headOr (r i) nilV) (fun i => lastOr nilV (r i)) m (L1 ++ L2) w1 v w2) : Obs base x c (upd r i (L1 ++ L2)) m (D.del (key e.1)) w2 ∧ Mvp (Own x m r) (Own x m (upd r i (L1 ++ L2))) w w2 := by
  obtain ⟨-,h1,h2,h3⟩ := hl
  have hp := flat_out hi hr
  have hF := h.full.perm hp
  have hN := (hp.map (·.1)).nodup h.ids
  have hB := (hp.map (·.2)).nodup h.apart
  obtain ⟨b1,b2,b3,b4⟩ := h.mapFar hm
  have hT : Tidy D := by
    rcases h.map with ⟨q,_⟩ | ⟨b',q,_,q3⟩
    · rw [q] at hm; cases hm
    · exact World.ownsMap.tidy q3 law
  have hin : ∀ k,In x (L1 ++ L2) k → k = x.b ∨ ∃ p ∈ r i,p.2 = k := by
    rintro k (rfl | ⟨p,hp,rfl⟩)
    · exact .inl rfl
    · refine .inr ⟨p,?_,rfl⟩
      rw [hr]
      rcases List.mem_append.1 hp with q | q
      · simp [q]
      · simp [q]
  have hbx : ¬ In x (L1 ++ L2) b := fun q => by
    rcases hin b q with q | ⟨p,q1,q2⟩
    · exact b1 q
    · exact b4 p (mem_flat.2 ⟨i,hi,q1⟩) q2
  have far : ∀ j,j < 4 → j ≠ i → ∀ f ∈ r j,¬ In x (L1 ++ L2) f.2 := fun j hj hji f hf q => by
    rcases q with q | ⟨p,q1,q2⟩
    · exact (h.node (mem_flat.2 ⟨j,hj,hf⟩)).2 q
    · rw [List.map_cons,List.nodup_cons] at hB
      have hnd := hB.2
      have hji' : upd r i (L1 ++ L2) j = r j := upd_other hji
      have hii : upd r i (L1 ++ L2) i = L1 ++ L2 := upd_same _ _ _
      have : ∀ {R : Nat → List Wt},((flat R).map (·.2)).Nodup → ∀ {i j},i < 4 → j < 4 → j ≠ i → ∀ p ∈ R i,∀ f ∈ R j,p.2 ≠ f.2 := by
        intro R hR i j hi hj hji p hp f hf
        simp only [flat,List.map_append,List.nodup_append,List.mem_append,List.mem_map] at hR
        obtain ⟨-,⟨-,⟨-,-,h23⟩,h1⟩,h0⟩ := hR
        rcases four hi with rfl | rfl | rfl | rfl <;> rcases four hj with rfl | rfl | rfl | rfl
        all_goals first
          | exact absurd rfl hji
          | exact h0 _ ⟨p,hp,rfl⟩ _ (.inl ⟨f,hf,rfl⟩)
          | exact h0 _ ⟨p,hp,rfl⟩ _ (.inr (.inl ⟨f,hf,rfl⟩))
          | exact h0 _ ⟨p,hp,rfl⟩ _ (.inr (.inr ⟨f,hf,rfl⟩))
          | exact fun q => h0 _ ⟨f,hf,rfl⟩ _ (.inl ⟨p,hp,rfl⟩) q.symm
          | exact fun q => h0 _ ⟨f,hf,rfl⟩ _ (.inr (.inl ⟨p,hp,rfl⟩)) q.symm
          | exact fun q => h0 _ ⟨f,hf,rfl⟩ _ (.inr (.inr ⟨p,hp,rfl⟩)) q.symm
          | exact h1 _ ⟨p,hp,rfl⟩ _ (.inl ⟨f,hf,rfl⟩)
          | exact h1 _ ⟨p,hp,rfl⟩ _ (.inr ⟨f,hf,rfl⟩)
          | exact fun q => h1 _ ⟨f,hf,rfl⟩ _ (.inl ⟨p,hp,rfl⟩) q.symm
          | exact fun q => h1 _ ⟨f,hf,rfl⟩ _ (.inr ⟨p,hp,rfl⟩) q.symm
          | exact h23 _ ⟨p,hp,rfl⟩ _ ⟨f,hf,rfl⟩
          | exact fun q => h23 _ ⟨f,hf,rfl⟩ _ ⟨p,hp,rfl⟩ q.symm
      exact this hnd hi hj hji p (by rw [hii]; exact q1) f (by rw [hji']; exact hf) q2
  have hx1 : x.b < w1.heap.size := Nat.lt_of_lt_of_le h.lt hg.size
  have hb2 : w2.heap[b]? = w1.heap[b]? := h3.block b (lt_blk ho.obj.choose_spec.choose_spec) hbx
  refine ⟨⟨?_,fun j hj => ?_,?_,?_,fun f hf => h.wf f (hp.mem_iff.2 (by simp [hf])),fun f hf => h.low f (hp.mem_iff.2 (by simp [hf])),.inr ⟨b,hm,b3,ho.of_block hb2⟩,hF.del hT hN,h.bx,h.cb⟩,?_⟩
  · have e1 := upd_comp (fun L => headOr L nilV) r i (L1 ++ L2)
    have e2 := upd_comp (fun L => lastOr nilV L) r i (L1 ++ L2)
    rw [e1,e2]
    exact h1
  · by_cases hji : j = i
    · subst hji
      rw [upd_same]
      exact h2
    · rw [upd_other hji]
      refine (h.seg j hj).keep fun f hf => ?_
      have hf' := mem_flat.2 ⟨j,hj,hf⟩
      have hfl := (h.node hf').1
      have hfb := b4 f hf'
      rw [h3.block f.2 (Nat.lt_of_lt_of_le hfl hg.size) (far j hj hji f hf)]
      exact hg.block f.2 hfl fun q => hfb (Option.some.inj q)
  · rw [List.map_cons,List.nodup_cons] at hB
    exact hB.2
  · rw [List.map_cons,List.nodup_cons] at hN
    exact hN.2
  · have m1 : Mvp (Own x m r) (Own x m r) w w1 := (Mvp.refl _ w).grown (.inr (.inl hm)) hg
    have hIO : ∀ k,In x (L1 ++ L2) k → Own x m r k := fun k hk => by
      rcases hin k hk with q | ⟨p,q1,q2⟩
      · exact .inl q
      · exact .inr (.inr ⟨p,mem_flat.2 ⟨i,hi,q1⟩,q2⟩)
    have m2 : Mvp (Own x m r) (Own x m (upd r i (L1 ++ L2))) w1 w2 :=
      ⟨h3.os,h3.tape,h3.output,h3.size,fun k hk hA => h3.block k hk fun q => hA (hIO k q),fun k hk => by
        rcases hk with q | q | ⟨f,hf,q⟩
        · exact .inl (.inl q)
        · exact .inl (.inr (.inl q))
        · exact .inl (.inr (.inr ⟨f,hp.mem_iff.2 (by simp [hf]),q⟩))⟩
    exact m1.trans m2
def Dropt (base : Nat) (x : Site) (c : Nat → Int) (r : Nat → List Wt) (m : Value) (i : Nat) (M : List Wt) (w : World) (e : Ending) (w' : World) : Prop :=
  e = .returned (.bool true) ∧ ∃ D',Obs base x c (upd r i M) m D' w' ∧ Mvp (Own x m r) (Own x m (upd r i M)) w w'
set_option maxRecDepth 100000 in
set_option maxHeartbeats 4000000 in
theorem drop_yes (h : Obs base x c r m D w) {i : Nat} (hi : i < 4) {L1 L2 : List Wt} {e : Wt} (hr : r i = L1 ++ e :: L2) :
    Calls Tryz.prog 52 #[x.ptr,.int .i64 e.1] w (Dropt base x c r m i (L1 ++ L2) w) := by
  have hmem : e ∈ flat r := mem_flat.2 ⟨i,hi,by rw [hr]; simp⟩
  have hwf := h.wf e hmem
  obtain ⟨b,rfl,ho⟩ : ∃ b,m = .map (some b) ∧ OM w b D := by
    rcases h.map with ⟨q1,q2⟩ | ⟨b,q1,_,q2⟩
    · have := (h.full.here e hmem).1
      rw [q2] at this
      simp [hasK,Maps.has] at this
    · exact ⟨b,q1,q2⟩
  have hk := look_any ho hwf (h.full.here e hmem).2
  have c1 := h.at'.map
  have hx := h.lt
  have hnd : ((L1 ++ e :: L2).map (·.2)).Nodup := by
    have h1 := h.apart
    rw [← hr]
    simp only [flat,List.map_append,List.nodup_append] at h1
    obtain ⟨a0,⟨a1,⟨a2,a3,_⟩,_⟩,_⟩ := h1
    rcases four hi with rfl | rfl | rfl | rfl <;> assumption
  have HH := hid h
  have HR := hid hr
  have HN := hid hnd
  have HI := hid hi
  have CL : Hid (∀ w1,OM w1 b (D.del (key e.1)) → w.grownBy w1 (some b) → Calls Tryz.prog 91 #[ptrV e.2] w1 (Left x i c (fun i => headOr (r i) nilV) (fun i => lastOr nilV (r i)) (.map (some b)) (L1 ++ L2) w1)) := fun w1 _ hg => by
    obtain ⟨b1,b2,b3,b4⟩ := HH.out.mapFar rfl
    have hs := HH.out.seg i HI.out
    rw [HR.out] at hs
    refine leave_any (HH.out.at'.same (hg.block x.b HH.out.lt fun q => b1 (Option.some.inj q).symm)) HI.out (hs.keep fun f hf => ?_) HN.out (by rw [HR.out]) (by rw [HR.out])
    have hf' : f ∈ flat r := mem_flat.2 ⟨i,HI.out,by rw [HR.out]; exact hf⟩
    exact hg.block f.2 (HH.out.node hf').1 fun q => b4 f hf' (Option.some.inj q)
  clear h hr hnd hi hmem
  have HWF := hid hwf
  go_enter Tryz.func52,Tryz.ntmps52
  go_wp2_with (first | (at_delete; refine wpList_delete_own _ rfl _ _ 82 3 rfl 78 law Tryz.underlying82 same b _ D rfl ho _ _ rfl (Go.Maps.keyOf_int_mk Tryz.underlying3 HWF.out.lit) ?_; intro w1 ho1 ht1; have O1 := hid (tight ho1); have G1 := hid ht1.grown; clear ho1 ht1; have C1 := hid (CL.out w1 O1.out G1.out)) | (go_at_call 91; (with_reducible refine C1.out.mono ?_); rintro e1 w2 hl2; have L2' := hid hl2; clear hl2; obtain rfl := L2'.out.1))
  go_returns
  exact ⟨rfl,_,HH.out.out HI.out HR.out rfl O1.out G1.out L2'.out⟩
set_option maxHeartbeats 2000000 in
theorem drop_no (h : Obs base x c r m D w) {id : Int} (hwf : wf64 id) (hno : ∀ e ∈ flat r,e.1 ≠ id) :
    Calls Tryz.prog 52 #[x.ptr,.int .i64 id] w fun e w' => e = .returned (.bool false) ∧ w' = w := by
  have hk := look_places h.map hwf (h.full.miss hno)
  have c1 := h.at'.map
  have hx := h.lt
  have HS : ∃ r,m = .map r := by
    rcases h.map with ⟨q,_⟩ | ⟨b,q,_⟩
    · exact ⟨_,q⟩
    · exact ⟨_,q⟩
  clear h hno
  obtain ⟨q,rfl⟩ := HS
  go_enter Tryz.func52,Tryz.ntmps52
  go_wp2
  go_returns
  exact ⟨rfl,rfl⟩
end
end Ob
end Go.Proofs.YtocicffmajbecaaGreatDoor
namespace Go.Proofs.YtocicffmajbecaaGreatDoor
open Go.RowKit
namespace Ob
open Go.Maps (Tidy IsMap Keyed)
section
variable {w w' : World} {x : Site} {i : Nat} {c : Nat → Int} {f l : Nat → Value} {m a n : Value}
theorem OAt.ext (h : OAt w x c f l m) (k : Ext w w') : OAt w' x c f l m := h.same (k.below.block x.b h.lt)
theorem Seg.ext {L : List Wt} (h : Seg w x i a L n) (k : Ext w w') : Seg w' x i a L n := h.keep fun e he => k.below.block e.2 (h.lt e he)
theorem node_new {w1 : World} (hs : w1.heap.size = w.heap.size) (id : Int) (a : Value) : NAt (w1.alloc (.cells #[.int .i64 id,objV x i,a,nilV] 153 (0,0))) x i a (id,w.heap.size) nilV := by
  unfold NAt
  rw [← hs]
  exact heap_alloc_new w1 _
theorem in_more {L : List Wt} {e : Wt} (h : Mvp (In x L) (In x L) w w') (he : w.heap.size ≤ e.2) : Mvp (In x L) (In x (L ++ [e])) w w' :=
  ⟨h.os,h.tape,h.output,h.size,h.block,fun k hk => by
    rcases hk with rfl | ⟨p,hp,rfl⟩
    · exact .inl (.inl rfl)
    · rcases List.mem_append.1 hp with q | q
      · exact .inl (.inr ⟨p,q,rfl⟩)
      · rw [List.mem_singleton.1 q]; exact .inr he⟩
theorem size_set (w : World) (a : Addr) (u : Value) : (w.setCell a u).heap.size = w.heap.size := by simp [World.setCell]
def Joined (x : Site) (i : Nat) (c : Nat → Int) (f l : Nat → Value) (m : Value) (L : List Wt) (e : Wt) (w : World) (v : Ending) (w' : World) : Prop :=
  v = .returned (ptrV e.2) ∧ OAt w' x c (upd f i (headOr (L ++ [e]) nilV)) (upd l i (ptrV e.2)) m ∧ Seg w' x i nilV (L ++ [e]) nilV ∧ Mvp (In x L) (In x (L ++ [e])) w w'
set_option maxRecDepth 100000 in
set_option maxHeartbeats 2000000 in
theorem join_any (h : OAt w x c f l m) (hi : i < 4) {L : List Wt} (hs : Seg w x i nilV L nilV) (hd : (L.map (·.2)).Nodup) (hf : f i = headOr L nilV) (hl : l i = lastOr nilV L) (id : Int) :
    Calls Tryz.prog 93 #[objV x i,.int .i64 id] w (Joined x i c f l m L (id,w.heap.size) w) := by
  have hx := h.lt
  obtain ⟨-,c1,c2⟩ := h.cell hi
  have f1 := h.free (x.d + i * 3 + 1)
  have f2 := h.free (x.d + i * 3 + 2)
  rw [hl] at c2
  have H := hid h
  have HS := hid hs
  have HI := hid hi
  have HF := hid hf
  have HL := hid hl
  clear h hf hl hi
  rcases snoc_cases L with rfl | ⟨K,p,rfl⟩
  · simp only [lastOr] at c2
    clear hs hd
    go_enter Tryz.func93,Tryz.ntmps93
    go_wp2
    go_returns
    have X := Ext.alloc (Ext.refl ((w.setCell ⟨x.b,x.d + i * 3 + 1,none⟩ (ptrV w.heap.size)).setCell ⟨x.b,x.d + i * 3 + 2,none⟩ (ptrV w.heap.size))) (.cells #[.int .i64 id,objV x i,nilV,nilV] 153 (0,0))
    refine ⟨rfl,(OAt.setL (OAt.setF H.out HI.out _) HI.out _).ext X,⟨node_new (by rw [size_set,size_set]) _ _,trivial⟩,in_more ?_ (Nat.le_refl _)⟩
    exact (((Mvp.refl (In x []) w).set (g := x.b) (.inl rfl) (x.d + i * 3 + 1) (ptrV w.heap.size)).set (g := x.b) (.inl rfl) (x.d + i * 3 + 2) (ptrV w.heap.size)).ext X
  · rw [lastOr_snoc] at c2
    have hp : NAt w x i (lastOr nilV K) p nilV := (Seg.append.1 hs).2.1
    obtain ⟨-,-,-,p3⟩ := hp.cells
    have pf := hp.free 3
    have hpl := hp.lt
    have hpx := hp.far H.out
    have hxp : x.b ≠ p.2 := fun k => hpx k.symm
    have HK : Hid (∀ e ∈ K,e.2 ≠ p.2) := fun e he k => by
      rw [List.map_append,List.nodup_append] at hd
      exact hd.2.2 e.2 (List.mem_map_of_mem he) p.2 (by simp) k
    clear hs hd hp
    go_enter Tryz.func93,Tryz.ntmps93
    go_wp2
    go_returns
    have X := Ext.alloc (Ext.refl ((w.setCell ⟨p.2,3,none⟩ (ptrV w.heap.size)).setCell ⟨x.b,x.d + i * 3 + 2,none⟩ (ptrV w.heap.size))) (.cells #[.int .i64 id,objV x i,ptrV p.2,nilV] 153 (0,0))
    refine ⟨rfl,?_,?_,in_more ?_ (Nat.le_refl _)⟩
    · have := (OAt.setL (oat_far (j := 3) (u := ptrV w.heap.size) H.out hxp) HI.out (ptrV w.heap.size)).ext X
      rw [upd_eq (by rw [HF.out,headOr_append,headOr_append,headOr_append]; rfl)]
      exact this
    · rw [Seg.append]
      refine ⟨(seg_far (seg_setN HS.out HK.out (ptrV w.heap.size)) (HS.out.far H.out)).ext X,?_⟩
      rw [lastOr_snoc]
      exact ⟨node_new (by rw [size_set,size_set]) _ _,trivial⟩
    · exact (((Mvp.refl (In x (K ++ [p])) w).set (g := p.2) (.inr ⟨p,by simp,rfl⟩) 3 (ptrV w.heap.size)).set (g := x.b) (.inl rfl) (x.d + i * 3 + 2) (ptrV w.heap.size)).ext X
end
end Ob
end Go.Proofs.YtocicffmajbecaaGreatDoor
namespace Go.Proofs.YtocicffmajbecaaGreatDoor
open Go.RowKit
namespace Ob
open Go.Maps (Tidy IsMap Keyed)
theorem oper_mapUpdate {o : Oper} {a : Act} {w : World} {K : Act → World → Prop} {Q : Exit → Act → World → Prop} (m x v : Operand) (hop : o.op = Op.mapUpdate 82 m x v)
    {b : Nat} {D : DataW Value} (hown : OM w b D) (hn : Maps.size D < maxLen) (k : Int) (d : Value) (hm : a.eval m = .map (some b)) (hx : a.eval x = .int .i64 k) (hv : a.eval v = d) (hk : (Lit.int .i64 k).wf = true)
    (hK : ∀ w',OM w' b (D.put (key k) (.held d)) → w.grownBy w' (some b) → K (a.put o.dst undef) w') : Oper.wp Tryz.prog o a w K Q := by
  obtain ⟨w',hrun,r1,r2⟩ := World.ownsMap.update hown law Tryz.underlying82 hn (Go.Maps.keyOf_int_mk Tryz.underlying3 hk) (val := d) rfl
  unfold Oper.wp
  simp [execOp,hop,hm,hx,hv,hrun,Result.andThen]
  exact hK w' (tight r1) r2
section
variable {base : Nat} {x : Site} {c : Nat → Int} {r : Nat → List Wt} {m : Value} {D : DataW Value} {w w' w3 w4 : World}
theorem row_nodup {α : Type} {g : Wt → α} (h : ((flat r).map g).Nodup) {i : Nat} (hi : i < 4) : ((r i).map g).Nodup := by
  simp only [flat,List.map_append,List.nodup_append] at h
  obtain ⟨a0,⟨a1,⟨a2,a3,_⟩,_⟩,_⟩ := h
  rcases four hi with rfl | rfl | rfl | rfl <;> assumption
theorem rows_apart {α : Type} {g : Wt → α} (hR : ((flat r).map g).Nodup) {i j : Nat} (hi : i < 4) (hj : j < 4) (hji : j ≠ i) {p f : Wt} (hp : p ∈ r i) (hf : f ∈ r j) : g p ≠ g f := by
  simp only [flat,List.map_append,List.nodup_append,List.mem_append,List.mem_map] at hR
  obtain ⟨-,⟨-,⟨-,-,h23⟩,h1⟩,h0⟩ := hR
  rcases four hi with rfl | rfl | rfl | rfl <;> rcases four hj with rfl | rfl | rfl | rfl
  all_goals first
    | exact absurd rfl hji
    | exact h0 _ ⟨p,hp,rfl⟩ _ (.inl ⟨f,hf,rfl⟩)
    | exact h0 _ ⟨p,hp,rfl⟩ _ (.inr (.inl ⟨f,hf,rfl⟩))
    | exact h0 _ ⟨p,hp,rfl⟩ _ (.inr (.inr ⟨f,hf,rfl⟩))
    | exact fun q => h0 _ ⟨f,hf,rfl⟩ _ (.inl ⟨p,hp,rfl⟩) q.symm
    | exact fun q => h0 _ ⟨f,hf,rfl⟩ _ (.inr (.inl ⟨p,hp,rfl⟩)) q.symm
    | exact fun q => h0 _ ⟨f,hf,rfl⟩ _ (.inr (.inr ⟨p,hp,rfl⟩)) q.symm
    | exact h1 _ ⟨p,hp,rfl⟩ _ (.inl ⟨f,hf,rfl⟩)
    | exact h1 _ ⟨p,hp,rfl⟩ _ (.inr ⟨f,hf,rfl⟩)
    | exact fun q => h1 _ ⟨f,hf,rfl⟩ _ (.inl ⟨p,hp,rfl⟩) q.symm
    | exact fun q => h1 _ ⟨f,hf,rfl⟩ _ (.inr ⟨p,hp,rfl⟩) q.symm
    | exact h23 _ ⟨p,hp,rfl⟩ _ ⟨f,hf,rfl⟩
    | exact fun q => h23 _ ⟨f,hf,rfl⟩ _ ⟨p,hp,rfl⟩ q.symm
theorem Obs.notMap (h : Obs base x c r m D w) {i : Nat} (hi : i < 4) {b : Nat} (hm : m = .map (some b)) : ¬ In x (r i) b := fun q => by
  obtain ⟨b1,b2,b3,b4⟩ := h.mapFar hm
  rcases q with q | ⟨p,q1,q2⟩
  · exact b1 q
  · exact b4 p (mem_flat.2 ⟨i,hi,q1⟩) q2
theorem Obs.into (h : Obs base x c r m D w) {i : Nat} (hi : i < 4) {id : Int} (hwf : wf64 id) (hno : ∀ e ∈ flat r,e.1 ≠ id) {b : Nat} (hm : m = .map (some b)) {v : Ending} (hb : base ≤ w.heap.size)
    (hj : Joined x i c (fun i => headOr (r i) nilV) (fun i => lastOr nilV (r i)) m (r i) (id,w.heap.size) w v w3) (ho : OM w4 b (D.put (key id) (.held (ptrV w.heap.size)))) (hg : w3.grownBy w4 (some b)) :
    Obs base x c (upd r i (r i ++ [(id,w.heap.size)])) m (D.put (key id) (.held (ptrV w.heap.size))) w4 ∧ Mvp (Own x m r) (Own x m (upd r i (r i ++ [(id,w.heap.size)]))) w w4 := by
  obtain ⟨-,h1,h2,h3⟩ := hj
  have hp := flat_in (r := r) hi ((id,w.heap.size) : Wt)
  obtain ⟨b1,b2,b3,b4⟩ := h.mapFar hm
  have hT : Tidy D := by
    rcases h.map with ⟨q,_⟩ | ⟨b',q,_,q3⟩
    · rw [q] at hm; cases hm
    · exact World.ownsMap.tidy q3 law
  have hF := (h.full.put hT hno w.heap.size).perm hp.symm
  have hnew : ∀ e ∈ flat r,e.2 ≠ w.heap.size := fun e he => by have := (h.node he).1; omega
  have hk : ∀ k,k < w.heap.size → ¬ In x (r i) k → k ≠ b → w4.heap[k]? = w.heap[k]? := fun k hk hI hkb => by
    rw [hg.block k (Nat.lt_of_lt_of_le hk h3.size) fun q => hkb (Option.some.inj q)]
    exact h3.block k hk hI
  have hx3 : x.b < w3.heap.size := h1.lt
  have hOA : OAt w4 x c (upd (fun i => headOr (r i) nilV) i (headOr (r i ++ [(id,w.heap.size)]) nilV)) (upd (fun i => lastOr nilV (r i)) i (ptrV w.heap.size)) m := h1.same (hg.block x.b hx3 fun q => b1 (Option.some.inj q).symm)
  refine ⟨⟨?_,fun j hj => ?_,?_,?_,fun f hf => ?_,fun f hf => ?_,.inr ⟨b,hm,b3,ho⟩,hF,h.bx,h.cb⟩,?_⟩
  · have e1 := upd_comp (fun L => headOr L nilV) r i (r i ++ [(id,w.heap.size)])
    have e2 := upd_comp (fun L => lastOr nilV L) r i (r i ++ [(id,w.heap.size)])
    rw [e1,e2,lastOr_snoc]
    exact hOA
  · by_cases hji : j = i
    · subst hji
      rw [upd_same]
      refine h2.keep fun f hf => ?_
      have hlt := h2.lt f hf
      refine hg.block f.2 hlt fun q => ?_
      have q := Option.some.inj q
      rcases List.mem_append.1 hf with hf | hf
      · exact b4 f (mem_flat.2 ⟨j,hj,hf⟩) q
      · rw [List.mem_singleton.1 hf] at q
        simp only at q
        omega
    · rw [upd_other hji]
      refine (h.seg j hj).keep fun f hf => ?_
      have hf' := mem_flat.2 ⟨j,hj,hf⟩
      refine hk f.2 (h.node hf').1 (fun q => ?_) (b4 f hf')
      rcases q with q | ⟨p,q1,q2⟩
      · exact (h.node hf').2 q
      · exact rows_apart h.apart hi hj hji q1 hf q2
  · refine ((hp.map (·.2)).nodup_iff).2 ?_
    rw [List.map_cons,List.nodup_cons]
    refine ⟨fun q => ?_,h.apart⟩
    obtain ⟨e,he,q⟩ := List.mem_map.1 q
    exact hnew e he q
  · refine ((hp.map (·.1)).nodup_iff).2 ?_
    rw [List.map_cons,List.nodup_cons]
    refine ⟨fun q => ?_,h.ids⟩
    obtain ⟨e,he,q⟩ := List.mem_map.1 q
    exact hno e he q
  · rcases List.mem_cons.1 (hp.mem_iff.1 hf) with rfl | hf
    · exact hwf
    · exact h.wf f hf
  · rcases List.mem_cons.1 (hp.mem_iff.1 hf) with rfl | hf
    · exact hb
    · exact h.low f hf
  · refine ⟨hg.os.trans h3.os,hg.tape.trans h3.tape,hg.output.trans h3.output,Nat.le_trans h3.size hg.size,fun k hk' hA => hk k hk' (fun q => hA ?_) fun q => hA (.inr (.inl (by rw [hm,q]))),fun k hk' => ?_⟩
    · rcases q with q | ⟨p,q1,q2⟩
      · exact .inl q
      · exact .inr (.inr ⟨p,mem_flat.2 ⟨i,hi,q1⟩,q2⟩)
    · rcases hk' with q | q | ⟨f,hf,q⟩
      · exact .inl (.inl q)
      · exact .inl (.inr (.inl q))
      · rcases List.mem_cons.1 (hp.mem_iff.1 hf) with rfl | hf
        · exact .inr (by rw [← q]; exact Nat.le_refl _)
        · exact .inl (.inr (.inr ⟨f,hf,q⟩))
theorem Obs.made (h : Obs base x c r (.map none) D w) (hb : base ≤ w.heap.size) : Obs base x c r (.map (some w.heap.size)) D ((w.setCell ⟨x.b,x.d + 12,none⟩ (.map (some w.heap.size))).alloc (.map #[] 0)) ∧
    Mvp (Own x (.map none) r) (Own x (.map (some w.heap.size)) r) w ((w.setCell ⟨x.b,x.d + 12,none⟩ (.map (some w.heap.size))).alloc (.map #[] 0)) := by
  have X := Ext.alloc (Ext.refl (w.setCell ⟨x.b,x.d + 12,none⟩ (.map (some w.heap.size)))) (.map #[] 0)
  obtain rfl : D = .map [] := by
    rcases h.map with ⟨_,q⟩ | ⟨b,q,_⟩
    · exact q
    · cases q
  refine ⟨⟨(h.at'.setM _).ext X,fun i hi => (seg_far (h.seg i hi) fun e he => (h.node (mem_flat.2 ⟨i,hi,he⟩)).2).ext X,h.apart,h.ids,h.wf,h.low,.inr ⟨w.heap.size,rfl,hb,?_⟩,h.full,h.bx,h.cb⟩,?_⟩
  · have := World.ownsMap_made (H := Value) (w.setCell ⟨x.b,x.d + 12,none⟩ (.map (some w.heap.size))) Tryz.prog 3 same
    rw [size_set] at this
    exact tight this
  · have m1 := ((Mvp.refl (Own x (.map none) r) w).set (g := x.b) (.inl rfl) (x.d + 12) (.map (some w.heap.size))).ext X
    refine ⟨m1.os,m1.tape,m1.output,m1.size,m1.block,fun k hk => ?_⟩
    rcases hk with q | q | q
    · exact .inl (.inl q)
    · injection q with q
      injection q with q
      exact .inr (by omega)
    · exact .inl (.inr (.inr q))
set_option maxHeartbeats 2000000 in
theorem wait_form (w : World) {o : Int} (h : o < 0 ∨ 4 ≤ o) (id : Int) : Calls Tryz.prog 61 #[x.ptr,.int .i64 id,.int .i64 o] w fun e w' => e = .returned (.tuple #[.bool false,errV 10]) ∧ w' = w := by
  have CF := hid (find_out w (x := x) h)
  clear h
  rw [errV_pos (by decide)]
  go_enter Tryz.func61,Tryz.ntmps61
  go_wp2_with (go_at_call 92; (with_reducible refine CF.out.mono ?_); rintro e w2 ⟨rfl,hw2⟩; rw [hw2]; clear hw2; clear w2)
  go_returns
  exact ⟨rfl,rfl⟩
set_option maxHeartbeats 2000000 in
theorem wait_clash (h : Obs base x c r m D w) {i : Nat} (hi : i < 4) {e : Wt} (he : e ∈ flat r) : Calls Tryz.prog 61 #[x.ptr,.int .i64 e.1,.int .i64 i] w fun v w' => v = .returned (.tuple #[.bool false,errV 20]) ∧ w' = w := by
  have CF := hid (find_in w h.at' hi)
  have hk := look_places h.map (h.wf e he) (h.full.here e he).2
  have c1 := h.at'.map
  have hx := h.lt
  obtain ⟨q,rfl⟩ : ∃ r,m = .map r := by
    rcases h.map with ⟨q,_⟩ | ⟨b,q,_⟩
    · exact ⟨_,q⟩
    · exact ⟨_,q⟩
  clear h he
  rw [errV_pos (by decide)]
  go_enter Tryz.func61,Tryz.ntmps61
  go_wp2_with (go_at_call 92; (with_reducible refine CF.out.mono ?_); rintro e w2 ⟨rfl,hw2⟩; rw [hw2]; clear hw2; clear w2)
  go_returns
  exact ⟨rfl,rfl⟩
set_option maxHeartbeats 2000000 in
theorem wait_on (h : Obs base x c r m D w) {i : Nat} (hi : i < 4) {id : Int} (hwf : wf64 id) (hno : ∀ e ∈ flat r,e.1 ≠ id) (hc : 0 < c i) :
    Calls Tryz.prog 61 #[x.ptr,.int .i64 id,.int .i64 i] w fun v w' => v = .returned (.tuple #[.bool true,.nilIface]) ∧ Obs base x (upd c i (c i - 1)) r m D w' ∧ Mvp (Own x m r) (Own x m r) w w' := by
  have CF := hid (find_in w h.at' hi)
  have hk := look_places h.map hwf (h.full.miss hno)
  have c1 := h.at'.map
  obtain ⟨c0,-,-⟩ := h.at'.cell hi
  have f0 := h.at'.free (x.d + i * 3)
  have hx := h.lt
  have hcb := h.cb i hi
  have HH := hid h
  have HI := hid hi
  have HC := hid hcb
  obtain ⟨q,rfl⟩ : ∃ r,m = .map r := by
    rcases h.map with ⟨q,_⟩ | ⟨b,q,_⟩
    · exact ⟨_,q⟩
    · exact ⟨_,q⟩
  have hwr : IntKind.i64.wrap (c i - 1) = c i - 1 := IntWalk.i64_in _ (by omega)
  have HC0 := hid hc
  clear h hno hcb hi
  go_enter Tryz.func61,Tryz.ntmps61
  go_wp2_with (go_at_call 92; (with_reducible refine CF.out.mono ?_); rintro e w2 ⟨rfl,hw2⟩; rw [hw2]; clear hw2; clear w2)
  go_returns
  exact ⟨rfl,HH.out.setC HI.out (by have := HC.out; have := HC0.out; omega),(Mvp.refl _ w).set (g := x.b) (.inl rfl) _ _⟩
end
end Ob
end Go.Proofs.YtocicffmajbecaaGreatDoor
namespace Go.Proofs.YtocicffmajbecaaGreatDoor
open Go.RowKit
set_option linter.unusedSimpArgs false
namespace Ob
open Go.Maps (Tidy IsMap Keyed)
section
variable {base : Nat} {x : Site} {c : Nat → Int} {r : Nat → List Wt} {m : Value} {D : DataW Value} {w w' w3 w4 : World}
def Waited (base : Nat) (x : Site) (c : Nat → Int) (r : Nat → List Wt) (m : Value) (i : Nat) (id : Int) (w : World) (v : Ending) (w' : World) : Prop :=
  v = .returned (.tuple #[.bool false,.nilIface]) ∧ ∃ b m' D',Obs base x c (upd r i (r i ++ [(id,b)])) m' D' w' ∧ Mvp (Own x m r) (Own x m' (upd r i (r i ++ [(id,b)]))) w w'
set_option maxRecDepth 100000 in
set_option maxHeartbeats 4000000 in
theorem wait_wait (h : Obs base x c r m D w) {i : Nat} (hi : i < 4) {id : Int} (hwf : wf64 id) (hno : ∀ e ∈ flat r,e.1 ≠ id) (hc : c i = 0) (hl : (flat r).length ≤ 1000000) (hb : base ≤ w.heap.size) :
    Calls Tryz.prog 61 #[x.ptr,.int .i64 id,.int .i64 i] w (Waited base x c r m i id w) := by
  have CF := hid (find_in w h.at' hi)
  have hk := look_places h.map hwf (h.full.miss hno)
  have c1 := h.at'.map
  obtain ⟨c0,-,-⟩ := h.at'.cell hi
  rw [hc] at c0
  have f1 := h.at'.free (x.d + 12)
  have hx := h.lt
  have HH := hid h
  have HI := hid hi
  have HW := hid hwf
  have HNO := hid hno
  have HL := hid hl
  have HB := hid hb
  have hmm := @run_makeMap Tryz.prog
  have qT : ∀ (w : World) (r : Option Nat),(binOp .eql 82 (.map r) (.map none)).run Tryz.prog w = .ok (.bool r.isNone) w := fun w r => run_eql_map_nil w _ _ _ r Tryz.underlying82
  clear h hno hi hl hc hb
  rcases HH.out.map with ⟨rfl,rfl⟩ | ⟨b,rfl,-,-⟩
  · go_enter Tryz.func61,Tryz.ntmps61
    go_wp2_with (go_at_call 92; (with_reducible refine CF.out.mono ?_); rintro e w2 ⟨rfl,hw2⟩; rw [hw2]; clear hw2; clear w2)
    have T2 := hid (HH.out.made HB.out).1
    have M2 := hid (HH.out.made HB.out).2
    have HS2 : Hid (base ≤ ((w.setCell ⟨x.b,x.d + 12,none⟩ (.map (some w.heap.size))).alloc (.map #[] 0)).heap.size) := Nat.le_trans HB.out M2.out.size
    generalize (w.setCell ⟨x.b,x.d + 12,none⟩ (.map (some w.heap.size))).alloc (.map #[] 0) = w2 at *
    generalize w.heap.size = b at *
    obtain ⟨D',hD'⟩ : ∃ D',D' = DataW.map (H := Value) [] := ⟨_,rfl⟩
    rw [← hD'] at T2
    clear hD'
    have X2 : Ext w2 w2.drew := Ext.drew (Ext.refl _)
    have T3 := hid (T2.out.ext X2)
    have CJ := hid (join_any T3.out.at' HI.out (T3.out.seg i HI.out) (row_nodup T3.out.apart HI.out) rfl rfl id)
    have c1 := T3.out.at'.map
    have E2 : Hid (w2.drew.heap.size = w2.heap.size) := rfl
    refine wp_region_T 8 1 (fun u => u.cell? ⟨x.b,x.d + 12,none⟩ = some (.map (some b))) (by kernel_rfl) (by kernel_rfl) ?_
    have HSS : w2.drew.cell? ⟨x.b,x.d + 12,none⟩ = some (.map (some b)) := c1
    generalize w2.drew = z at *
    clear c0 f1 hx hmm qT hk
    refine wpT_tk 0 HSS ?_; (try simp only [nrm])
    refine wpT_tk 1 HSS ?_; (try simp only [nrm])
    refine wpT_tk 2 HSS ?_; (try simp only [nrm])
    refine wpT_tk 3 HSS ?_; (try simp only [nrm])
    refine wpT_tk 4 HSS ?_; (try simp only [nrm])
    refine wpT_tk 5 HSS ?_; (try simp only [nrm])
    refine wpT_tk 6 HSS ?_; (try simp only [nrm])
    refine wpT_on 7 (fun K' hK => ?_)
    go_simp
    (with_reducible refine CJ.out.mono ?_)
    rintro e w3 hj
    obtain rfl := hj.1
    have HJ := hid hj
    have hs3 := hj.2.1.map
    clear hj HSS c1
    have HSS : w3.cell? ⟨x.b,x.d + 12,none⟩ = some (.map (some b)) := hs3
    refine hK.out _ _ HSS ?_
    clear hK K'
    (try simp only [nrm])
    have O3 : OM w3 b D' := by
      rcases T3.out.map with ⟨q,_⟩ | ⟨b',q,_,q3⟩
      · cases q
      · cases q
        exact q3.of_block (HJ.out.2.2.2.block b (T3.out.mapFar rfl).2.1 (T3.out.notMap HI.out rfl))
    refine wpT_done (by kernel_rfl) ?_
    refine wpAny_on 8 (fun K' hK => ?_)
    refine oper_mapUpdate (.tmp 50) (.tmp 51) (.tmp 54) rfl O3 (by rw [T3.out.full.size]; have := HL.out; unfold maxLen; omega) id (ptrV z.heap.size) rfl rfl rfl HW.out.lit ?_
    intro w4 o4 g4
    refine hK.out _ _ ?_
    clear hK K'
    refine wpAny_done (by kernel_rfl) ?_ _
    have FIN := hid (T3.out.into HI.out HW.out HNO.out rfl (by rw [E2.out]; exact HS2.out) HJ.out o4 g4)
    clear O3 o4 g4 HSS hs3
    simp only [Act.put,List.getElem_toArray,List.getElem_cons_zero,List.getElem_cons_succ]
    simp only [Exit.then]
    refine ‹∀ (a : Act) (w : World),Code.wp _ _ _ a w → _› _ _ ?_
    go_wp2
    go_returns
    exact ⟨rfl,_,_,_,FIN.out.1,(M2.out.ext X2).trans FIN.out.2⟩
  · have T2 := hid HH.out
    have M2 := hid (Mvp.refl (Own x (.map (some b)) r) w)
    go_enter Tryz.func61,Tryz.ntmps61
    go_wp2_with (go_at_call 92; (with_reducible refine CF.out.mono ?_); rintro e w2 ⟨rfl,hw2⟩; rw [hw2]; clear hw2; clear w2)
    obtain ⟨D',hD'⟩ : ∃ D',D' = D := ⟨_,rfl⟩
    rw [← hD'] at T2
    clear hD'
    have HS2 : Hid (base ≤ w.heap.size) := Nat.le_trans HB.out M2.out.size
    have X2 : Ext w w.drew := Ext.drew (Ext.refl _)
    have T3 := hid (T2.out.ext X2)
    have CJ := hid (join_any T3.out.at' HI.out (T3.out.seg i HI.out) (row_nodup T3.out.apart HI.out) rfl rfl id)
    have c1 := T3.out.at'.map
    have E2 : Hid (w.drew.heap.size = w.heap.size) := rfl
    refine wp_region_T 8 1 (fun u => u.cell? ⟨x.b,x.d + 12,none⟩ = some (.map (some b))) (by kernel_rfl) (by kernel_rfl) ?_
    have HSS : w.drew.cell? ⟨x.b,x.d + 12,none⟩ = some (.map (some b)) := c1
    generalize w.drew = z at *
    clear c0 f1 hx hmm qT hk
    refine wpT_tk 0 HSS ?_; (try simp only [nrm])
    refine wpT_tk 1 HSS ?_; (try simp only [nrm])
    refine wpT_tk 2 HSS ?_; (try simp only [nrm])
    refine wpT_tk 3 HSS ?_; (try simp only [nrm])
    refine wpT_tk 4 HSS ?_; (try simp only [nrm])
    refine wpT_tk 5 HSS ?_; (try simp only [nrm])
    refine wpT_tk 6 HSS ?_; (try simp only [nrm])
    refine wpT_on 7 (fun K' hK => ?_)
    go_simp
    (with_reducible refine CJ.out.mono ?_)
    rintro e w3 hj
    obtain rfl := hj.1
    have HJ := hid hj
    have hs3 := hj.2.1.map
    clear hj HSS c1
    have HSS : w3.cell? ⟨x.b,x.d + 12,none⟩ = some (.map (some b)) := hs3
    refine hK.out _ _ HSS ?_
    clear hK K'
    (try simp only [nrm])
    have O3 : OM w3 b D' := by
      rcases T3.out.map with ⟨q,_⟩ | ⟨b',q,_,q3⟩
      · cases q
      · cases q
        exact q3.of_block (HJ.out.2.2.2.block b (T3.out.mapFar rfl).2.1 (T3.out.notMap HI.out rfl))
    refine wpT_done (by kernel_rfl) ?_
    refine wpAny_on 8 (fun K' hK => ?_)
    refine oper_mapUpdate (.tmp 50) (.tmp 51) (.tmp 54) rfl O3 (by rw [T3.out.full.size]; have := HL.out; unfold maxLen; omega) id (ptrV z.heap.size) rfl rfl rfl HW.out.lit ?_
    intro w4 o4 g4
    refine hK.out _ _ ?_
    clear hK K'
    refine wpAny_done (by kernel_rfl) ?_ _
    have FIN := hid (T3.out.into HI.out HW.out HNO.out rfl (by rw [E2.out]; exact HS2.out) HJ.out o4 g4)
    clear O3 o4 g4 HSS hs3
    simp only [Act.put,List.getElem_toArray,List.getElem_cons_zero,List.getElem_cons_succ]
    simp only [Exit.then]
    refine ‹∀ (a : Act) (w : World),Code.wp _ _ _ a w → _› _ _ ?_
    go_wp2
    go_returns
    exact ⟨rfl,_,_,_,FIN.out.1,(M2.out.ext X2).trans FIN.out.2⟩
end
end Ob
end Go.Proofs.YtocicffmajbecaaGreatDoor
namespace Go.Proofs.YtocicffmajbecaaGreatDoor
open Go.RowKit
set_option linter.unusedSimpArgs false
namespace Ob
open Go.Maps (Tidy IsMap Keyed)
section
variable {base : Nat} {x : Site} {c : Nat → Int} {r : Nat → List Wt} {m : Value} {D : DataW Value} {w w' w3 w4 : World}
set_option maxHeartbeats 2000000 in
theorem signal_form (w : World) {o : Int} (h : o < 0 ∨ 4 ≤ o) : Calls Tryz.prog 63 #[x.ptr,.int .i64 o] w fun e w' => e = .returned (.tuple #[.int .i64 0,.bool false,errV 10]) ∧ w' = w := by
  have CF := hid (find_out w (x := x) h)
  clear h
  rw [errV_pos (by decide)]
  go_enter Tryz.func63,Tryz.ntmps63
  go_wp2_with (go_at_call 92; (with_reducible refine CF.out.mono ?_); rintro e w2 ⟨rfl,hw2⟩; rw [hw2]; clear hw2; clear w2)
  go_returns
  exact ⟨rfl,rfl⟩
set_option maxHeartbeats 2000000 in
theorem signal_none (h : Obs base x c r m D w) {i : Nat} (hi : i < 4) (hr : r i = []) :
    Calls Tryz.prog 63 #[x.ptr,.int .i64 i] w fun v w' => v = .returned (.tuple #[.int .i64 0,.bool false,.nilIface]) ∧ Obs base x (upd c i (min (c i + 1) 255)) r m D w' ∧ Mvp (Own x m r) (Own x m r) w w' := by
  have CF := hid (find_in w h.at' hi)
  obtain ⟨c0,c1,-⟩ := h.at'.cell hi
  simp only [hr,headOr] at c1
  have f0 := h.at'.free (x.d + i * 3)
  have hx := h.lt
  have hcb := h.cb i hi
  have HH := hid h
  have HI := hid hi
  have HC := hid hcb
  have hwr : IntKind.i64.wrap (c i + 1) = c i + 1 := IntWalk.i64_in _ (by omega)
  clear h hcb hi hr
  by_cases hlt : c i < 255
  · have hm1 : min (c i + 1) 255 = c i + 1 := by omega
    go_enter Tryz.func63,Tryz.ntmps63
    go_wp2_with (go_at_call 92; (with_reducible refine CF.out.mono ?_); rintro e w2 ⟨rfl,hw2⟩; rw [hw2]; clear hw2; clear w2)
    go_returns
    all_goals first
      | exact ⟨rfl,HH.out.setC HI.out (by have := HC.out; omega),(Mvp.refl _ w).set (g := x.b) (.inl rfl) _ _⟩
      | (rw [hm1]; exact ⟨rfl,HH.out.setC HI.out (by have := HC.out; omega),(Mvp.refl _ w).set (g := x.b) (.inl rfl) _ _⟩)
  · have hce : c i = 255 := by have := HC.out; omega
    have hm1 : min (c i + 1) 255 = 255 := by omega
    rw [hce] at c0
    go_enter Tryz.func63,Tryz.ntmps63
    go_wp2_with (go_at_call 92; (with_reducible refine CF.out.mono ?_); rintro e w2 ⟨rfl,hw2⟩; rw [hw2]; clear hw2; clear w2)
    go_returns
    rw [hm1]
    exact ⟨rfl,HH.out.setC HI.out (by omega),(Mvp.refl _ w).set (g := x.b) (.inl rfl) _ _⟩
def Signaled (base : Nat) (x : Site) (c : Nat → Int) (r : Nat → List Wt) (m : Value) (i : Nat) (id : Int) (M : List Wt) (w : World) (e : Ending) (w' : World) : Prop :=
  e = .returned (.tuple #[.int .i64 id,.bool true,.nilIface]) ∧ ∃ D',Obs base x c (upd r i M) m D' w' ∧ Mvp (Own x m r) (Own x m (upd r i M)) w w'
set_option maxHeartbeats 2000000 in
theorem signal_one (h : Obs base x c r m D w) {i : Nat} (hi : i < 4) {e : Wt} {L : List Wt} (hr : r i = e :: L) :
    Calls Tryz.prog 63 #[x.ptr,.int .i64 i] w (Signaled base x c r m i e.1 L w) := by
  have CF := hid (find_in w h.at' hi)
  have CD := hid (drop_yes h hi (L1 := []) (e := e) (L2 := L) hr)
  obtain ⟨-,c1,-⟩ := h.at'.cell hi
  simp only [hr,headOr] at c1
  have hs := h.seg i hi
  rw [hr] at hs
  obtain ⟨e0,-,-,-⟩ := hs.1.cells
  have hx := h.lt
  have hel := hs.1.lt
  clear h hi hr hs
  go_enter Tryz.func63,Tryz.ntmps63
  go_wp2_with (first | (go_at_call 92; (with_reducible refine CF.out.mono ?_); rintro e w2 ⟨rfl,hw2⟩; rw [hw2]; clear hw2; clear w2) | (go_at_call 52; (with_reducible refine CD.out.mono ?_); rintro v w2 hd; obtain rfl := hd.1; have HD := hid hd.2; clear hd))
  go_returns
  exact ⟨rfl,HD.out⟩
end
end Ob
end Go.Proofs.YtocicffmajbecaaGreatDoor
namespace Go.Proofs.YtocicffmajbecaaGreatDoor
open Go.RowKit
namespace Ob
theorem flat_same {α : Type} {W V : Nat → List α} (h : ∀ j,j < 4 → W j = V j) : flat W = flat V := by
  unfold flat
  rw [h 0 (by omega),h 1 (by omega),h 2 (by omega),h 3 (by omega)]
theorem others_same {id : Int} {W V : Nat → List Int} {j : Nat} (h : W j = V j) : others id W j = others id V j := by
  unfold others
  rw [h]
theorem others_none {id : Int} {W : Nat → List Int} (h : waits id W = false) : ∀ j,j < 4 → others id W j = W j := fun j hj => by
  unfold others
  refine List.filter_eq_self.2 fun x hx => ?_
  have : x ≠ id := fun e => by
    subst e
    have h1 : waits x W = true := by unfold waits; rw [List.contains_iff_mem]; exact mem_flat.2 ⟨j,hj,hx⟩
    rw [h1] at h; cases h
  simpa using this
structure WAns where
  on : Bool
  err : Nat
  c : Nat → Int
  W : Nat → List Int
def waitR (id o : Int) (c : Nat → Int) (W : Nat → List Int) : WAns :=
  if o < 0 ∨ 4 ≤ o then ⟨false,10,c,W⟩ else if waits id W = true then ⟨false,20,c,W⟩ else if 0 < c o.toNat then ⟨true,0,upd c o.toNat (c o.toNat - 1),W⟩ else ⟨false,0,c,upd W o.toNat (W o.toNat ++ [id])⟩
structure SAns where
  id : Int
  met : Bool
  err : Nat
  c : Nat → Int
  W : Nat → List Int
def sigR (o : Int) (c : Nat → Int) (W : Nat → List Int) : SAns :=
  if o < 0 ∨ 4 ≤ o then ⟨0,false,10,c,W⟩ else match W o.toNat with
    | [] => ⟨0,false,0,upd c o.toNat (min (c o.toNat + 1) 255),W⟩
    | id :: rest => ⟨id,true,0,c,upd W o.toNat rest⟩
def St (w0 : World) (x : Site) (c : Nat → Int) (W : Nat → List Int) (A : Nat → Prop) (w : World) : Prop :=
  Ext w0 w ∧ ∃ r m D,Obs w0.heap.size x c r m D w ∧ (∀ j,j < 4 → ids r j = W j) ∧ A = Own x m r
section
variable {w0 w w' : World} {x : Site} {c : Nat → Int} {W : Nat → List Int} {A B C : Nat → Prop}
theorem St.xt (h : St w0 x c W A w) : Ext w0 w := h.1
theorem St.own (h : St w0 x c W A w) : ∀ k,A k → w0.heap.size ≤ k ∧ k < w.heap.size := by
  obtain ⟨_,r,m,D,h1,_,rfl⟩ := h
  exact h1.own
theorem St.cb (h : St w0 x c W A w) : ∀ i,i < 4 → 0 ≤ c i ∧ c i ≤ 255 := by
  obtain ⟨_,r,m,D,h1,_,rfl⟩ := h
  exact h1.cb
theorem St.nodup (h : St w0 x c W A w) : (flat W).Nodup := by
  obtain ⟨_,r,m,D,h1,h2,rfl⟩ := h
  rw [← flat_same h2,flat_ids]
  exact h1.ids
theorem St.ext (h : St w0 x c W A w) (k : Ext w w') : St w0 x c W A w' := by
  obtain ⟨h0,r,m,D,h1,h2,h3⟩ := h
  exact ⟨h0.trans k,r,m,D,h1.ext k,h2,h3⟩
theorem St.told {V : Nat → List Int} (h : St w0 x c W A w) (k : ∀ j,j < 4 → W j = V j) : St w0 x c V A w := by
  obtain ⟨h0,r,m,D,h1,h2,h3⟩ := h
  exact ⟨h0,r,m,D,h1,fun j hj => (h2 j hj).trans (k j hj),h3⟩
theorem St.counts {d : Nat → Int} (h : St w0 x c W A w) (k : ∀ j,j < 4 → d j = c j) : St w0 x d W A w := by
  obtain ⟨h0,r,m,D,h1,h2,h3⟩ := h
  exact ⟨h0,r,m,D,⟨h1.at'.told k (fun _ _ => rfl) (fun _ _ => rfl),h1.seg,h1.apart,h1.ids,h1.wf,h1.low,h1.map,h1.full,h1.bx,fun j hj => by rw [k j hj]; exact h1.cb j hj⟩,h2,h3⟩
theorem St.keep (h : St w0 x c W C w) (k : Mvp A B w w') (hAC : ∀ i,A i → ¬ C i) (hA : ∀ i,A i → w0.heap.size ≤ i) : St w0 x c W C w' ∧ ∀ i,B i → ¬ C i := by
  have hlt := fun i hi => (h.own i hi).2
  obtain ⟨h0,r,m,D,h1,h2,rfl⟩ := h
  refine ⟨⟨k.xt h0 hA,r,m,D,h1.keep fun b hb => k.block b (hlt b hb) fun e => hAC b e hb,h2,rfl⟩,fun i hB hC => ?_⟩
  rcases k.own i hB with h4 | h4
  · exact hAC i h4 hC
  · have := hlt i hC
    omega
theorem St.of {r r' : Nat → List Wt} {m m' : Value} {c' : Nat → Int} {D D' : DataW Value} (h0 : Ext w0 w) (h : Obs w0.heap.size x c r m D w) (k : Obs w0.heap.size x c' r' m' D' w') (hm : Mvp (Own x m r) (Own x m' r') w w') (hW : ∀ j,j < 4 → ids r' j = W j) :
    ∃ B,St w0 x c' W B w' ∧ Mvp (Own x m r) B w w' := ⟨_,⟨hm.xt h0 fun i hi => (h.own i hi).1,r',m',D',k,hW,rfl⟩,hm⟩
theorem st_wait (h : St w0 x c W A w) (id o : Int) (hw : wf64 id) (hl : (flat W).length ≤ 1000000) :
    Calls Tryz.prog 61 #[x.ptr,.int .i64 id,.int .i64 o] w fun e w' => e = .returned (.tuple #[.bool (waitR id o c W).on,errV (waitR id o c W).err]) ∧ ∃ B,St w0 x (waitR id o c W).c (waitR id o c W).W B w' ∧ Mvp A B w w' := by
  by_cases ho : o < 0 ∨ 4 ≤ o
  · unfold waitR
    rw [if_pos ho]
    refine (wait_form (x := x) w ho id).mono fun e w' ⟨a,b⟩ => ⟨a,A,?_,?_⟩
    · rw [b]; exact h
    · rw [b]; exact Mvp.refl _ _
  obtain ⟨i,hi,rfl⟩ : ∃ i : Nat,i < 4 ∧ o = i := ⟨o.toNat,by omega,by omega⟩
  have ei : ((i : Nat) : Int).toNat = i := by omega
  unfold waitR
  rw [if_neg ho,ei]
  have hn := h
  obtain ⟨h0,r,m,D,h1,h2,rfl⟩ := hn
  have hfl : flat W = flat (ids r) := (flat_same h2).symm
  have hws : waits id W = waits id (ids r) := by unfold waits; rw [hfl]
  by_cases hq : waits id W = true
  · rw [if_pos hq]
    rw [hws] at hq
    obtain ⟨e,he,rfl⟩ := waits_iff.1 hq
    refine (wait_clash h1 hi he).mono fun v w' ⟨a,b⟩ => ⟨a,Own x m r,?_,?_⟩
    · rw [b]; exact h
    · rw [b]; exact Mvp.refl _ _
  rw [if_neg hq]
  have hno := waits_not (r := r) (id := id) (by rw [← hws]; simpa using hq)
  by_cases hc : 0 < c i
  · rw [if_pos hc]
    exact (wait_on h1 hi hw hno hc).mono fun v w' ⟨a,b,d⟩ => ⟨a,St.of h0 h1 b d h2⟩
  · rw [if_neg hc]
    have := h1.cb i hi
    have hlen : (flat r).length ≤ 1000000 := by rw [hfl,flat_ids,List.length_map] at hl; exact hl
    refine (wait_wait h1 hi hw hno (by omega) hlen h0.size).mono fun v w' ⟨a,b,m',D',k1,k2⟩ => ⟨a,St.of h0 h1 k1 k2 fun j hj => ?_⟩
    rw [ids_upd,List.map_append]
    show _ = upd W i (W i ++ [id]) j
    by_cases hji : j = i
    · subst hji
      rw [upd_same,upd_same,← h2 j hj]
      rfl
    · rw [upd_other hji,upd_other hji]
      exact h2 j hj
theorem st_signal (h : St w0 x c W A w) (o : Int) :
    Calls Tryz.prog 63 #[x.ptr,.int .i64 o] w fun e w' => e = .returned (.tuple #[.int .i64 (sigR o c W).id,.bool (sigR o c W).met,errV (sigR o c W).err]) ∧ ∃ B,St w0 x (sigR o c W).c (sigR o c W).W B w' ∧ Mvp A B w w' := by
  by_cases ho : o < 0 ∨ 4 ≤ o
  · unfold sigR
    rw [if_pos ho]
    refine (signal_form (x := x) w ho).mono fun e w' ⟨a,b⟩ => ⟨a,A,?_,?_⟩
    · rw [b]; exact h
    · rw [b]; exact Mvp.refl _ _
  obtain ⟨i,hi,rfl⟩ : ∃ i : Nat,i < 4 ∧ o = i := ⟨o.toNat,by omega,by omega⟩
  have ei : ((i : Nat) : Int).toNat = i := by omega
  unfold sigR
  rw [if_neg ho,ei]
  have hn := h
  obtain ⟨h0,r,m,D,h1,h2,rfl⟩ := hn
  have e := h2 i hi
  unfold ids at e
  cases hr : r i with
  | nil =>
    rw [hr] at e
    rw [← e]
    exact (signal_none h1 hi hr).mono fun v w' ⟨a,b,d⟩ => ⟨a,St.of h0 h1 b d h2⟩
  | cons q L =>
    rw [hr] at e
    rw [← e]
    refine (signal_one h1 hi hr).mono fun v w' ⟨a,D',k1,k2⟩ => ⟨a,St.of h0 h1 k1 k2 fun j hj => ?_⟩
    rw [ids_upd]
    show _ = upd W i (L.map (·.1)) j
    by_cases hji : j = i
    · subst hji
      rw [upd_same,upd_same]
    · rw [upd_other hji,upd_other hji]
      exact h2 j hj
theorem st_drop (h : St w0 x c W A w) (id : Int) (hw : wf64 id) :
    Calls Tryz.prog 52 #[x.ptr,.int .i64 id] w fun e w' => e = .returned (.bool (waits id W)) ∧ ∃ B,St w0 x c (others id W) B w' ∧ Mvp A B w w' := by
  have hn := h
  obtain ⟨h0,r,m,D,h1,h2,rfl⟩ := hn
  have hfl : flat W = flat (ids r) := (flat_same h2).symm
  have hws : waits id W = waits id (ids r) := by unfold waits; rw [hfl]
  cases hq : waits id W with
  | true =>
    rw [hws] at hq
    obtain ⟨e,he,rfl⟩ := waits_iff.1 hq
    obtain ⟨i,hi,he⟩ := mem_flat.1 he
    obtain ⟨L1,L2,hr⟩ := List.append_of_mem he
    refine (drop_yes h1 hi hr).mono fun v w' ⟨a,D',k1,k2⟩ => ⟨a,St.of h0 h1 k1 k2 fun j hj => ?_⟩
    rw [others_out h1.ids hi hr j hj]
    exact others_same (h2 j hj)
  | false =>
    have hno := waits_not (r := r) (id := id) (by rw [← hws]; exact hq)
    refine (drop_no h1 hw hno).mono fun v w' ⟨a,b⟩ => ⟨a,Own x m r,?_,?_⟩
    · rw [b]; exact h.told fun j hj => (others_none hq j hj).symm
    · rw [b]; exact Mvp.refl _ _
end
end Ob
end Go.Proofs.YtocicffmajbecaaGreatDoor
