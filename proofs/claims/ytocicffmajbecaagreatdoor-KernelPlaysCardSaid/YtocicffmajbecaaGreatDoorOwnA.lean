/- Rows of steps (four numbers of package kernel) that came in. -/
import Derived.Test.YtocicffmajbecaaGreatDoorOwn2
import Derived.Test.YtocicffmajbecaaGreatDoorInts
namespace Go.Proofs.YtocicffmajbecaaGreatDoor
open Go.ChangeShapes Go.WideShapes Go.ChangeAt Go.RowKit Go.Joins Go.Deep
structure Stq where
  what : Int
  id : Int
  a : Int
  b : Int
def StqAt (w : World) (b off : Nat) (s : Stq) : Prop := w.cell? ⟨b,off,none⟩ = some (.int .i64 s.what) ∧ w.cell? ⟨b,off + 1,none⟩ = some (.int .i64 s.id) ∧ w.cell? ⟨b,off + 2,none⟩ = some (.int .i64 s.a) ∧ w.cell? ⟨b,off + 3,none⟩ = some (.int .i64 s.b) ∧ wf64 s.id ∧ wf64 s.a
abbrev Stqs (w : World) (v : Value) (l : List Stq) : Prop := Slc 4 StqAt w v l
namespace Own
theorem cellsStq : Tryz.prog.cellsOf 29 = 4 := by kernel_rfl
set_option maxRecDepth 100000 in
theorem open_stqs {H : Type} {enc : TypeId × Value → H} {W : World} {base : Nat} {spare : Nat → Bool} {held : Bool} {a0 : Option Addr} {len cap : Nat} {d : DataW H} {p : List MemPlace}
    (h : DataW.Trod enc Tryz.prog W base spare held 22 (.slice a0 len cap) d p) : ∃ l,Stqs W (.slice a0 len cap) l := by
  obtain ⟨fuel,hf⟩ := h
  simp only [Value.cells] at hf
  obtain ⟨v',l,he,hl⟩ := Slc.of_trod (E := StqAt) Tryz.underlying22 cellsStq (by omega) (fun cs b off m x hlen hat ht => by
    obtain ⟨xs,n,_,_,_,hx,hg⟩ := DataW.trod_struct Tryz.underlying29 ht
    match cs,hlen with
    | [c0,c1,c2,c3],_ =>
      have g0 := hg 0 _ rfl
      have g1 := hg 1 _ rfl
      have g2 := hg 2 _ rfl
      have g3 := hg 3 _ rfl
      simp at hx
      rw [List.getElem?_eq_getElem (by omega)] at g0 g1 g2 g3
      have o0 : Tryz.prog.cellsOf 3 = 1 := by kernel_rfl
      simp [o0] at g0
      simp [o0] at g1
      simp [o0] at g2
      simp [o0] at g3
      obtain ⟨a,e0,_,wa⟩ := DataW.trod_int Tryz.underlying3 g0
      obtain ⟨b',e1,_,wb⟩ := DataW.trod_int Tryz.underlying3 g1
      obtain ⟨c,e2,_,wc⟩ := DataW.trod_int Tryz.underlying3 g2
      obtain ⟨d,e3,_,_⟩ := DataW.trod_int Tryz.underlying3 g3
      simp at e0 e1 e2 e3
      subst e0 e1 e2 e3
      exact ⟨⟨a,b',c,d⟩,by first | (have h9 := hat 0 (by omega); exact h9) | simpa using hat 0 (by omega),by first | (have h9 := hat 1 (by omega); exact h9) | simpa using hat 1 (by omega),by first | (have h9 := hat 2 (by omega); exact h9) | simpa using hat 2 (by omega),by first | (have h9 := hat 3 (by omega); exact h9) | simpa using hat 3 (by omega),bounds_i64 wb,bounds_i64 wc⟩) hf
  simp at he
  exact ⟨l,he ▸ hl⟩
end Own
end Go.Proofs.YtocicffmajbecaaGreatDoor
