/- A configuration in memory: what it is, how one that came in is read. -/
import Derived.Test.YtbnjfahjbemleaaOwn2
import Derived.Test.YtbnjfahjbemleaaMath3
namespace Go.Proofs.Ytbnjfahjbemleaa
open Go.ChangeShapes Go.WideShapes Go.ChangeAt Go.RowKit Go.Joins Go.Deep

/-- A row of numbers in memory; a row of rows. -/
def RowAt (w : World) (b off : Nat) (r : List Int) : Prop := ∃ v, w.cell? ⟨b, off, none⟩ = some v ∧ Nums .i64 w v r
abbrev RowsV (w : World) (v : Value) (l : List (List Int)) : Prop := Slc 1 RowAt w v l
theorem RowAt.ext {w w' : World} (h : Ext w w') {b off : Nat} {r : List Int} (hl : RowAt w b off r) : RowAt w' b off r := by
  obtain ⟨v, hc, hn⟩ := hl
  exact ⟨v, h.cell hc, hn.ext h⟩
theorem RowsV.ext {w w' : World} (h : Ext w w') {v : Value} {l : List (List Int)} (hl : RowsV w v l) : RowsV w' v l := hl.mono fun _ _ _ => RowAt.ext h

/-- A domain in memory: ten cells. -/
structure DomC (w : World) (b off : Nat) (d : Dom) (vr ve : Value) : Prop where
  level : w.cell? ⟨b, off, none⟩ = some (.int .i64 d.level)
  cats : w.cell? ⟨b, off + 1, none⟩ = some (.int .u64 d.cats)
  routes : w.cell? ⟨b, off + 2, none⟩ = some vr
  release : w.cell? ⟨b, off + 3, none⟩ = some ve
  to : w.cell? ⟨b, off + 4, none⟩ = some (.int .i64 d.to)
  threads : w.cell? ⟨b, off + 5, none⟩ = some (.int .i64 d.threads)
  groups : w.cell? ⟨b, off + 6, none⟩ = some (.int .i64 d.groups)
  ring : w.cell? ⟨b, off + 7, none⟩ = some (.int .i64 d.ring)
  sends : w.cell? ⟨b, off + 8, none⟩ = some (.int .i64 d.sends)
  box : w.cell? ⟨b, off + 9, none⟩ = some (.int .i64 d.box)
def DomAt (w : World) (b off : Nat) (d : Dom) : Prop := ∃ vr ve, DomC w b off d vr ve ∧ RowsV w vr d.routes ∧ Nums .i64 w ve d.release ∧ 0 ≤ d.cats ∧ d.cats < 18446744073709551616
theorem DomC.ext {w w' : World} (h : Ext w w') {b off : Nat} {d : Dom} {vr ve : Value} (x : DomC w b off d vr ve) : DomC w' b off d vr ve :=
  ⟨h.cell x.level, h.cell x.cats, h.cell x.routes, h.cell x.release, h.cell x.to, h.cell x.threads, h.cell x.groups, h.cell x.ring, h.cell x.sends, h.cell x.box⟩
theorem DomAt.ext {w w' : World} (h : Ext w w') {b off : Nat} {d : Dom} (hl : DomAt w b off d) : DomAt w' b off d := by
  obtain ⟨vr, ve, hc, hr, he, hu⟩ := hl
  exact ⟨vr, ve, hc.ext h, hr.ext h, he.ext h, hu⟩
abbrev DomsV (w : World) (v : Value) (l : List Dom) : Prop := Slc 10 DomAt w v l
theorem DomsV.ext {w w' : World} (h : Ext w w') {v : Value} {l : List Dom} (hl : DomsV w v l) : DomsV w' v l := hl.mono fun _ _ _ => DomAt.ext h

/-- A configuration's value. -/
abbrev confV (c : Cnf) (pv dv : Value) : Value := .agg #[.int .i64 c.frame, .int .i64 c.epoch, pv, dv]
structure ConfV (w : World) (c : Cnf) (pv dv : Value) : Prop where
  plans : RowsV w pv c.plans
  doms : DomsV w dv c.doms
theorem ConfV.ext {w w' : World} (h : Ext w w') {c : Cnf} {pv dv : Value} (x : ConfV w c pv dv) : ConfV w' c pv dv := ⟨x.plans.ext h, x.doms.ext h⟩

namespace Own
theorem cellsInt : Try.prog.cellsOf 3 = 1 := by kernel_rfl
theorem cellsU64 : Try.prog.cellsOf 54 = 1 := by kernel_rfl
theorem cellsInts : Try.prog.cellsOf 34 = 1 := by kernel_rfl
theorem cellsRows : Try.prog.cellsOf 26 = 1 := by kernel_rfl
theorem cellsLabel : Try.prog.cellsOf 56 = 2 := by kernel_rfl
theorem cellsDomain : Try.prog.cellsOf 58 = 10 := by kernel_rfl
theorem cellsConf : Try.prog.cellsOf 29 = 4 := by kernel_rfl
theorem cellsDomains : Try.prog.cellsOf 27 = 1 := by kernel_rfl

section
variable {H : Type} {enc : TypeId × Value → H} {w : World} {base : Nat} {spare : Nat → Bool} {held : Bool} {fuel : Nat} {cs : List Value} {x : DataW H × List MemPlace}
theorem nums_of_trod (h : DataW.trod enc Try.prog w base spare held fuel 34 cs = some x) : ∃ v l, cs = [v] ∧ Nums .i64 w v l :=
  Slc.of_trod (E := NumAt .i64) Try.underlying34 cellsInt (by omega) (fun cs b off m x hlen hat htr => by
    match cs, hlen with
    | [c0], _ =>
      obtain ⟨a, e0, _, wa⟩ := DataW.trod_int Try.underlying3 htr
      simp at e0
      subst e0
      exact ⟨a, by simpa using hat 0 (by omega), wa⟩) h
theorem rows_of_trod (h : DataW.trod enc Try.prog w base spare held fuel 26 cs = some x) : ∃ v l, cs = [v] ∧ RowsV w v l :=
  Slc.of_trod (E := RowAt) Try.underlying26 cellsInts (by omega) (fun cs b off m x hlen hat htr => by
    obtain ⟨v, l, rfl, hl⟩ := nums_of_trod htr
    exact ⟨l, v, by simpa using hat 0 (by omega), hl⟩) h
set_option maxRecDepth 100000 in
theorem label_of_trod {c0 c1 : Value} (h : DataW.trod enc Try.prog w base spare held fuel 56 [c0, c1] = some x) : ∃ a b : Int, c0 = .int .i64 a ∧ c1 = .int .u64 b ∧ 0 ≤ b ∧ b < 18446744073709551616 := by
  obtain ⟨xs, n, _, _, _, hx, hg⟩ := DataW.trod_struct Try.underlying56 h
  have g0 := hg 0 _ rfl
  have g1 := hg 1 _ rfl
  simp at hx
  rw [List.getElem?_eq_getElem (by omega)] at g0 g1
  simp [cellsInt] at g0
  simp [cellsU64] at g1
  obtain ⟨a, e0, _, wa⟩ := DataW.trod_int Try.underlying3 g0
  obtain ⟨b, e1, _, wb⟩ := DataW.trod_int Try.underlying54 g1
  simp at e0 e1
  have := bounds_u64 wb
  exact ⟨a, b, e0, e1, by omega, by omega⟩
set_option maxRecDepth 100000 in
theorem doms_of_trod (h : DataW.trod enc Try.prog w base spare held fuel 27 cs = some x) : ∃ v l, cs = [v] ∧ DomsV w v l :=
  Slc.of_trod (E := DomAt) Try.underlying27 cellsDomain (by omega) (fun cs b off m x hlen hat htr => by
    obtain ⟨xs, n, _, _, _, hx, hg⟩ := DataW.trod_struct Try.underlying58 htr
    match cs, hlen with
    | [c0, c1, c2, c3, c4, c5, c6, c7, c8, c9], _ =>
      have g0 := hg 0 _ rfl
      have g1 := hg 1 _ rfl
      have g2 := hg 2 _ rfl
      have g3 := hg 3 _ rfl
      have g4 := hg 4 _ rfl
      have g5 := hg 5 _ rfl
      have g6 := hg 6 _ rfl
      have g7 := hg 7 _ rfl
      have g8 := hg 8 _ rfl
      simp at hx
      rw [List.getElem?_eq_getElem (by omega)] at g0 g1 g2 g3 g4 g5 g6 g7 g8
      simp [cellsLabel] at g0
      simp [cellsRows] at g1
      simp [cellsInts] at g2
      simp [cellsInt] at g3 g4 g5 g6 g7 g8
      obtain ⟨lv, ct, rfl, rfl, u1, u2⟩ := label_of_trod g0
      obtain ⟨vr, routes, er, hr⟩ := rows_of_trod g1
      obtain ⟨ve, release, ee, he⟩ := nums_of_trod g2
      obtain ⟨a3, e3, _⟩ := DataW.trod_int Try.underlying3 g3
      obtain ⟨a4, e4, _⟩ := DataW.trod_int Try.underlying3 g4
      obtain ⟨a5, e5, _⟩ := DataW.trod_int Try.underlying3 g5
      obtain ⟨a6, e6, _⟩ := DataW.trod_int Try.underlying3 g6
      obtain ⟨a7, e7, _⟩ := DataW.trod_int Try.underlying3 g7
      obtain ⟨a8, e8, _⟩ := DataW.trod_int Try.underlying3 g8
      simp at er ee e3 e4 e5 e6 e7 e8
      subst er ee e3 e4 e5 e6 e7 e8
      exact ⟨⟨lv, ct, routes, release, a3, a4, a5, a6, a7, a8⟩, _, _, ⟨by simpa using hat 0 (by omega), by simpa using hat 1 (by omega), by simpa using hat 2 (by omega), by simpa using hat 3 (by omega), by simpa using hat 4 (by omega), by simpa using hat 5 (by omega), by simpa using hat 6 (by omega), by simpa using hat 7 (by omega), by simpa using hat 8 (by omega), by simpa using hat 9 (by omega)⟩, hr, he, u1, u2⟩) h
end

set_option maxRecDepth 100000 in
theorem open_conf {H : Type} {enc : TypeId × Value → H} {W : World} {base b0 : Nat} {spare : Nat → Bool} {held : Bool} {r : Reach} {v : Value} {d : DataW H} {p : List MemPlace}
    (hv : Value.okWide Try.prog W r b0 29 v) (h : DataW.Trod enc Try.prog W base spare held 29 v d p) : ∃ c pv dv, v = confV c pv dv ∧ ConfV W c pv dv := by
  obtain ⟨v0, v1, v2, v3, y0, y1, y2, y3, n, rfl, _, _, h0, h1, h2, h3⟩ := open_agg4 Try.underlying29 (by kernel_rfl) cellsConf hv h
  obtain ⟨a, e0, _, _⟩ := DataW.trod_int Try.underlying3 h0
  obtain ⟨b, e1, _, _⟩ := DataW.trod_int Try.underlying3 h1
  obtain ⟨pv, plans, e2, hp⟩ := rows_of_trod h2
  obtain ⟨dv, doms, e3, hd⟩ := doms_of_trod h3
  simp at e0 e1 e2 e3
  subst e0 e1 e2 e3
  exact ⟨⟨a, b, plans, doms⟩, _, _, rfl, hp, hd⟩
end Own
end Go.Proofs.Ytbnjfahjbemleaa
