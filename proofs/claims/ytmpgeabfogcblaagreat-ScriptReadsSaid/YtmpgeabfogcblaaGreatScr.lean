/- A script in memory: what it is, how one that came in is read. -/
import Derived.Test.YtmpgeabfogcblaaGreatConf
import Derived.Test.YtmpgeabfogcblaaGreatMath4
namespace Go.Proofs.YtmpgeabfogcblaaGreat
open Go.ChangeShapes Go.WideShapes Go.ChangeAt Go.RowKit Go.Joins Go.Deep

def AxnAt (w : World) (b off : Nat) (x : Axn) : Prop := w.cell? ⟨b, off, none⟩ = some (.int .i64 x.op) ∧ w.cell? ⟨b, off + 1, none⟩ = some (.int .i64 x.a) ∧ w.cell? ⟨b, off + 2, none⟩ = some (.int .i64 x.b)
abbrev AxnsV (w : World) (v : Value) (l : List Axn) : Prop := Slc 3 AxnAt w v l
def StreamAt (w : World) (b off : Nat) (l : List Axn) : Prop := ∃ v, w.cell? ⟨b, off, none⟩ = some v ∧ AxnsV w v l
abbrev StreamsV (w : World) (v : Value) (l : List (List Axn)) : Prop := Slc 1 StreamAt w v l
def ArvAt (w : World) (b off : Nat) (x : Arv) : Prop := w.cell? ⟨b, off, none⟩ = some (.int .i64 x.tick) ∧ w.cell? ⟨b, off + 1, none⟩ = some (.int .i64 x.obj)
abbrev ArvsV (w : World) (v : Value) (l : List Arv) : Prop := Slc 2 ArvAt w v l
def ArrAt (w : World) (b off : Nat) (l : List Arv) : Prop := ∃ v, w.cell? ⟨b, off, none⟩ = some v ∧ ArvsV w v l
abbrev ArrsV (w : World) (v : Value) (l : List (List Arv)) : Prop := Slc 1 ArrAt w v l
theorem AxnAt.ext {w w' : World} (h : Ext w w') {b off : Nat} {x : Axn} (k : AxnAt w b off x) : AxnAt w' b off x := ⟨h.cell k.1, h.cell k.2.1, h.cell k.2.2⟩
theorem AxnsV.ext {w w' : World} (h : Ext w w') {v : Value} {l : List Axn} (k : AxnsV w v l) : AxnsV w' v l := k.mono fun _ _ _ => AxnAt.ext h
theorem StreamAt.ext {w w' : World} (h : Ext w w') {b off : Nat} {l : List Axn} (k : StreamAt w b off l) : StreamAt w' b off l := by
  obtain ⟨v, hc, hn⟩ := k
  exact ⟨v, h.cell hc, hn.ext h⟩
theorem StreamsV.ext {w w' : World} (h : Ext w w') {v : Value} {l : List (List Axn)} (k : StreamsV w v l) : StreamsV w' v l := k.mono fun _ _ _ => StreamAt.ext h
theorem ArvAt.ext {w w' : World} (h : Ext w w') {b off : Nat} {x : Arv} (k : ArvAt w b off x) : ArvAt w' b off x := ⟨h.cell k.1, h.cell k.2⟩
theorem ArvsV.ext {w w' : World} (h : Ext w w') {v : Value} {l : List Arv} (k : ArvsV w v l) : ArvsV w' v l := k.mono fun _ _ _ => ArvAt.ext h
theorem ArrAt.ext {w w' : World} (h : Ext w w') {b off : Nat} {l : List Arv} (k : ArrAt w b off l) : ArrAt w' b off l := by
  obtain ⟨v, hc, hn⟩ := k
  exact ⟨v, h.cell hc, hn.ext h⟩
theorem ArrsV.ext {w w' : World} (h : Ext w w') {v : Value} {l : List (List Arv)} (k : ArrsV w v l) : ArrsV w' v l := k.mono fun _ _ _ => ArrAt.ext h

/-- A script's value: seven cells. -/
abbrev scrV (s : Scr) (pv dv sv av : Value) : Value := .agg #[.int .i64 s.conf.frame, .int .i64 s.conf.epoch, pv, dv, .int .i64 s.horizon, sv, av]
structure ScrV (w : World) (s : Scr) (pv dv sv av : Value) : Prop where
  conf : ConfV w s.conf pv dv
  streams : StreamsV w sv s.streams
  arrivals : ArrsV w av s.arrivals
theorem ScrV.ext {w w' : World} (h : Ext w w') {s : Scr} {pv dv sv av : Value} (x : ScrV w s pv dv sv av) : ScrV w' s pv dv sv av := ⟨x.conf.ext h, x.streams.ext h, x.arrivals.ext h⟩

namespace Own
theorem cellsAxn : Tryz.prog.cellsOf 43 = 3 := by kernel_rfl
theorem cellsArv : Tryz.prog.cellsOf 46 = 2 := by kernel_rfl
theorem cellsAxns : Tryz.prog.cellsOf 44 = 1 := by kernel_rfl
theorem cellsArvs : Tryz.prog.cellsOf 47 = 1 := by kernel_rfl
theorem cellsStreams : Tryz.prog.cellsOf 27 = 1 := by kernel_rfl
theorem cellsArrs : Tryz.prog.cellsOf 28 = 1 := by kernel_rfl
theorem cellsScript : Tryz.prog.cellsOf 30 = 7 := by kernel_rfl

section
variable {H : Type} {enc : TypeId × Value → H} {w : World} {base : Nat} {spare : Nat → Bool} {held : Bool} {fuel : Nat} {cs : List Value} {x : DataW H × List MemPlace}
set_option maxRecDepth 100000 in
theorem axns_of_trod (h : DataW.trod enc Tryz.prog w base spare held fuel 44 cs = some x) : ∃ v l, cs = [v] ∧ AxnsV w v l :=
  Slc.of_trod (E := AxnAt) Tryz.underlying44 cellsAxn (by omega) (fun cs b off m x hlen hat htr => by
    obtain ⟨y0, y1, y2, n, _, _, g0, g1, g2⟩ := trod_struct3 Tryz.underlying43 htr
    match cs, hlen with
    | [c0, c1, c2], _ =>
      simp [cellsInt] at g0 g1 g2
      obtain ⟨a0, e0, _⟩ := DataW.trod_int Tryz.underlying3 g0
      obtain ⟨a1, e1, _⟩ := DataW.trod_int Tryz.underlying3 g1
      obtain ⟨a2, e2, _⟩ := DataW.trod_int Tryz.underlying3 g2
      simp at e0 e1 e2
      subst e0 e1 e2
      exact ⟨⟨a0, a1, a2⟩, by simpa using hat 0 (by omega), by simpa using hat 1 (by omega), by simpa using hat 2 (by omega)⟩) h
theorem streams_of_trod (h : DataW.trod enc Tryz.prog w base spare held fuel 27 cs = some x) : ∃ v l, cs = [v] ∧ StreamsV w v l :=
  Slc.of_trod (E := StreamAt) Tryz.underlying27 cellsAxns (by omega) (fun cs b off m x hlen hat htr => by
    obtain ⟨v, l, rfl, hl⟩ := axns_of_trod htr
    exact ⟨l, v, by simpa using hat 0 (by omega), hl⟩) h
set_option maxRecDepth 100000 in
theorem arvs_of_trod (h : DataW.trod enc Tryz.prog w base spare held fuel 47 cs = some x) : ∃ v l, cs = [v] ∧ ArvsV w v l :=
  Slc.of_trod (E := ArvAt) Tryz.underlying47 cellsArv (by omega) (fun cs b off m x hlen hat htr => by
    obtain ⟨y0, y1, n, _, _, g0, g1⟩ := trod_struct2 Tryz.underlying46 htr
    match cs, hlen with
    | [c0, c1], _ =>
      simp [cellsInt] at g0 g1
      obtain ⟨a0, e0, _⟩ := DataW.trod_int Tryz.underlying3 g0
      obtain ⟨a1, e1, _⟩ := DataW.trod_int Tryz.underlying3 g1
      simp at e0 e1
      subst e0 e1
      exact ⟨⟨a0, a1⟩, by simpa using hat 0 (by omega), by simpa using hat 1 (by omega)⟩) h
theorem arrs_of_trod (h : DataW.trod enc Tryz.prog w base spare held fuel 28 cs = some x) : ∃ v l, cs = [v] ∧ ArrsV w v l :=
  Slc.of_trod (E := ArrAt) Tryz.underlying28 cellsArvs (by omega) (fun cs b off m x hlen hat htr => by
    obtain ⟨v, l, rfl, hl⟩ := arvs_of_trod htr
    exact ⟨l, v, by simpa using hat 0 (by omega), hl⟩) h
end
theorem array7 {α : Type} {cs : Array α} (h : cs.size = 7) : ∃ c0 c1 c2 c3 c4 c5 c6, cs = #[c0, c1, c2, c3, c4, c5, c6] := by
  obtain ⟨l⟩ := cs
  match l, h with
  | [c0, c1, c2, c3, c4, c5, c6], _ => exact ⟨c0, c1, c2, c3, c4, c5, c6, rfl⟩

set_option maxRecDepth 100000 in
theorem open_scr {H : Type} {enc : TypeId × Value → H} {W : World} {base b0 : Nat} {spare : Nat → Bool} {held : Bool} {r : Reach} {v : Value} {d : DataW H} {p : List MemPlace}
    (hv : Value.okWide Tryz.prog W r b0 30 v) (h : DataW.Trod enc Tryz.prog W base spare held 30 v d p) : ∃ s pv dv sv av, v = scrV s pv dv sv av ∧ ScrV W s pv dv sv av := by
  obtain ⟨cs, rfl, hsz⟩ := okWide_struct Tryz.underlying30 hv
  obtain ⟨c0, c1, c2, c3, c4, c5, c6, rfl⟩ := array7 (hsz.trans cellsScript)
  obtain ⟨fuel, hf⟩ := h
  obtain ⟨y0, y1, y2, y3, n, _, _, h0, h1, h2, h3⟩ := trod_struct4 Tryz.underlying30 hf
  simp [Value.cells, cellsConf, cellsInt, cellsStreams, cellsArrs] at h0 h1 h2 h3
  obtain ⟨z0, z1, z2, z3, m, _, _, g0, g1, g2, g3⟩ := trod_struct4 Tryz.underlying26 h0
  simp [cellsInt, cellsRows, cellsDomains] at g0 g1 g2 g3
  obtain ⟨a, e0, _, _⟩ := DataW.trod_int Tryz.underlying3 g0
  obtain ⟨b, e1, _, _⟩ := DataW.trod_int Tryz.underlying3 g1
  obtain ⟨pv, plans, e2, hp⟩ := rows_of_trod g2
  obtain ⟨dv, doms, e3, hd⟩ := doms_of_trod g3
  obtain ⟨t, e4, _, _⟩ := DataW.trod_int Tryz.underlying3 h1
  obtain ⟨sv, streams, e5, hs⟩ := streams_of_trod h2
  obtain ⟨av, arrivals, e6, ha⟩ := arrs_of_trod h3
  simp at e0 e1 e2 e3 e4 e5 e6
  subst e0 e1 e2 e3 e4 e5 e6
  exact ⟨⟨⟨a, b, plans, doms⟩, t, streams, arrivals⟩, _, _, _, _, rfl, ⟨hp, hd⟩, hs, ha⟩
end Own
end Go.Proofs.YtmpgeabfogcblaaGreat
