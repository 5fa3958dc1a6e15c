/- Scripts with longer rows, laid as the statements' own: what the calls come to. -/
import Derived.Test.YtbllibgddiiboaaScKn
import Derived.Laws.MakeOwn
import Derived.Laws.OwnMore
namespace Go.Proofs.Ytbllibgddiiboaa
open Go.RowKit

theorem made_get {z : Array Value} {n m j : Nat} (hz : z.size = m) (hm : 0 < m) (hj : j < n) : (madeCells z n)[j]? = z[j % m]? := by
  subst hz
  have h : j % z.size < z.size := Nat.mod_lt _ hm
  simp [madeCells, hj, getElem!_pos z (j % z.size) h, Array.getElem?_eq_getElem h]
/-- A row of n actions, of n arrivals that are all zero. -/
def axnsO (n : Nat) : Obj := .cells (madeCells #[.int .i64 0, .int .i64 0, .int .i64 0] (n * 3)) 38 (0, 0)
def arvsO (n : Nat) : Obj := .cells (madeCells #[.int .i64 0, .int .i64 0] (n * 2)) 40 (0, 0)
theorem infoAxn : (Try.prog.info? 38).map (fun i => (i.zero, i.size, i.bytes)) = some (some (.agg #[.int .i64 0, .int .i64 0, .int .i64 0]), 3, 24) := by kernel_rfl
theorem infoArv : (Try.prog.info? 40).map (fun i => (i.zero, i.size, i.bytes)) = some (some (.agg #[.int .i64 0, .int .i64 0]), 2, 16) := by kernel_rfl
theorem mkAxns (n : Int) (m : Nat) (hn : n = m) (hm : m ≤ 1000) (w : World) : (Instr.makeSlice 35 (.int .i64 n) (.int .i64 n)).run Try.prog w = .ok (.slice (some ⟨w.heap.size, 0, none⟩) m m) (w.alloc (axnsO m)) := by
  subst hn
  obtain ⟨i0, hi, hz0, hz1, hz2⟩ := info_parts infoAxn
  have := run_make (P := Try.prog) w 35 38 i0 _ Try.underlying35 hi hz0 .i64 .i64 m m (by omega) (Int.le_refl _) (by rw [hz2]; omega) (by omega)
  rw [this, hz1]
  have e : (Value.agg #[.int .i64 0, .int .i64 0, .int .i64 0]).cells = #[.int .i64 0, .int .i64 0, .int .i64 0] := by simp [Value.cells]
  rw [e]; rfl
theorem mkArvs (n : Int) (m : Nat) (hn : n = m) (hm : m ≤ 1000) (w : World) : (Instr.makeSlice 36 (.int .i64 n) (.int .i64 n)).run Try.prog w = .ok (.slice (some ⟨w.heap.size, 0, none⟩) m m) (w.alloc (arvsO m)) := by
  subst hn
  obtain ⟨i0, hi, hz0, hz1, hz2⟩ := info_parts infoArv
  have := run_make (P := Try.prog) w 36 40 i0 _ Try.underlying36 hi hz0 .i64 .i64 m m (by omega) (Int.le_refl _) (by rw [hz2]; omega) (by omega)
  rw [this, hz1]
  have e : (Value.agg #[.int .i64 0, .int .i64 0]).cells = #[.int .i64 0, .int .i64 0] := by simp [Value.cells]
  rw [e]; rfl
theorem axns_made {w : World} {g m : Nat} (hm : m ≤ 1000) (h : w.heap[g]? = some (axnsO m)) : AxnsV w (.slice (some ⟨g, 0, none⟩) m m) (List.replicate m ⟨0, 0, 0⟩) := by
  refine ⟨some ⟨g, 0, none⟩, m, by simp, by simp, by unfold maxLen; omega, fun _ => ⟨g, 0, rfl, fun i y hi => ?_⟩⟩
  rw [List.getElem?_replicate] at hi
  split at hi
  · rename_i him
    obtain rfl := Option.some.inj hi
    have hc : ∀ j, j < 3 → w.cell? ⟨g, 0 + i * 3 + j, none⟩ = some (.int .i64 0) := fun j hj => by
      rw [blk_cell h, made_get (m := 3) rfl (by omega) (by omega)]
      have : (0 + i * 3 + j) % 3 = j := by omega
      rw [this]
      match j, hj with
      | 0, _ => rfl
      | 1, _ => rfl
      | 2, _ => rfl
    exact ⟨hc 0 (by omega), hc 1 (by omega), hc 2 (by omega)⟩
  · cases hi
theorem arvs_made {w : World} {g m : Nat} (hm : m ≤ 1000) (h : w.heap[g]? = some (arvsO m)) : ArvsV w (.slice (some ⟨g, 0, none⟩) m m) (List.replicate m ⟨0, 0⟩) := by
  refine ⟨some ⟨g, 0, none⟩, m, by simp, by simp, by unfold maxLen; omega, fun _ => ⟨g, 0, rfl, fun i y hi => ?_⟩⟩
  rw [List.getElem?_replicate] at hi
  split at hi
  · rename_i him
    obtain rfl := Option.some.inj hi
    have hc : ∀ j, j < 2 → w.cell? ⟨g, 0 + i * 2 + j, none⟩ = some (.int .i64 0) := fun j hj => by
      rw [blk_cell h, made_get (m := 2) rfl (by omega) (by omega)]
      have : (0 + i * 2 + j) % 2 = j := by omega
      rw [this]
      match j, hj with
      | 0, _ => rfl
      | 1, _ => rfl
    exact ⟨hc 0 (by omega), hc 1 (by omega)⟩
  · cases hi

theorem gBytes {N S V : Nat} {h : Int} {s : Scr} (hs : isScr s = 0) (hc : CnfIn s.conf) (hl : (allBytes s).length ≤ 40000) {w : World} (k : SV N S V h s w) : Calls Try.prog 9 #[helpV N S V h] w (Yields w (.string (str (allBytes s)))) := by
  have := scrBytes_yes w s _ _ _ _ k.v hs hc (by omega)
  rwa [k.val] at this
theorem gBytesNo {N S V : Nat} {h : Int} {s : Scr} (hs : isScr s ≠ 0) {w : World} (k : SV N S V h s w) : Calls Try.prog 9 #[helpV N S V h] w (Yields w (.string { data := #[] })) := by
  have := scrBytes_no w s _ _ _ _ k.v hs
  rw [k.val] at this
  exact this
theorem gRead {s : Scr} (hs : isScr s = 0) (hc : CnfIn s.conf) (hl : (allBytes s).length ≤ 40000) (w : World) : Calls Try.prog 10 #[.string (str (allBytes s))] w (ReadGood s w) := by
  have := read_ok w (scrOk_bytes hs hc hl)
  rwa [scr_back' hs hc] at this
theorem gSame {N S V : Nat} {h : Int} {s : Scr} {w : World} {pp pd ps pa : Value} (k : SV N S V h s w) (k' : ScrV w s pp pd ps pa) : Calls Try.prog 11 #[helpV N S V h, scrV s pp pd ps pa] w (Yields w (.bool true)) := by
  have := scrSame_to (sameS_self s) w _ _ _ _ _ _ _ _ k.v k'
  rw [k.val] at this
  exact this
/-- What is read of such a script's bytes. -/
def GRead (s : Scr) (h : Int) (w : World) (e : Ending) (w' : World) : Prop := ∃ pp cp pd cd ps cs pa ca, e = .returned (.tuple #[.agg #[.int .i64 8, .int .i64 2, .slice pp 2 cp, .slice pd 4 cd, .int .i64 h, .slice ps 4 cs, .slice pa 4 ca], .nilIface]) ∧
  ScrV w' s (.slice pp 2 cp) (.slice pd 4 cd) (.slice ps 4 cs) (.slice pa 4 ca) ∧ Ext w w'
theorem gRead' {s : Scr} {h : Int} (hs : isScr s = 0) (hc : CnfIn s.conf) (hl : (allBytes s).length ≤ 40000) (hb : s.conf = baseC) (hh : s.horizon = h) (l1 : s.streams.length = 4) (l2 : s.arrivals.length = 4) (w : World) : Calls Try.prog 10 #[.string (str (allBytes s))] w (GRead s h w) := by
  refine (gRead hs hc hl w).mono ?_
  rintro e w' ⟨pp, cp, pd, cd, ps, cs, pa, ca, he, hv, hx⟩
  have e1 : s.conf.plans.length = 2 := by rw [hb]; rfl
  have e2 : s.conf.doms.length = 4 := by rw [hb]; rfl
  have e3 : s.conf.frame = 8 := by rw [hb]; rfl
  have e4 : s.conf.epoch = 2 := by rw [hb]; rfl
  unfold scrV at he
  rw [e1, e2, e3, e4, hh, l1, l2] at he
  rw [e1, e2, l1, l2] at hv
  exact ⟨pp, cp, pd, cd, ps, cs, pa, ca, he, hv, hx⟩
theorem gSame' {N S V cp cd cs ca : Nat} {h : Int} {s : Scr} {pp pd ps pa : Option Addr} {w : World} (k : SV N S V h s w) (k' : ScrV w s (.slice pp 2 cp) (.slice pd 4 cd) (.slice ps 4 cs) (.slice pa 4 ca)) :
    Calls Try.prog 11 #[helpV N S V h, .agg #[.int .i64 8, .int .i64 2, .slice pp 2 cp, .slice pd 4 cd, .int .i64 h, .slice ps 4 cs, .slice pa 4 ca]] w (Yields w (.bool true)) := by
  have := gSame k k'
  unfold scrV at this
  rw [k.f, k.e, k.h] at this
  exact this
theorem g_len {s : Scr} (hs : isScr s = 0) (hb : s.conf = baseC) : (allBytes s).length ≤ 40000 :=
  allBytes_length hs (by rw [hb]; exact base_in) (fun d hd r hr => by rw [hb] at hd; have := (isConf_held baseC_is (cats_ok (by decide))).route d hd r hr; revert d r; decide)
end Go.Proofs.Ytbllibgddiiboaa
