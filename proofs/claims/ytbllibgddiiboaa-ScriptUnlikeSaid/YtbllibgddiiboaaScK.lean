/- What the statements' own check of scripts comes to: its pieces. -/
import Derived.Test.YtbllibgddiiboaaScB
import Derived.Test.YtbllibgddiiboaaSr9
import Derived.Test.YtbllibgddiiboaaSb4
import Derived.Test.YtbllibgddiiboaaSc2
import Derived.Test.YtbllibgddiiboaaErr
import Derived.Test.YtbllibgddiiboaaMath4c
namespace Go.Proofs.Ytbllibgddiiboaa
open Go.RowKit

theorem read_ok (w : World) {l : List UInt8} (h : scrOk l = true) : Calls Try.prog 10 #[.string (str l)] w (ReadGood (scrR ⟨l, 0⟩).1 w) := by
  obtain ⟨h1, h2, h3, h4⟩ := progOk_iff.2 h
  have hs := progOk_same h
  obtain ⟨q, s, hq⟩ : ∃ q s, scrP ⟨⟨l, 0⟩, false⟩ = (q, s) := ⟨_, _, rfl⟩
  rw [hq] at h2 h3 h4 hs
  have hs' : q = (scrR ⟨l, 0⟩).1 := hs
  have h3' : s.r.s = [] := h3
  subst hs'
  exact read_good w l h1 _ s hq h2 (by rw [h3']; rfl) h4
theorem read_no (w : World) {l : List UInt8} (h : scrOk l = false) : Calls Try.prog 10 #[.string (str l)] w (ReadBad w) := by
  by_cases hl : l.length ≤ 40000
  · obtain ⟨q, s, hq⟩ : ∃ q s, scrP ⟨⟨l, 0⟩, false⟩ = (q, s) := ⟨_, _, rfl⟩
    refine read_bad w l hl q s hq ?_
    cases hw : s.wrong
    · by_cases hz : s.r.s.length = 0
      · refine .inr (.inr ⟨rfl, hz, fun hi => ?_⟩)
        have hp : progOk l := by
          unfold progOk
          rw [hq]
          exact ⟨hl, hw, List.eq_nil_of_length_eq_zero hz, hi⟩
        rw [progOk_iff.1 hp] at h
        cases h
      · exact .inr (.inl ⟨rfl, by omega⟩)
    · exact .inl rfl
  · exact (read_large w l (by omega)).mono fun e w' ⟨he, hx⟩ => ⟨12, by decide, he, hx⟩
theorem scrBytes_of (w : World) (s : Scr) (pv dv sv av : Value) (hc : ScrV w s pv dv sv av) (hi : isScr s = 0 → CnfIn s.conf) (hb : isScr s = 0 → (allBytes s).length ≤ 80000) :
    Calls Try.prog 9 #[scrV s pv dv sv av] w (Yields w (.string (str (scrBytes s)))) := by
  by_cases h : isScr s = 0
  · rw [scrBytes_ok h]; exact scrBytes_yes w s pv dv sv av hc h (hi h) (hb h)
  · rw [scrBytes_bad h]; exact scrBytes_no w s pv dv sv av hc h

/-! ### A script that lies as the statements' own does -/
structure SV (N S V : Nat) (h : Int) (s : Scr) (w : World) : Prop where
  v : ScrV w s (.slice (some ⟨N + 3, 0, none⟩) 2 2) (.slice (some ⟨N + 13, 0, none⟩) 4 4) (.slice (some ⟨S, 0, none⟩) 4 4) (.slice (some ⟨V, 0, none⟩) 4 4)
  f : s.conf.frame = 8
  e : s.conf.epoch = 2
  h : s.horizon = h
theorem SV.ext {N S V : Nat} {h : Int} {s : Scr} {w w' : World} (x : Ext w w') (k : SV N S V h s w) : SV N S V h s w' := ⟨k.v.ext x, k.f, k.e, k.h⟩
theorem SV.val {N S V : Nat} {h : Int} {s : Scr} {w : World} (k : SV N S V h s w) : scrV s (.slice (some ⟨N + 3, 0, none⟩) 2 2) (.slice (some ⟨N + 13, 0, none⟩) 4 4) (.slice (some ⟨S, 0, none⟩) 4 4) (.slice (some ⟨V, 0, none⟩) 4 4) = helpV N S V h := by
  unfold scrV helpV
  rw [k.f, k.e, k.h]
/-- The elements of a row of rows, each in its cell. -/
theorem HelpS.script {base N S V : Nat} {os : List RO} {ss vs : List Value} {w : World} (h : HelpS base N S V os ss vs w) {hz : Int} {c : Cnf} {st : List (List Axn)} {ar : List (List Arv)} (hc : confOf os 8 2 (.s 3 2) (.s 13 4) = some c)
    (l1 : st.length = 4) (l2 : ar.length = 4) (hs : ∀ (i : Nat) l, st[i]? = some l → ∃ v, ss[i]? = some v ∧ AxnsV w v l) (hv : ∀ (i : Nat) l, ar[i]? = some l → ∃ v, vs[i]? = some v ∧ ArvsV w v l) : SV N S V hz ⟨c, hz, st, ar⟩ w := by
  obtain ⟨hf, he, hcv⟩ := conf_lies h.lies (pv := .s 3 2) (dv := .s 13 4) (RV.wf_of rfl) (RV.wf_of rfl) hc
  refine ⟨⟨hcv, ?_, ?_⟩, hf, he, rfl⟩
  · refine ⟨some ⟨S, 0, none⟩, 4, by rw [l1], by rw [l1]; omega, by unfold maxLen; omega, fun _ => ⟨S, 0, rfl, fun i x hi => ?_⟩⟩
    obtain ⟨v, h1, h2⟩ := hs i x hi
    refine ⟨v, ?_, h2⟩
    rw [blk_cell h.sb]
    simpa using h1
  · refine ⟨some ⟨V, 0, none⟩, 4, by rw [l2], by rw [l2]; omega, by unfold maxLen; omega, fun _ => ⟨V, 0, rfl, fun i x hi => ?_⟩⟩
    obtain ⟨v, h1, h2⟩ := hv i x hi
    refine ⟨v, ?_, h2⟩
    rw [blk_cell h.vb]
    simpa using h1
theorem axns_nil (w : World) : AxnsV w (.slice none 0 0) [] := ⟨none, 0, rfl, by simp, by unfold maxLen; omega, fun h => by simp at h⟩
theorem arvs_nil (w : World) : ArvsV w (.slice none 0 0) [] := ⟨none, 0, rfl, by simp, by unfold maxLen; omega, fun h => by simp at h⟩
theorem axns_one {w : World} {g : Nat} {x : Axn} (h : w.heap[g]? = some (.cells #[.int .i64 x.op, .int .i64 x.a, .int .i64 x.b] 38 (0, 0))) : AxnsV w (.slice (some ⟨g, 0, none⟩) 1 1) [x] :=
  ⟨_, _, rfl, by simp, by unfold maxLen; omega, fun _ => ⟨g, 0, rfl, fun i y hi => by
    match i, hi with
    | 0, hi =>
      simp at hi; subst hi
      exact ⟨blk_cell h 0, blk_cell h 1, blk_cell h 2⟩⟩⟩
theorem arvs_one {w : World} {g : Nat} {x : Arv} (h : w.heap[g]? = some (.cells #[.int .i64 x.tick, .int .i64 x.obj] 40 (0, 0))) : ArvsV w (.slice (some ⟨g, 0, none⟩) 1 1) [x] :=
  ⟨_, _, rfl, by simp, by unfold maxLen; omega, fun _ => ⟨g, 0, rfl, fun i y hi => by
    match i, hi with
    | 0, hi =>
      simp at hi; subst hi
      exact ⟨blk_cell h 0, blk_cell h 1⟩⟩⟩
theorem arvs_two {w : World} {g : Nat} {x y : Arv} (h : w.heap[g]? = some (.cells #[.int .i64 x.tick, .int .i64 x.obj, .int .i64 y.tick, .int .i64 y.obj] 40 (0, 0))) : ArvsV w (.slice (some ⟨g, 0, none⟩) 2 2) [x, y] :=
  ⟨_, _, rfl, by simp, by unfold maxLen; omega, fun _ => ⟨g, 0, rfl, fun i z hi => by
    match i, hi with
    | 0, hi =>
      simp at hi; subst hi
      exact ⟨blk_cell h 0, blk_cell h 1⟩
    | 1, hi =>
      simp at hi; subst hi
      exact ⟨blk_cell h 2, blk_cell h 3⟩⟩⟩

/-! ### The scripts of the check -/
def kS : Scr := ⟨baseC, 20, [[], [⟨1, 0, 3⟩], [], []], [[], [], [⟨3, 1⟩], []]⟩
def kU : Scr := ⟨baseC, 20, [[], [], [], []], [[⟨3, 0⟩, ⟨2, 0⟩], [], [], []]⟩
def kV : Scr := ⟨baseC, -1, [[], [], [], []], [[], [], [], []]⟩
theorem kS_is : isScr kS = 0 := by decide
theorem kU_is : isScr kU = 10 := by decide
theorem kV_is : isScr kV = 12 := by decide
theorem cats_ok {c : Cnf} (h : c.doms.all (fun d => decide (0 ≤ d.cats) && decide (d.cats < 18446744073709551616)) = true) : ∀ d ∈ c.doms, U64 d.cats := fun d hd => by
  have := List.all_eq_true.1 h d hd
  simp only [Bool.and_eq_true, decide_eq_true_eq] at this
  exact this
theorem base_in : CnfIn baseC := isConf_in baseC_is (isConf_held baseC_is (cats_ok (by decide)))
theorem kS_len : (allBytes kS).length ≤ 40000 := allBytes_length kS_is base_in (fun d hd r hr => by have := (isConf_held baseC_is (cats_ok (by decide))).route d hd r hr; revert d r; decide)
theorem dom_len (d : Dom) : 17 ≤ (domBytes d).length := by
  have h1 := numB_pos d.level
  have h2 := bitsB_length d.cats
  have h3 := numB_pos d.routes.length
  have h4 := numB_pos d.to
  have h5 := numB_pos d.release.length
  have h6 := numB_pos d.threads
  have h7 := numB_pos d.groups
  have h8 := numB_pos d.ring
  have h9 := numB_pos d.sends
  have h10 := numB_pos d.box
  simp only [domBytes, rowB, List.length_append]
  omega
theorem kS_long : 60 < (allBytes kS).length := by
  have h : ∀ l : List Dom, 17 * l.length ≤ (l.flatMap domBytes).length := fun l => by
    induction l with
    | nil => simp
    | cons d l ih =>
      have := dom_len d
      rw [List.flatMap_cons, List.length_append, List.length_cons]
      omega
  have h4 := h kS.conf.doms
  have e : kS.conf.doms.length = 4 := rfl
  simp only [allBytes, confBytes, List.length_append]
  omega
theorem kS_ok : scrOk (allBytes kS) = true := scrOk_bytes kS_is base_in kS_len
theorem kS_read : (scrR ⟨allBytes kS, 0⟩).1 = kS := by rw [scr_back' kS_is base_in]
theorem no_ok : scrOk [] = false := by decide
end Go.Proofs.Ytbllibgddiiboaa
