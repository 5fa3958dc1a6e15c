/- Scripts laid as the statements' own, one thing changed: what the calls come to. -/
import Derived.Test.YtbllibgddiiboaaScL
namespace Go.Proofs.Ytbllibgddiiboaa
open Go.RowKit

theorem HelpS.put {base N S V : Nat} {os : List RO} {ss vs : List Value} {w : World} (h : HelpS base N S V os ss vs w) {b j : Nat} {v : RV} (u : RV) (hc : cellOf os b j = some v) (hu : u.wf) (hb : b < os.length) :
    HelpS base N S V (setRO os b j u) ss vs (w.setCell ⟨N + b, j, none⟩ (u.val N)) := by
  have h1 := h.sn
  have h2 := h.vn
  have hl : (setRO os b j u).length = os.length := by simp [setRO]
  refine ⟨h.lies.put hc u hu, (Below.heap_setCell _ _ _ _ ?_).trans h.sb, (Below.heap_setCell _ _ _ _ ?_).trans h.vb, h.hN, h.hS, h.hV, h.sv, by rw [hl]; exact h1, by rw [hl]; exact h2⟩
  · show S ≠ N + b; omega
  · show V ≠ N + b; omega
theorem HelpS.take {base N S V : Nat} {ss vs : List Value} {w : World} (h : HelpS base N S V baseRO ss vs w) : HelpS base N S V (baseRO.take 13) ss vs w := by
  have h1 := h.sn
  have h2 := h.vn
  have e : baseRO.length = 14 := rfl
  have e2 : (baseRO.take 13).length = 13 := rfl
  refine ⟨⟨fun i o ho => h.lies.1 i o ?_, fun o ho => h.lies.2 o (List.mem_of_mem_take ho)⟩, h.sb, h.vb, h.hN, h.hS, h.hV, h.sv, by omega, by omega⟩
  rw [List.map_take, List.getElem?_take] at ho
  split at ho
  · exact ho
  · cases ho
theorem HelpS.aside {base N S V : Nat} {ss vs : List Value} {w : World} (h : HelpS base N S V baseRO ss vs w) {b j : Nat} (u : Value) (h1 : b ≠ S) (h2 : b ≠ V) (h3 : b < N ∨ N + 14 ≤ b) : HelpS base N S V baseRO ss vs (w.setCell ⟨b, j, none⟩ u) :=
  h.other u (.inr ⟨h1, h2, h3⟩)
def nilS : List (List Axn) := [[], [], [], []]
def nilA : List (List Arv) := [[], [], [], []]
theorem nilS_v (w : World) : ∀ (i : Nat) l, nilS[i]? = some l → ∃ v, nil4[i]? = some v ∧ AxnsV w v l := fun i l hi => by
  match i, hi with
  | 0, hi => simp [nilS] at hi; subst hi; exact ⟨_, rfl, axns_nil _⟩
  | 1, hi => simp [nilS] at hi; subst hi; exact ⟨_, rfl, axns_nil _⟩
  | 2, hi => simp [nilS] at hi; subst hi; exact ⟨_, rfl, axns_nil _⟩
  | 3, hi => simp [nilS] at hi; subst hi; exact ⟨_, rfl, axns_nil _⟩
theorem nilA_v (w : World) : ∀ (i : Nat) l, nilA[i]? = some l → ∃ v, nil4[i]? = some v ∧ ArvsV w v l := fun i l hi => by
  match i, hi with
  | 0, hi => simp [nilA] at hi; subst hi; exact ⟨_, rfl, arvs_nil _⟩
  | 1, hi => simp [nilA] at hi; subst hi; exact ⟨_, rfl, arvs_nil _⟩
  | 2, hi => simp [nilA] at hi; subst hi; exact ⟨_, rfl, arvs_nil _⟩
  | 3, hi => simp [nilA] at hi; subst hi; exact ⟨_, rfl, arvs_nil _⟩
/-- The streams, but for one. -/
theorem oneS_v {w : World} {u : Value} {l1 : List Axn} (h : AxnsV w u l1) : ∀ (i : Nat) l, ([[], l1, [], []] : List (List Axn))[i]? = some l → ∃ v, (nil4.set 1 u)[i]? = some v ∧ AxnsV w v l := fun i l hi => by
  match i, hi with
  | 0, hi => simp at hi; subst hi; exact ⟨_, rfl, axns_nil _⟩
  | 1, hi => simp at hi; subst hi; exact ⟨_, rfl, h⟩
  | 2, hi => simp at hi; subst hi; exact ⟨_, rfl, axns_nil _⟩
  | 3, hi => simp at hi; subst hi; exact ⟨_, rfl, axns_nil _⟩
theorem twoA_v {w : World} {u : Value} {l1 : List Arv} (h : ArvsV w u l1) : ∀ (i : Nat) l, ([[], [], l1, []] : List (List Arv))[i]? = some l → ∃ v, (nil4.set 2 u)[i]? = some v ∧ ArvsV w v l := fun i l hi => by
  match i, hi with
  | 0, hi => simp at hi; subst hi; exact ⟨_, rfl, arvs_nil _⟩
  | 1, hi => simp at hi; subst hi; exact ⟨_, rfl, arvs_nil _⟩
  | 2, hi => simp at hi; subst hi; exact ⟨_, rfl, h⟩
  | 3, hi => simp at hi; subst hi; exact ⟨_, rfl, arvs_nil _⟩
def sZ : Scr := ⟨baseC, 20, nilS, nilA⟩
theorem sZ_is : isScr sZ = 0 := by decide

/-- What is asked of a script here. -/
structure ScFit (s : Scr) : Prop where
  is : isScr s = 0
  inn : CnfIn s.conf
  len : (allBytes s).length ≤ 40000
theorem ScFit.of {s : Scr} (h : isScr s = 0) (hc : s.conf.doms.all (fun d => decide (0 ≤ d.cats) && decide (d.cats < 18446744073709551616)) = true) (hr : s.conf.doms.all (fun d => d.routes.all fun r => decide (r.length ≤ 20)) = true) : ScFit s := by
  have hin : CnfIn s.conf := isConf_in (isScr_parts h).1 (isConf_held (isScr_parts h).1 (cats_ok hc))
  refine ⟨h, hin, allBytes_length h hin fun d hd r hrr => ?_⟩
  simpa using List.all_eq_true.1 (List.all_eq_true.1 hr d hd) r hrr
theorem fit_ne {s t : Scr} (hs : ScFit s) (ht : ScFit t) (hne : s ≠ t) : (str (allBytes s)).toList ≠ (str (allBytes t)).toList := by
  intro h
  rw [str_toList, str_toList] at h
  exact hne (scr_prefix hs.is hs.inn ht.is ht.inn (m := []) (by rw [List.append_nil]; exact h)).1
theorem uSame {N S V N' S' V' : Nat} {h h' : Int} {s t : Scr} {w : World} (hne : s ≠ t) (k : SV N S V h s w) (k' : SV N' S' V' h' t w) : Calls Try.prog 11 #[helpV N S V h, helpV N' S' V' h'] w (Yields w (.bool false)) := by
  have := scrSame_to (r := false) (Bool.eq_false_iff.2 fun e => hne (sameS_iff.1 e)) w _ _ _ _ _ _ _ _ k.v k'.v
  rwa [k.val, k'.val] at this

theorem doms4 {B : Nat} {w : World} {cs : List Value} {T : TypeId} (hb : w.heap[B]? = some (.cells cs.toArray T (0, 0))) {ds : List Dom} (hl : ds.length = 4)
    (h : ∀ i d, ds[i]? = some d → ∃ vr ve, (cs.drop (i * 10)).take 10 = [.int .i64 d.level, .int .u64 d.cats, vr, ve, .int .i64 d.to, .int .i64 d.threads, .int .i64 d.groups, .int .i64 d.ring, .int .i64 d.sends, .int .i64 d.box] ∧ RowsV w vr d.routes ∧ Nums .i64 w ve d.release ∧ 0 ≤ d.cats ∧ d.cats < 18446744073709551616) :
    DomsV w (.slice (some ⟨B, 0, none⟩) 4 4) ds := by
  refine ⟨some ⟨B, 0, none⟩, 4, by rw [hl], by omega, by unfold maxLen; omega, fun _ => ⟨B, 0, rfl, fun i d hi => ?_⟩⟩
  obtain ⟨vr, ve, hc, hr, he, h0, h1⟩ := h i d hi
  have hat : ∀ (j : Nat) (x : Value), ((cs.drop (i * 10)).take 10)[j]? = some x → w.cell? ⟨B, 0 + i * 10 + j, none⟩ = some x := fun j x hx => by
    rw [List.getElem?_take] at hx
    split at hx
    · rw [List.getElem?_drop] at hx
      rw [blk_cell hb]
      simpa [Nat.add_comm, Nat.add_assoc] using hx
    · cases hx
  rw [hc] at hat
  exact ⟨vr, ve, ⟨hat 0 _ rfl, hat 1 _ rfl, hat 2 _ rfl, hat 3 _ rfl, hat 4 _ rfl, hat 5 _ rfl, hat 6 _ rfl, hat 7 _ rfl, hat 8 _ rfl, hat 9 _ rfl⟩, hr, he, h0, h1⟩
theorem SV.of_doms {base N S V : Nat} {w : World} (h : HelpS base N S V (baseRO.take 13) nil4 nil4 w) {ds : List Dom} (hd : DomsV w (.slice (some ⟨N + 13, 0, none⟩) 4 4) ds) :
    SV N S V 20 ⟨⟨8, 2, [[2, 2, 2, 2], [5, 1, 1, 1]], ds⟩, 20, nilS, nilA⟩ w := by
  refine ⟨⟨⟨rows_lie h.lies (v := .s 3 2) (RV.wf_of rfl) (by rfl), hd⟩, ?_, ?_⟩, rfl, rfl, rfl⟩
  · refine ⟨some ⟨S, 0, none⟩, 4, rfl, (show (4 : Nat) ≤ 4 from Nat.le_refl _), by unfold maxLen; omega, fun _ => ⟨S, 0, rfl, fun i x hi => ?_⟩⟩
    obtain ⟨v, h1, h2⟩ := nilS_v w i x hi
    refine ⟨v, ?_, h2⟩
    rw [blk_cell h.sb]
    simpa using h1
  · refine ⟨some ⟨V, 0, none⟩, 4, rfl, (show (4 : Nat) ≤ 4 from Nat.le_refl _), by unfold maxLen; omega, fun _ => ⟨V, 0, rfl, fun i x hi => ?_⟩⟩
    obtain ⟨v, h1, h2⟩ := nilA_v w i x hi
    refine ⟨v, ?_, h2⟩
    rw [blk_cell h.vb]
    simpa using h1
theorem nums_blk {w : World} {b : Nat} {r : List Int} {T : TypeId} (h : w.heap[b]? = some (.cells (r.map (Value.int .i64)).toArray T (0, 0))) (hw : ∀ z ∈ r, (Lit.int .i64 z).wf = true) (hl : r.length ≤ 1000) : Nums .i64 w (.slice (some ⟨b, 0, none⟩) r.length r.length) r :=
  ⟨_, r.length, rfl, by omega, by unfold maxLen; omega, fun _ => ⟨b, 0, rfl, fun i u hi => ⟨by simp [World.cell?, h, hi], hw u (List.mem_of_getElem? hi)⟩⟩⟩
theorem rows_one {w : World} {b : Nat} {u : Value} {r : List Int} {T : TypeId} (h : w.heap[b]? = some (.cells #[u] T (0, 0))) (hn : Nums .i64 w u r) : RowsV w (.slice (some ⟨b, 0, none⟩) 1 1) [r] :=
  ⟨_, 1, rfl, by simp, by unfold maxLen; omega, fun _ => ⟨b, 0, rfl, fun i x hi => by
    match i, hi with
    | 0, hi =>
      simp at hi; subst hi
      exact ⟨u, by simp [World.cell?, h], hn⟩⟩⟩
def domCs (N : Nat) : List Value := ((baseRO.getD 13 ([], 0)).1.map (RV.val N))
/-- The domains' block, one cell of it put anew. -/
theorem HelpS.domBlk {base N S V : Nat} {ss vs : List Value} {w : World} (h : HelpS base N S V baseRO ss vs w) (j : Nat) (u : Value) : (w.setCell ⟨N + 13, j, none⟩ u).heap[N + 13]? = some (.cells ((domCs N).set j u).toArray 54 (0, 0)) := by
  have hb := h.lies.block (b := 13) (o := baseRO.getD 13 ([], 0)) rfl
  have := blk_set (cs := (domCs N).toArray) (T := 54) hb j u
  rw [this]
  simp
theorem HelpS.takeAside {base N S V : Nat} {ss vs : List Value} {w : World} (h : HelpS base N S V baseRO ss vs w) (j : Nat) (u : Value) : HelpS base N S V (baseRO.take 13) ss vs (w.setCell ⟨N + 13, j, none⟩ u) := by
  have h1 := h.sn
  have h2 := h.vn
  have e : baseRO.length = 14 := rfl
  exact h.take.other u (.inr ⟨by omega, by omega, .inr (by show N + 13 ≤ N + 13; omega)⟩)
end Go.Proofs.Ytbllibgddiiboaa
