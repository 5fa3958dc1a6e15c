/- TreeWithin: of every row of what comes, goes, is ready, weighs, runs: at each time of each two that are ready in one group neither is ahead of the other by more than his stride: the law answers true. No conditions. -/
import Derived.Test.YtfccmdmfllicdaaOwn7
import Derived.Test.YtfccmdmfllicdaaTm4
import Derived.Test.YtfccmdmfllicdaaTk
import Derived.IntWalk
import Derived.Deep.CutBlock
import Derived.Deep.DeepCutAuto
namespace Go.Proofs.Ytfccmdmfllicdaa
open Go.ChangeShapes Go.WideShapes Go.ChangeAt Go.RowKit Go.Joins Go.Deep
set_option linter.unusedSimpArgs false

namespace treeWithin
def steO (s : Ste) : Obj := .cells #[.int .i64 s.what, .int .i64 s.id, .int .i64 s.a, .int .i64 s.b, .bool s.thr] 40 (0, 0)
def InvW (w0 : World) (x : Nat) (wr : World) : Prop := ∃ l, TSt w0 x l [] wr ∧ Wf l
def InvS (w0 : World) (x S : Nat) (s : Ste) (wr : World) : Prop := ∃ l, TSt w0 x l [(S, steO s)] wr ∧ Wf l
section
variable {w0 w w' : World} {x S : Nat} {s : Ste}
theorem InvW.xt (i : InvW w0 x w) : Ext w0 w := by
  obtain ⟨l, s, -⟩ := i
  exact s.xt
theorem InvW.ext (i : InvW w0 x w) (e : Ext w w') : InvW w0 x w' := by
  obtain ⟨l, s, t⟩ := i
  exact ⟨l, s.ext e, t⟩
theorem InvW.ste (i : InvW w0 x w) (s : Ste) : InvS w0 x w.heap.size s (w.alloc (steO s)) := by
  obtain ⟨l, h, t⟩ := i
  exact ⟨l, h.alloc _, t⟩
theorem InvS.blk (i : InvS w0 x S s w) : w.heap[S]? = some (steO s) := by
  obtain ⟨l, h, t⟩ := i
  exact h.blk List.mem_cons_self
theorem InvS.cells (i : InvS w0 x S s w) : w.cell? ⟨S, 0, none⟩ = some (.int .i64 s.what) ∧ w.cell? ⟨S, 1, none⟩ = some (.int .i64 s.id) ∧ w.cell? ⟨S, 2, none⟩ = some (.int .i64 s.a) ∧ w.cell? ⟨S, 3, none⟩ = some (.int .i64 s.b) ∧ w.cell? ⟨S, 4, none⟩ = some (.bool s.thr) := by
  have b := i.blk
  unfold steO at b
  exact ⟨by simp [World.cell?, b], by simp [World.cell?, b], by simp [World.cell?, b], by simp [World.cell?, b], by simp [World.cell?, b]⟩
theorem addW (i : InvS w0 x S s w) (a b c : Int) (t : Bool) :
    Calls Try.prog 13 #[.pointer (some ⟨x, 0, none⟩), .int .i64 a, .int .i64 b, .int .i64 c, .bool t] w fun e w' => (∃ v, e = .returned v) ∧ InvW w0 x w' := by
  obtain ⟨l, h, hw⟩ := i
  exact (ts_addX h hw a b c t).mono fun e w' k => ⟨⟨_, k.1⟩, _, k.2.fewer (fun p hp => by cases hp), hw.addL _ _ _ _⟩
theorem remW (i : InvS w0 x S s w) (a : Int) :
    Calls Try.prog 18 #[.pointer (some ⟨x, 0, none⟩), .int .i64 a] w fun e w' => (∃ v, e = .returned v) ∧ InvW w0 x w' := by
  obtain ⟨l, h, hw⟩ := i
  exact (ts_remX h hw a).mono fun e w' k => ⟨⟨_, k.1⟩, _, k.2.fewer (fun p hp => by cases hp), hw.remL _⟩
theorem rdyW (i : InvS w0 x S s w) (a : Int) (r : Bool) :
    Calls Try.prog 14 #[.pointer (some ⟨x, 0, none⟩), .int .i64 a, .bool r] w fun e w' => (∃ v, e = .returned v) ∧ InvW w0 x w' := by
  obtain ⟨l, h, hw⟩ := i
  exact (ts_rdyX h hw a r).mono fun e w' k => ⟨⟨_, k.1⟩, _, k.2.fewer (fun p hp => by cases hp), hw.rdyL _ _⟩
theorem wtW (i : InvS w0 x S s w) (a b : Int) :
    Calls Try.prog 15 #[.pointer (some ⟨x, 0, none⟩), .int .i64 a, .int .i64 b] w fun e w' => (∃ v, e = .returned v) ∧ InvW w0 x w' := by
  obtain ⟨l, h, hw⟩ := i
  exact (ts_wtX h hw a b).mono fun e w' k => ⟨⟨_, k.1⟩, _, k.2.fewer (fun p hp => by cases hp), hw.wtA _ _⟩
theorem runW (i : InvS w0 x S s w) :
    Calls Try.prog 16 #[.pointer (some ⟨x, 0, none⟩)] w fun e w' => (∃ v, e = .returned v) ∧ InvW w0 x w' := by
  obtain ⟨l, h, hw⟩ := i
  exact (ts_runX h hw).mono fun e w' k => ⟨⟨_, k.1⟩, _, k.2.fewer (fun p hp => by cases hp), hw.runL⟩
/-- The nodes handed out lie beside it. -/
def InvN (w0 : World) (x : Nat) (l : List Nd) (v : Value) (wr : World) : Prop := InvW w0 x wr ∧ Wf l ∧ NodesV wr v (l.map Nd.nn)
theorem InvN.ext {l : List Nd} {v : Value} (i : InvN w0 x l v w) (e : Ext w w') : InvN w0 x l v w' := ⟨i.1.ext e, i.2.1, i.2.2.ext e⟩
theorem nodesW (i : InvW w0 x w) :
    Calls Try.prog 19 #[.pointer (some ⟨x, 0, none⟩)] w fun e w' => ∃ l g c, e = .returned (.slice (some ⟨g, 0, none⟩) (l : List Nd).length c) ∧ l.length ≤ 60 ∧ l.length ≤ c ∧ c ≤ maxLen ∧ InvN w0 x l (.slice (some ⟨g, 0, none⟩) l.length c) w' := by
  obtain ⟨l, h, hw⟩ := i
  refine (ts_nodes h hw hw.ne).mono fun e w' k => ?_
  obtain ⟨g, c, cur, k1, k2, k3, k4, k5⟩ := k
  exact ⟨l, g, c, k1, hw.sk.len, k2, k3, ⟨l, k4.fewer (fun p hp => by cases hp), hw⟩, hw, k5⟩
theorem InvN.at' {l : List Nd} {g c : Nat} (i : InvN w0 x l (.slice (some ⟨g, 0, none⟩) l.length c) w) (k : Nat) (hk : k < l.length) : w.cell? ⟨g, k * 6, none⟩ = some (.int .i64 l[k].id) ∧ w.cell? ⟨g, k * 6 + 1, none⟩ = some (.int .i64 l[k].par) ∧ w.cell? ⟨g, k * 6 + 2, none⟩ = some (.int .i64 l[k].wt) ∧
    w.cell? ⟨g, k * 6 + 3, none⟩ = some (.int .i64 l[k].pass) ∧ w.cell? ⟨g, k * 6 + 5, none⟩ = some (.bool l[k].rdy) := by
  obtain ⟨p, c', e, h1, h2, h3⟩ := i.2.2
  injection e with e1 e2 e3
  have hp : p ≠ none := fun h => by rw [h] at e1; cases e1
  obtain ⟨b, off, hp, h4⟩ := h3 (by simp; omega)
  rw [hp] at e1
  injection e1 with e1
  injection e1 with e1 e5 _
  subst e1 e5
  obtain ⟨f0, f1, f2, f3, -, f5⟩ := h4 k _ (by rw [List.getElem?_map, List.getElem?_eq_getElem hk]; rfl)
  simp only [Nat.zero_add] at f0 f1 f2 f3 f5
  exact ⟨f0, f1, f2, f3, f5⟩
/-- Two that are ready in one group. -/
theorem pair {l : List Nd} (hw : Wf l) {a b : Nat} (ha : a < l.length) (hb : b < l.length) (h0 : l[a].id ≠ 0) (hp : l[a].par = l[b].par) (r1 : l[a].rdy = true) (r2 : l[b].rdy = true) : l[a].pass - l[b].pass ≤ ofW l[a].wt ∧ -(l[a].pass - l[b].pass) ≤ ofW l[b].wt := by
  have h1 : 0 ≤ l[a].par := by
    apply Decidable.byContradiction
    intro h
    exact h0 (hw.sk.only l[a] (List.getElem_mem ha) (by omega)).1
  have := hw.near (List.getElem_mem ha) (List.getElem_mem hb) hp h1 r1 r2
  omega
end

set_option maxRecDepth 100000 in
set_option linter.unusedVariables false in
set_option maxHeartbeats 40000000 in
theorem walk (v : Value) (L : List Ste) (w : World) (hL : Stes w v L) :
    Calls Try.prog 4 #[v] w (Yields w (.bool true)) := by
  obtain ⟨p, cap, rfl, hcap, hmax⟩ := hL.shape
  unfold maxLen at hmax
  have HL := hid hL
  clear hL
  go_enter Try.func4, Try.ntmps4
  go_wp2_with fail
  refine (known_any _).yields ?_
  intro p0
  have hE0 := hid (ext_more w p0)
  generalize more w p0 = w0 at *
  by_cases hz : 90 < L.length
  · have i1 : (90 : Int) < (L.length : Int) := by omega
    go_wp2
    go_returns
    exact ⟨rfl, hE0.out⟩
  have i1 : (L.length : Int) ≤ 90 := by omega
  clear hz
  go_wp2_with fail
  (with_reducible refine (ts_new w0).mono ?_)
  rintro e w1 ⟨x, rfl, s1⟩
  have S1 : Hid (InvW w0 x w1) := ⟨_, s1, rootN_wf⟩
  clear s1
  go_wp2_with fail
  go_loopg [4] L.length (fun gg v4 wr => ∃ i : Nat, v4 = .int .i64 i ∧ i ≤ L.length ∧ L.length - i ≤ gg ∧ Hid (InvW w0 x wr))
  case atStart => exact ⟨0, rfl, by omega, by omega, S1⟩
  case round =>
    obtain ⟨i, rfl, hi, hgg, hinv⟩ := hrel
    clear S1
    by_cases hlt : i < L.length
    · have j1 : (i : Int) < (L.length : Int) := by omega
      obtain ⟨g, off, rfl, c0, c1, c2, c3, c4⟩ := HL.out.at i hlt
      have hx := hinv.out.xt
      have d0 := hx.cell (hE0.out.cell c0)
      have d1 := hx.cell (hE0.out.cell c1)
      have d2 := hx.cell (hE0.out.cell c2)
      have d3 := hx.cell (hE0.out.cell c3)
      have d4 := hx.cell (hE0.out.cell c4)
      clear c0 c1 c2 c3 c4 hx
      generalize L[i] = s at *
      obtain ⟨sw, si, sa, sb, st⟩ := s
      simp only at d0 d1 d2 d3 d4
      go_upto_block 2 with fail
      have S2 := hid (hinv.out.ste ⟨sw, si, sa, sb, st⟩)
      simp only [steO] at S2
      clear hinv d0 d1 d2 d3 d4
      generalize wr.heap.size = S at *
      generalize wr.alloc (.cells #[.int .i64 sw, .int .i64 si, .int .i64 sa, .int .i64 sb, .bool st] 40 (0, 0)) = w2 at *
      obtain ⟨e0, e1, e2, e3, e4⟩ := S2.out.cells
      simp only at e0 e1 e2 e3 e4
      go_cut [] (fun wx => InvW w0 x wx)
      case first =>
        by_cases h1 : sw ≤ 1
        · go_wp2_with fail
          (with_reducible refine (addW S2.out _ _ _ _).mono ?_)
          rintro e w3 ⟨⟨v3, rfl⟩, s3⟩
          have S3 := hid s3
          clear s3 e0 e1 e2 e3 e4
          go_wp2
          go_meet
          case rel => exact S3.out
        by_cases h2 : sw = 2
        · have h2' : (sw == 2) = true := by simp [h2]
          clear h2
          go_wp2_with fail
          (with_reducible refine (remW S2.out _).mono ?_)
          rintro e w3 ⟨⟨v3, rfl⟩, s3⟩
          have S3 := hid s3
          clear s3 e0 e1 e2 e3 e4
          go_wp2
          go_meet
          case rel => exact S3.out
        have h2' : (sw == 2) = false := by simp [h2]
        clear h2
        by_cases h3 : sw ≤ 4
        · go_wp2_with fail
          (with_reducible refine (rdyW S2.out _ _).mono ?_)
          rintro e w3 ⟨⟨v3, rfl⟩, s3⟩
          have S3 := hid s3
          clear s3 e0 e1 e2 e3 e4
          go_wp2
          go_meet
          case rel => exact S3.out
        by_cases h4 : sw = 5
        · have h4' : (sw == 5) = true := by simp [h4]
          clear h4
          go_wp2_with fail
          (with_reducible refine (wtW S2.out _ _).mono ?_)
          rintro e w3 ⟨⟨v3, rfl⟩, s3⟩
          have S3 := hid s3
          clear s3 e0 e1 e2 e3 e4
          go_wp2
          go_meet
          case rel => exact S3.out
        · have h4' : (sw == 5) = false := by simp [h4]
          clear h4
          go_wp2_with fail
          (with_reducible refine (runW S2.out).mono ?_)
          rintro e w3 ⟨⟨v3, rfl⟩, s3⟩
          have S3 := hid s3
          clear s3 e0 e1 e2 e3 e4
          go_wp2
          go_meet
          case rel => exact S3.out
      case rest =>
        have S3 : Hid (InvW w0 x wc) := hcut
        clear hcut S2 e0 e1 e2 e3 e4
        go_wp2_with fail
        (with_reducible refine (nodesW S3.out).mono ?_)
        rintro e w4 ⟨l, gn, cn, rfl, hl60, hlc, hcm, s4⟩
        unfold maxLen at hcm
        have S4 := hid s4
        clear s4 S3
        go_wp2_with fail
        go_loopg [7] l.length (fun gg v7 wr => ∃ a : Nat, v7 = .int .i64 a ∧ a ≤ l.length ∧ l.length - a ≤ gg ∧ Hid (InvN w0 x l (.slice (some ⟨gn, 0, none⟩) l.length cn) wr))
        case atStart => exact ⟨0, rfl, by omega, by omega, S4⟩
        case round =>
          obtain ⟨a, rfl, ha, hga, hNa⟩ := hrel
          clear S4
          by_cases hla : a < l.length
          · have k1 : (a : Int) < (l.length : Int) := by omega
            go_wp2_with fail
            go_loopg [8] l.length (fun gg v8 wr => ∃ b : Nat, v8 = .int .i64 b ∧ b ≤ l.length ∧ l.length - b ≤ gg ∧ Hid (InvN w0 x l (.slice (some ⟨gn, 0, none⟩) l.length cn) wr))
            case atStart => exact ⟨0, rfl, by omega, by omega, hNa⟩
            case round =>
              obtain ⟨b, rfl, hb, hgb, hNb⟩ := hrel
              clear hNa
              by_cases hlb : b < l.length
              · have k2 : (b : Int) < (l.length : Int) := by omega
                obtain ⟨f0, f1, f2, f3, f5⟩ := hNb.out.at' a hla
                obtain ⟨g0, g1, g2, g3, g5⟩ := hNb.out.at' b hlb
                have bda := hNb.out.2.1.bdM _ (List.getElem_mem hla)
                have bdb := hNb.out.2.1.bdM _ (List.getElem_mem hlb)
                have HPR := hid (pair hNb.out.2.1 hla hlb)
                have HI := hid hNb
                clear hNb
                generalize l[a] = na at *
                generalize l[b] = nb at *
                obtain ⟨ia, pa, wa, sa', ta, ra, oa⟩ := na
                obtain ⟨ib, pb, wb, sb', tb, rb, ob⟩ := nb
                simp only at f0 f1 f2 f3 f5 g0 g1 g2 g3 g5 bda bdb HPR
                have f0' := more_cell f0
                have f1' := more_cell f1
                have f2' := more_cell f2
                have f3' := more_cell f3
                have f5' := more_cell f5
                have g0' := more_cell g0
                have g1' := more_cell g1
                have g2' := more_cell g2
                have g3' := more_cell g3
                have g5' := more_cell g5
                obtain ⟨⟨y1, y2⟩, -⟩ := bda
                obtain ⟨⟨y3, y4⟩, -⟩ := bdb
                clear f0 f1 f2 f3 f5 g0 g1 g2 g3 g5
                by_cases hab : a = b
                · subst hab
                  go_wp2
                  ((first | refine wp_region_more (by kernel_rfl) (by kernel_rfl) ?_ | refine wp_region_ext (by kernel_rfl) (by kernel_rfl) ?_); (try dsimp only [append_cons', append_nil']); (repeat (go_big_quiet_step ((fail)))); refine wpQuiet_nil ?_; rintro _ ⟨pq, rfl⟩)
                  go_wp2
                  go_roundg (l.length - (a + 1))
                  case measure => omega
                  case rel => exact ⟨a + 1, by go_num, by omega, by omega, HI.out.ext (ext_more _ _)⟩
                have q1 : ((a : Int) == (b : Int)) = false := by rw [beq_eq_false_iff_ne]; omega
                by_cases hi0 : ia = 0
                · have q2 : (ia == 0) = true := by simp [hi0]
                  clear hi0
                  go_wp2
                  ((first | refine wp_region_more (by kernel_rfl) (by kernel_rfl) ?_ | refine wp_region_ext (by kernel_rfl) (by kernel_rfl) ?_); (try dsimp only [append_cons', append_nil']); (repeat (go_big_quiet_step ((fail)))); refine wpQuiet_nil ?_; rintro _ ⟨pq, rfl⟩)
                  go_wp2
                  go_roundg (l.length - (b + 1))
                  case measure => omega
                  case rel => exact ⟨b + 1, by go_num, by omega, by omega, HI.out.ext (ext_more _ _)⟩
                have q2 : (ia == 0) = false := by simp [hi0]
                by_cases hpp : pa = pb
                case neg =>
                  have q3 : (pa != pb) = true := by simp [hpp]
                  clear hpp
                  go_wp2
                  ((first | refine wp_region_more (by kernel_rfl) (by kernel_rfl) ?_ | refine wp_region_ext (by kernel_rfl) (by kernel_rfl) ?_); (try dsimp only [append_cons', append_nil']); (repeat (go_big_quiet_step ((fail)))); refine wpQuiet_nil ?_; rintro _ ⟨pq, rfl⟩)
                  go_wp2
                  go_roundg (l.length - (b + 1))
                  case measure => omega
                  case rel => exact ⟨b + 1, by go_num, by omega, by omega, HI.out.ext (ext_more _ _)⟩
                subst hpp
                have q3 : (pa != pa) = false := by simp
                cases ra with
                | false =>
                  go_wp2
                  ((first | refine wp_region_more (by kernel_rfl) (by kernel_rfl) ?_ | refine wp_region_ext (by kernel_rfl) (by kernel_rfl) ?_); (try dsimp only [append_cons', append_nil']); (repeat (go_big_quiet_step ((fail)))); refine wpQuiet_nil ?_; rintro _ ⟨pq, rfl⟩)
                  go_wp2
                  go_roundg (l.length - (b + 1))
                  case measure => omega
                  case rel => exact ⟨b + 1, by go_num, by omega, by omega, HI.out.ext (ext_more _ _)⟩
                | true =>
                cases rb with
                | false =>
                  go_wp2
                  ((first | refine wp_region_more (by kernel_rfl) (by kernel_rfl) ?_ | refine wp_region_ext (by kernel_rfl) (by kernel_rfl) ?_); (try dsimp only [append_cons', append_nil']); (repeat (go_big_quiet_step ((fail)))); refine wpQuiet_nil ?_; rintro _ ⟨pq, rfl⟩)
                  go_wp2
                  go_roundg (l.length - (b + 1))
                  case measure => omega
                  case rel => exact ⟨b + 1, by go_num, by omega, by omega, HI.out.ext (ext_more _ _)⟩
                | true =>
                  obtain ⟨z1, z2⟩ := HPR.out hi0 rfl rfl rfl
                  have z3 : ¬ ofW wa < sa' - sb' := by omega
                  have z4 : ¬ ofW wb < -(sa' - sb') := by omega
                  have z5 : ¬ ofW wb < sb' - sa' := by omega
                  have HI2 := HI
                  clear HPR z1 z2 hi0 HI
                  go_wp2
                  ((first | refine wp_region_more (by kernel_rfl) (by kernel_rfl) ?_ | refine wp_region_ext (by kernel_rfl) (by kernel_rfl) ?_); (try dsimp only [append_cons', append_nil']); (repeat (go_big_quiet_step ((fail)))); refine wpQuiet_nil ?_; rintro _ ⟨pq, rfl⟩)
                  go_wp2_with fail
                  ((first | refine wp_region_more (by kernel_rfl) (by kernel_rfl) ?_ | refine wp_region_ext (by kernel_rfl) (by kernel_rfl) ?_); (try dsimp only [append_cons', append_nil']); (repeat (go_big_quiet_step ((fail)))); refine wpQuiet_nil ?_; rintro _ ⟨pq, rfl⟩)
                  go_wp2_with (go_at_call 20; (with_reducible refine (rofW_any _ _).yields ?_); intro p9)
                  go_roundg (l.length - (b + 1))
                  case measure => omega
                  case rel => exact ⟨b + 1, by go_num, by omega, by omega, HI2.out.ext (by repeat (first | exact Ext.refl _ | assumption | refine Ext.more ?_ _ | refine Ext.drew ?_ | refine Ext.drewN ?_ _ | refine Ext.alloc ?_ _ | refine Ext.setCell ?_ (by simp; try omega) _ | refine Ext.trans ?_ (by assumption)))⟩
              · go_wp2
                go_roundg (l.length - (a + 1))
                case measure => omega
                case rel => exact ⟨a + 1, by go_num, by omega, by omega, hNb⟩
          · have HF := hid hNa.out.1
            go_wp2
            go_roundg (L.length - (i + 1))
            case measure => omega
            case rel => exact ⟨i + 1, by go_num, by omega, by omega, HF⟩
    · have hx := hid hinv.out.xt
      go_wp2
      go_returns
      exact ⟨rfl, hE0.out.trans hx.out⟩

set_option linter.unusedVariables false in
set_option maxRecDepth 100000 in
theorem lifted (os : Os) (started : os.Started) (H : Type) (enc : TypeId × Value → H) :
    ReturnsInHanded {} Try.checked os 4 .any (Rows.treeWithinSpec.pre6 enc Try.prog Try.f4 Rows.treeWithinRow.domain false) (Rows.treeWithinSpec.post enc Try.prog Try.f4 false true false false) := by
  refine returnsInHanded_of_change (C := Try.checked) Own.own started (by kernel_rfl) Try.func4
    (ChangeSpec.witness6 (enc := enc) (C := Try.checked) false ⟨#[], #[.slice none 0 0], []⟩ 8 (by kernel_rfl) (by kernel_rfl) (by kernel_rfl) (by kernel_rfl)) ?_
  intro W base args ds gs before hval0 hW hcnd _
  have hval : ∀ (j : Nat) t v, Try.f4.params[j]? = some t → args[j]? = some v → Value.okWide Try.prog W .any base t v := hval0
  have hW' := hW
  obtain ⟨p, q, hA0, hV, rfl, hfz, hnd⟩ := hW
  have hA : DataW.TrodAll enc Try.prog W 0 (fun _ => true) true Try.f4.params.toList args.toList ds p := hA0
  rw [Try.params4] at hA hval
  obtain ⟨v0, vs0, d0, ds0, p0, q0, hargs, rfl, rfl, h0, r0⟩ := trodAll_cons hA
  obtain ⟨rfl, rfl, rfl⟩ := trodAll_nil r0
  obtain rfl : args = #[v0] := by cases args; simp_all
  obtain ⟨rfl, rfl⟩ := trodVars_none hV
  have k0 := h0
  have lt0 : ∀ x ∈ p0, x.block < W.heap.size := by obtain ⟨m, hm⟩ := k0; exact DataW.trod_lt m _ _ _ hm
  obtain ⟨a0, len0, cap0, rfl⟩ := okWide_slice Try.underlying38 (hval 0 38 v0 rfl rfl)
  obtain ⟨l, hl⟩ := Own.open_stes h0
  clear hA0 hval0
  refine (walk _ l W hl).mono fun e W' ⟨he, hx⟩ => ?_
  subst he
  exact ⟨_, rfl, _, _, _, [], _, [], hW', trodAll_mk1 (shut_bool Try.underlying4 _), (trodAll_cons_mk (Below.trod Own.laidOut (by kernel_rfl) (of_decide_eq_true (by kernel_rfl)) k0 hx.below lt0) trodAll_mk0), rfl, hx.below.frame _, fun h => by cases h⟩

theorem proved : Rows.TreeWithinSaid :=
  OpenClaim.holds_of_wide 4 Try.f4 rfl rfl rfl rfl rfl rfl rfl ⟨rfl, rfl, rfl, rfl, rfl⟩ rfl rfl rfl rfl rfl (by kernel_rfl) Try.func4 (by kernel_rfl)
    (of_decide_eq_true (by kernel_rfl)) (by unfold Func.isWrapper; first | (rw [if_pos (by decide +kernel)]; kernel_rfl) | (rw [if_neg (by decide +kernel)]; exact ⟨rfl, rfl⟩))
    (fun os started H enc _ => lifted os started H enc)

end treeWithin
end Go.Proofs.Ytfccmdmfllicdaa
