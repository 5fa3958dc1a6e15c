/- Nodes as they are handed out: rows of them, and whether two rows are the same. -/
import Derived.Test.YtocicffmajbecaaGreatDoorRows
import Derived.Test.YtocicffmajbecaaGreatDoorNd
import Derived.Test.YtocicffmajbecaaGreatDoorMv
import Derived.Test.YtocicffmajbecaaGreatDoorPush
import Derived.Test.YtocicffmajbecaaGreatDoorPiece
import Derived.WalkKit
import Derived.WalkSpells
import Derived.WalkLawsBesides
import Derived.Deep.QuietTactic
import Derived.BigQuiet
import Derived.Deep.RegionHeld3
import Derived.OwnWalk
import Derived.Handy
import Derived.Maps.AppendAt
namespace Go.Proofs.YtocicffmajbecaaGreatDoor
open Go.RowKit
theorem block_ext' {w w' : World} (h : Ext w w') {b : Nat} {o : Obj} (hb : w.heap[b]? = some o) : w'.heap[b]? = some o := by rw [h.below.block b (lt_blk hb)]; exact hb
structure Nn where
  id : Int
  par : Int
  wt : Int
  pass : Int
  thr : Bool
  rdy : Bool
deriving DecidableEq
def Nd.nn (n : Nd) : Nn := ⟨n.id,n.par,n.wt,n.pass,n.thr,n.rdy⟩
def nnc (n : Nn) : List Value := [.int .i64 n.id,.int .i64 n.par,.int .i64 n.wt,.int .i64 n.pass,.bool n.thr,.bool n.rdy]
abbrev nnV (n : Nn) : Value := .agg #[.int .i64 n.id,.int .i64 n.par,.int .i64 n.wt,.int .i64 n.pass,.bool n.thr,.bool n.rdy]
theorem nnc_length (n : Nn) : (nnc n).length = 6 := rfl
def NnE (w : World) (b off : Nat) (n : Nn) : Prop := w.cell? ⟨b,off,none⟩ = some (.int .i64 n.id) ∧ w.cell? ⟨b,off + 1,none⟩ = some (.int .i64 n.par) ∧ w.cell? ⟨b,off + 2,none⟩ = some (.int .i64 n.wt) ∧
  w.cell? ⟨b,off + 3,none⟩ = some (.int .i64 n.pass) ∧ w.cell? ⟨b,off + 4,none⟩ = some (.bool n.thr) ∧ w.cell? ⟨b,off + 5,none⟩ = some (.bool n.rdy)
theorem NnE.ext {w w' : World} {b off : Nat} {n : Nn} (h : NnE w b off n) (k : Ext w w') : NnE w' b off n :=
  ⟨k.cell h.1,k.cell h.2.1,k.cell h.2.2.1,k.cell h.2.2.2.1,k.cell h.2.2.2.2.1,k.cell h.2.2.2.2.2⟩
abbrev NodesV (w : World) (v : Value) (l : List Nn) : Prop := Slc 6 NnE w v l
theorem NodesV.ext {w w' : World} {v : Value} {l : List Nn} (h : NodesV w v l) (k : Ext w w') : NodesV w' v l := h.mono fun _ _ _ he => he.ext k
def ARow (w : World) (base : Nat) (v : Value) (l : List Nn) : Prop := w.ownsRow base 101 6 v l.length (l.flatMap nnc)
theorem ARow.nodes {w : World} {base : Nat} {v : Value} {l : List Nn} (h : ARow w base v l) : NodesV w v l := by
  rcases h.2 with ⟨rfl,h0⟩ | ⟨g,cap,cur,rfl,e2,e3,e4,e5,e6,e7⟩
  · exact ⟨none,0,by rw [h0],by omega,by unfold maxLen; omega,fun hp => by omega⟩
  · refine ⟨some ⟨g,0,none⟩,cap,rfl,e4,e5,fun _ => ⟨g,0,rfl,fun i n hi => ?_⟩⟩
    have hil := (List.getElem?_eq_some_iff.1 hi).1
    have key : ∀ j,j < 6 → w.cell? ⟨g,0 + i * 6 + j,none⟩ = (nnc n)[j]? := fun j hj => by
      have f0 := flat_get nnc_length l i n j hi hj
      rw [← e7,List.getElem?_take,if_pos (by omega)] at f0
      simp only [World.cell?,e3]
      rw [Nat.zero_add]
      simpa using f0
    exact ⟨key 0 (by omega),key 1 (by omega),key 2 (by omega),key 3 (by omega),key 4 (by omega),key 5 (by omega)⟩
theorem infoNn : (Tryz.prog.info? 101).map (fun i => (i.zero,i.size,i.bytes)) = some (some (.agg #[.int .i64 0,.int .i64 0,.int .i64 0,.int .i64 0,.bool false,.bool false]),6,40) := by kernel_rfl
set_option maxHeartbeats 2000000 in
@[go_sem high] theorem run_neq_nn (a b : Nn) (w : World) : (binOp .neq 101 (nnV a) (nnV b)).run Tryz.prog w = .ok (.bool (decide (a ≠ b))) w := by
  obtain ⟨a1,a2,a3,a4,a5,a6⟩ := a
  obtain ⟨b1,b2,b3,b4,b5,b6⟩ := b
  by_cases h1 : a1 = b1
  case neg => simp [h1,go_sem]
  subst h1
  by_cases h2 : a2 = b2
  case neg => simp [h2,go_sem]
  subst h2
  by_cases h3 : a3 = b3
  case neg => simp [h3,go_sem]
  subst h3
  by_cases h4 : a4 = b4
  case neg => simp [h4,go_sem]
  subst h4
  by_cases h5 : a5 = b5
  case neg => simp [h5,go_sem]
  subst h5
  by_cases h6 : a6 = b6
  case neg => simp [h6,go_sem]
  subst h6
  simp [go_sem]
set_option maxRecDepth 100000 in
set_option maxHeartbeats 2000000 in
theorem sameNodes_any {w : World} {va vb : Value} {a b : List Nn} (ha : NodesV w va a) (hb : NodesV w vb b) : Calls Tryz.prog 31 #[va,vb] w (Yields w (.bool (decide (a = b)))) := by
  obtain ⟨pa,ca,rfl,ha1,ha2⟩ := ha.shape
  obtain ⟨pb,cb,rfl,hb1,hb2⟩ := hb.shape
  unfold maxLen at ha2 hb2
  have HA := hid ha
  have HB := hid hb
  clear ha hb
  go_enter Tryz.func31,Tryz.ntmps31
  by_cases hlen : a.length = b.length
  case neg =>
    have q : ((a.length : Int) != b.length) = true := by rw [bne_iff_ne]; omega
    have HR : Hid (decide (a = b) = false) := by simp [Hid]; intro e; exact hlen (by rw [e])
    clear hlen
    go_wp2
    go_returns
    exact ⟨by rw [HR.out]; rfl,Ext.refl _⟩
  have q : ((a.length : Int) != b.length) = false := by simp [hlen]
  have HLEN := hid hlen
  clear hlen
  go_wp2
  go_loopw [5] (fun v5 wr => Ext w wr ∧ ∃ k : Nat,v5 = .int .i64 k ∧ k ≤ a.length ∧ Hid (a.take k = b.take k)) (fun v5 _ => (a.length - (intOf v5).toNat))
  case atStart => exact ⟨Ext.refl _,0,rfl,Nat.zero_le _,rfl⟩
  case round =>
    obtain ⟨X,k,rfl,hk,hs⟩ := hrel
    by_cases hlt : k < a.length
    · have hlb : k < b.length := by have := HLEN.out; omega
      obtain ⟨ba,oa,rfl,e0,e1,e2,e3,e4,e5⟩ := HA.out.at k hlt
      obtain ⟨bb,ob,rfl,d0,d1,d2,d3,d4,d5⟩ := HB.out.at k hlb
      have hT : Hid (∀ c : Nn,a[k] = c → b[k] = c → a.take (k + 1) = b.take (k + 1)) := fun c h1 h2 => by
        rw [List.take_succ_eq_append_getElem hlt,List.take_succ_eq_append_getElem hlb,hs.out,h1,h2]
      have hF : Hid (a[k] ≠ b[k] → decide (a = b) = false) := fun hne => by
        simp only [decide_eq_false_iff_not]; intro e; subst e; exact hne rfl
      have i1 : (k : Int) < a.length := by omega
      have i2 : (k : Int) < b.length := by omega
      have m0 := more_cell (X.cell e0)
      have m1 := more_cell (X.cell e1)
      have m2 := more_cell (X.cell e2)
      have m3 := more_cell (X.cell e3)
      have m4 := more_cell (X.cell e4)
      have m5 := more_cell (X.cell e5)
      have n0 := more_cell (X.cell d0)
      have n1 := more_cell (X.cell d1)
      have n2 := more_cell (X.cell d2)
      have n3 := more_cell (X.cell d3)
      have n4 := more_cell (X.cell d4)
      have n5 := more_cell (X.cell d5)
      clear e0 e1 e2 e3 e4 e5 d0 d1 d2 d3 d4 d5
      generalize a[k] = x at *
      generalize b[k] = y at *
      by_cases he : x = y
      · have hb : decide (x ≠ y) = false := by simp [he]
        have HT := hid (hT.out y he rfl)
        clear hT hF he
        go_wp2
        ((first | refine wp_region_more (by kernel_rfl) (by kernel_rfl) ?_ | refine wp_region_ext (by kernel_rfl) (by kernel_rfl) ?_); (try dsimp only [append_cons',append_nil']); (repeat (go_big_quiet_step ((fail)))); refine wpQuiet_nil ?_; rintro _ ⟨pq,rfl⟩)
        go_wp2
        go_roundw
        case rel => exact ⟨X.trans (ext_more _ _),k + 1,by go_num,by omega,HT.out⟩
        case measure => simp [intOf]; omega
      · have hb : decide (x ≠ y) = true := by simp [he]
        have HF := hid (hF.out he)
        clear hT hF he
        go_wp2
        ((first | refine wp_region_more (by kernel_rfl) (by kernel_rfl) ?_ | refine wp_region_ext (by kernel_rfl) (by kernel_rfl) ?_); (try dsimp only [append_cons',append_nil']); (repeat (go_big_quiet_step ((fail)))); refine wpQuiet_nil ?_; rintro _ ⟨pq,rfl⟩)
        go_wp2
        go_returns
        exact ⟨by rw [HF.out]; rfl,X.trans (ext_more _ _)⟩
    · have HR : Hid (decide (a = b) = true) := by
        have := hs.out
        rw [List.take_of_length_le (by omega),List.take_of_length_le (by have := HLEN.out; omega)] at this
        simpa [Hid] using this
      go_wp2
      go_returns
      exact ⟨by rw [HR.out]; rfl,X⟩
end Go.Proofs.YtocicffmajbecaaGreatDoor
