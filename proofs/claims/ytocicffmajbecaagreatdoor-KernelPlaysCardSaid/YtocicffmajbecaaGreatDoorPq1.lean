/- What the small functions of package passq come to: held, formed, less, find. -/
import Derived.Test.YtocicffmajbecaaGreatDoorPq0
import Derived.Test.YtocicffmajbecaaGreatDoorPqM
import Derived.Test.YtocicffmajbecaaGreatDoorErrV
import Derived.WalkKit
import Derived.WalkSpells
import Derived.WalkLawsBesides
import Derived.Deep.LoopGhost
import Derived.Handy
namespace Go.Proofs.YtocicffmajbecaaGreatDoor
open Go.RowKit
set_option maxHeartbeats 400000 in
theorem held_any (n most : Int) (w : World) : Calls Tryz.prog 108 #[.int .i64 n,.int .i64 most] w fun e w' => e = .returned (.int .i64 (max 0 (min n most))) ∧ w' = w := by
  go_enter Tryz.func108,Tryz.ntmps108
  go_wp2
  all_goals (go_returns; exact ⟨by simp <;> omega,rfl⟩)
def formedB (pass id : Int) : Bool := decide (0 ≤ pass) && decide (pass ≤ 1099511627776) && decide (0 ≤ id)
theorem formedB_iff {pass id : Int} : formedB pass id = true ↔ 0 ≤ pass ∧ pass ≤ 1099511627776 ∧ 0 ≤ id := by simp [formedB,and_assoc]
set_option maxHeartbeats 400000 in
theorem formed_any (pass id : Int) (w : World) : Calls Tryz.prog 129 #[.int .i64 pass,.int .i64 id] w fun e w' => e = .returned (.bool (formedB pass id)) ∧ w' = w := by
  by_cases h1 : 0 ≤ pass <;> by_cases h2 : pass ≤ 1099511627776
  all_goals
    go_enter Tryz.func129,Tryz.ntmps129
    go_wp2
    go_returns
    exact ⟨by simp [formedB,h1,h2] <;> omega,rfl⟩
set_option maxHeartbeats 1000000 in
theorem less_any (a b : En) (w : World) : Calls Tryz.prog 148 #[entV a,entV b] w (Yields w (.bool (lessB a b))) := by
  obtain ⟨a1,a2⟩ := a
  obtain ⟨b1,b2⟩ := b
  simp only [entV]
  by_cases h1 : a1 < b1
  · go_enter Tryz.func148,Tryz.ntmps148
    go_wp2
    go_returns
    exact ⟨by simp [lessB,h1],ext_by⟩
  · by_cases h2 : a1 = b1
    · subst h2
      go_enter Tryz.func148,Tryz.ntmps148
      go_wp2
      go_returns
      exact ⟨by simp [lessB],ext_by⟩
    · go_enter Tryz.func148,Tryz.ntmps148
      go_wp2
      go_returns
      exact ⟨by simp [lessB,h1,h2],ext_by⟩
theorem less_to {a b : En} {r : Bool} (e : lessB a b = r) (w : World) : Calls Tryz.prog 148 #[entV a,entV b] w (Yields w (.bool r)) := e ▸ less_any a b w
set_option maxHeartbeats 400000 in
theorem isId_any (p : En) (B : Nat) (id : Int) (w : World) (hB : w.cell? ⟨B,0,none⟩ = some (.int .i64 id)) (hlt : B < w.heap.size) :
    Calls Tryz.prog 147 #[entV p,.pointer (some ⟨B,0,none⟩)] w (Yields w (.bool (p.2 == id))) := by
  obtain ⟨p1,p2⟩ := p
  simp only [entV]
  go_enter Tryz.func147,Tryz.ntmps147
  go_wp2
  go_returns
  exact ⟨rfl,ext_by⟩
set_option maxRecDepth 100000 in
set_option maxHeartbeats 2000000 in
theorem indexFunc_any (base : Nat) (v : Value) (rows : List En) (B : Nat) (id : Int) (w : World) (h : Row w base v rows.length rows) (hl : rows.length ≤ 1000000) (hB : w.cell? ⟨B,0,none⟩ = some (.int .i64 id)) :
    Calls Tryz.prog 146 #[v,.func (.func 147) #[] #[.pointer (some ⟨B,0,none⟩)]] w (Yields w (.int .i64 (idPl rows id))) := by
  obtain ⟨p,cap,rfl,hcap,hmax,-⟩ := h.slice
  have HR := hid h
  clear h
  unfold maxLen at hmax
  go_enter Tryz.func146,Tryz.ntmps146
  go_wp2
  go_loopg [5,8] rows.length (fun gg _ s8 wr => ∃ k : Nat,k ≤ rows.length ∧ rows.length - k ≤ gg ∧ s8 = .int .i64 k ∧ Aside (Ext w wr) ∧ Aside (∀ j,(h : j < rows.length) → j < k → (rows[j].2 == id) = false))
  case atStart => exact ⟨0,Nat.zero_le _,by omega,rfl,Ext.refl w,fun j _ hj => absurd hj (Nat.not_lt_zero _)⟩
  case round =>
    obtain ⟨k,hk,hg,rfl,BW,A⟩ := hrel
    by_cases hlt : k < rows.length
    · have hltz : (k : Int) < (rows.length : Int) := by omega
      obtain ⟨g,cap',e,-,-,-,-⟩ := HR.out.shape (by omega)
      injection e with e _ ec
      subst e ec
      obtain ⟨c0,c1,-,-⟩ := HR.out.cell (i := k) (List.getElem?_eq_getElem hlt)
      have d0 := BW.out.cell c0
      have d1 := BW.out.cell c1
      have hb := hid (BW.out.cell hB)
      have A' : Aside (∀ j,(h : j < rows.length) → j < k + 1 → (rows[k].2 == id) = false → (rows[j].2 == id) = false) := fun j h hj hh => by
        by_cases he : j = k
        · subst he; exact hh
        · exact A.out j h (by omega)
      have Fnd : Aside ((rows[k].2 == id) = true → idPl rows id = k) := fun hh => by
        have : idAt rows id = k := by
          unfold idAt
          rw [List.findIdx_eq hlt]
          exact ⟨hh,fun j hj => by simpa using A.out j (by omega) hj⟩
        unfold idPl
        rw [this,if_pos hlt]
      clear c0 c1
      generalize rows[k] = y at *
      cases hq : y.2 == id with
      | true =>
        have Fnd' : Aside (idPl rows id = k) := Fnd.out hq
        have HQ := hid hq
        clear hq
        have hcall := HQ.out ▸ isId_any y B id wr hb.out (World.block_lt_of_cell? _ _ hb.out)
        go_wp2_with (go_at_call 147; (with_reducible refine hcall.mono ?_); rintro e w' ⟨rfl,hx⟩)
        go_returns
        exact ⟨by rw [Fnd'.out]; rfl,BW.out.trans hx⟩
      | false =>
        have HQ := hid hq
        clear hq
        have hcall := HQ.out ▸ isId_any y B id wr hb.out (World.block_lt_of_cell? _ _ hb.out)
        go_wp2_with (go_at_call 147; (with_reducible refine hcall.mono ?_); rintro e w' ⟨rfl,hx⟩)
        go_roundg (rows.length - (k + 1))
        case measure => omega
        case rel => exact ⟨k + 1,by omega,by omega,by go_num,BW.out.trans hx,(show Aside _ from fun j h hj => A'.out j h hj HQ.out)⟩
    · obtain rfl : k = rows.length := by omega
      have Fnd : Aside (idPl rows id = -1) := by
        unfold idPl
        refine if_neg (idAt_none.2 fun x hx => ?_)
        obtain ⟨j,hj,rfl⟩ := List.mem_iff_getElem.1 hx
        simpa using A.out j hj hj
      go_wp2
      go_returns
      exact ⟨by rw [Fnd.out]; rfl,BW.out⟩
set_option maxHeartbeats 1000000 in
theorem find_any (base x : Nat) (v : Value) (room : Int) (rows : List En) (id : Int) (w : World) (h : Ix base x v room rows.length rows w) (hl : rows.length ≤ 1000000) :
    Calls Tryz.prog 130 #[.pointer (some ⟨x,0,none⟩),.int .i64 id] w (Yields w (.int .i64 (idPl rows id))) := by
  have HI := hid h
  obtain ⟨c0,-,-,-⟩ := h.cells
  have hlt := h.lt
  clear h
  go_enter Tryz.func130,Tryz.ntmps130
  have hrow := hid (HI.out.row.ext (Ext.alloc (Ext.refl w) (.cells #[.int .i64 id] 3 (0,0))))
  go_wp2_with (go_at_call 146; (with_reducible refine (indexFunc_any base v rows w.heap.size id _ hrow.out hl (by simp)).yields ?_); intro p0)
  go_returns
  exact ⟨rfl,ext_by⟩
theorem find_to {base x : Nat} {v : Value} {room : Int} {rows : List En} {id r : Int} (e : idPl rows id = r) (w : World) (h : Ix base x v room rows.length rows w) (hl : rows.length ≤ 1000000) :
    Calls Tryz.prog 130 #[.pointer (some ⟨x,0,none⟩),.int .i64 id] w (Yields w (.int .i64 r)) := e ▸ find_any base x v room rows id w h hl
end Go.Proofs.YtocicffmajbecaaGreatDoor
