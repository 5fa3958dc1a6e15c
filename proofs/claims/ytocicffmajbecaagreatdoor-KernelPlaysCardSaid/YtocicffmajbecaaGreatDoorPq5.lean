/- The methods of an index that change it; All. -/
import Derived.Test.YtocicffmajbecaaGreatDoorPq3
import Derived.Test.YtocicffmajbecaaGreatDoorPq4
import Derived.WalkKit
import Derived.WalkSpells
import Derived.WalkLawsBesides
import Derived.Deep.QuietTactic
import Derived.BigQuiet
import Derived.Handy
namespace Go.Proofs.YtocicffmajbecaaGreatDoor
open Go.RowKit
def Went (base x : Nat) (v : Value) (room : Int) (rows : List En) (w w' : World) : Prop := ∃ v',Ix base x v' room rows.length rows w' ∧ Mv x v v' w w'
theorem formed_to {pass id : Int} {r : Bool} (e : formedB pass id = r) (w : World) : Calls Tryz.prog 129 #[.int .i64 pass,.int .i64 id] w fun e w' => e = .returned (.bool r) ∧ w' = w := e ▸ formed_any pass id w
theorem Ix.deleted {base x g : Nat} {v v' : Value} {room : Int} {n m : Nat} {rows rows' : List En} {w w1 : World} (h : Ix base x v room n rows w) (hg : w.grownBy w1 (some g)) (hv : v.ownBlock = some g) (hv' : v'.ownBlock = some g) (hr : Row w1 base v' m rows') :
    w1.cell? ⟨x,0,none⟩ = some v ∧ w1.frozen? ⟨x,0,none⟩ = false ∧ Ix base x v' room m rows' (w1.setCell ⟨x,0,none⟩ v') ∧ Mv x v v' w (w1.setCell ⟨x,0,none⟩ v') := by
  have hne : x ≠ g := fun e => h.far (by rw [hv,e])
  have hb : w1.heap[x]? = some (.cells #[v,.int .i64 room] 174 (0,0)) := by
    rw [hg.block x h.lt (by simpa using hne)]; exact h.blk
  refine ⟨by simp [World.cell?,hb],by simp [World.frozen?,hb],Ix.lay hb hr,Mv.setX ⟨hg.os,hg.tape,hg.output,hg.size,fun k hk _ hk2 => hg.block k hk ?_,fun k hk => .inl ?_⟩ _ _⟩
  · intro e; exact hk2 (by rw [hv,e])
  · rw [hv,← hk,hv']
set_option maxRecDepth 100000 in
set_option maxHeartbeats 2000000 in
theorem drop_yes (base x : Nat) (v : Value) (room : Int) (rows : List En) (id : Int) (w : World) (h : Ix base x v room rows.length rows w) (hl : rows.length ≤ 1000) (hf : idAt rows id < rows.length) :
    Calls Tryz.prog 112 #[.pointer (some ⟨x,0,none⟩),.int .i64 id] w fun e w' => e = .returned .nilIface ∧ Went base x v room (rows.eraseIdx (idAt rows id)) w w' := by
  have hp : Hid (idPl rows id = (idAt rows id : Int)) := if_pos hf
  have HI := hid h
  obtain ⟨g,cap,rfl,hgb,hgl,hc1,hc2⟩ := h.row.shape (by omega)
  have HL := hid hl
  obtain ⟨k,hk⟩ : ∃ k,rows.length = idAt rows id + k + 1 := ⟨rows.length - idAt rows id - 1,by omega⟩
  have hel : Hid ((rows.eraseIdx (idAt rows id)).length = idAt rows id + k) := by rw [Hid,List.length_eraseIdx,if_pos hf]; omega
  obtain ⟨c0,-,f0,-⟩ := h.cells
  have hlt := h.lt
  rw [hk] at c0
  have HK := hid hk
  have hi : (idAt rows id : Int) ≤ 1000 := by omega
  clear h hf hk hl hc1 hc2
  generalize idAt rows id = i at *
  go_enter Tryz.func112,Tryz.ntmps112
  go_wp2_with (go_at_call 130; (with_reducible refine (find_to hp.out _ HI.out (Nat.le_trans HL.out (by decide))).yields ?_); intro p0)
  have HX := hid (HI.out.ext (ext_more w p0))
  have HR : Hid (Row (more w p0) base (.slice (some ⟨g,0,none⟩) (i + k + 1) cap) (i + k + 1) rows) := by have h := HX.out.row; rw [HK.out] at h; exact h
  go_wp2_with fail
  (with_reducible refine (delete_any base g cap i k rows HK.out HL.out _ HR.out).mono ?_)
  rintro e w2 ⟨rfl,hr2,hg2⟩
  obtain ⟨q0,qf,hI,hM⟩ := HX.out.deleted hg2 rfl rfl hr2
  rw [HK.out] at q0
  have HM : Hid (Went base x (.slice (some ⟨g,0,none⟩) rows.length cap) room (rows.eraseIdx i) w (w2.setCell ⟨x,0,none⟩ (.slice (some ⟨g,0,none⟩) (i + k) cap))) := ⟨_,by rw [hel.out]; exact hI,(Mv.of_ext (ext_more w p0)).trans hM⟩
  clear hr2 hg2 hI hM
  go_wp2
  go_returns
  exact ⟨rfl,HM.out⟩
set_option maxHeartbeats 1000000 in
theorem drop_no (base x : Nat) (v : Value) (room : Int) (rows : List En) (id : Int) (w : World) (h : Ix base x v room rows.length rows w) (hl : rows.length ≤ 1000) (hf : ¬ idAt rows id < rows.length) :
    Calls Tryz.prog 112 #[.pointer (some ⟨x,0,none⟩),.int .i64 id] w (Yields w (errV 13)) := by
  have hp : Hid (idPl rows id = -1) := if_neg hf
  have HI := hid h
  have HL := hid hl
  clear h hf hl
  rw [errV_pos (by decide)]
  go_enter Tryz.func112,Tryz.ntmps112
  go_wp2_with (go_at_call 130; (with_reducible refine (find_to hp.out _ HI.out (Nat.le_trans HL.out (by decide))).yields ?_); intro p0)
  go_returns
  exact ⟨rfl,ext_by⟩
set_option maxRecDepth 100000 in
set_option maxHeartbeats 2000000 in
theorem put_yes (base x : Nat) (v : Value) (room : Int) (rows : List En) (pass id : Int) (w : World) (h : Ix base x v room rows.length rows w) (hb : base ≤ x) (hl : rows.length ≤ 1000) (hform : formedB pass id = true) (hf : ¬ idAt rows id < rows.length) (hr : (rows.length : Int) < room) :
    Calls Tryz.prog 111 #[.pointer (some ⟨x,0,none⟩),.int .i64 pass,.int .i64 id] w fun e w' => e = .returned .nilIface ∧ Went base x v room (ins (pass,id) rows) w w' := by
  have hp : Hid (idPl rows id = -1) := if_neg hf
  have HI := hid h
  have HL := hid hl
  have HF := hid hform
  obtain ⟨p,cap,rfl,-,-,-⟩ := h.row.slice
  obtain ⟨c0,c1,-,-⟩ := h.cells
  have hlt := h.lt
  have hrd : (decide (room ≤ (rows.length : Int))) = false := by simpa using hr
  have HLen := hid (ins_length (pass,id) rows)
  clear h hf hl hform
  go_enter Tryz.func111,Tryz.ntmps111
  go_wp2_with (first | (go_at_call 129; (with_reducible refine (formed_to HF.out _).mono ?_); rintro e w1 ⟨rfl,hw1⟩; rw [hw1]; clear hw1; clear w1) | (go_at_call 130; (with_reducible refine (find_to hp.out _ HI.out (Nat.le_trans HL.out (by decide))).yields ?_); intro p0))
  ((first | refine wp_region_more (by kernel_rfl) (by kernel_rfl) ?_ | refine wp_region_ext (by kernel_rfl) (by kernel_rfl) ?_); (try dsimp only [append_cons',append_nil']); (repeat (go_big_quiet_step ((fail)))); refine wpQuiet_nil ?_; rintro _ ⟨pq,rfl⟩)
  go_wp2_with fail
  have HX : Hid (Ix base x (.slice p rows.length cap) room rows.length (rows ++ []) (more w pq)) := by rw [List.append_nil]; exact HI.out.ext (ext_more w pq)
  (with_reducible refine (place_any base x (.slice p rows.length cap) room rows [] (pass,id) _ HX.out HL.out (by have := HX.out.lt; omega)).mono ?_)
  rintro e w2 ⟨rfl,v2,hI,hM,-⟩
  have HM : Hid (Went base x (.slice p rows.length cap) room (ins (pass,id) rows) w w2) := ⟨v2,by rw [HLen.out]; simpa using hI,(Mv.of_ext (ext_more w pq)).trans hM⟩
  clear hI hM
  go_wp2
  go_returns
  exact ⟨rfl,HM.out⟩
theorem Went.trans {base x : Nat} {v v1 : Value} {room : Int} {rows : List En} {w w1 w2 : World} (h : Mv x v v1 w w1) (k : Went base x v1 room rows w1 w2) : Went base x v room rows w w2 := by
  obtain ⟨v2,hI,hM⟩ := k
  exact ⟨v2,hI,h.trans hM⟩
set_option maxRecDepth 100000 in
set_option maxHeartbeats 2000000 in
theorem rekey_yes (base x : Nat) (v : Value) (room : Int) (rows : List En) (id pass : Int) (w : World) (h : Ix base x v room rows.length rows w) (hb : base ≤ x) (hl : rows.length ≤ 1000) (hform : formedB pass id = true) (hf : idAt rows id < rows.length) :
    Calls Tryz.prog 121 #[.pointer (some ⟨x,0,none⟩),.int .i64 id,.int .i64 pass] w fun e w' => e = .returned .nilIface ∧ Went base x v room (ins (pass,id) (rows.eraseIdx (idAt rows id))) w w' := by
  have HF := hid hform
  have HD := hid (drop_yes base x v room rows id w h hl hf)
  have hle : (rows.eraseIdx (idAt rows id)).length ≤ 1000 := Nat.le_trans (List.length_eraseIdx_le _ _) hl
  generalize rows.eraseIdx (idAt rows id) = rows1 at *
  have HL := hid hle
  have HLen := hid (ins_length (pass,id) rows1)
  have hnn := fun w => run_neq_nil_nil' (P := Tryz.prog) w Tryz.underlying31
  clear h hl hform hf hle
  go_enter Tryz.func121,Tryz.ntmps121
  go_wp2_with (first | (go_at_call 129; (with_reducible refine (formed_to HF.out _).mono ?_); rintro e w1 ⟨rfl,hw1⟩; rw [hw1]; clear hw1; clear w1) | (go_at_call 112; (with_reducible refine HD.out.mono ?_); rintro e w1 ⟨rfl,v1,hI1,hM1⟩; have HI1 := hid hI1; have HM1 := hid hM1; clear hI1 hM1))
  have HX : Hid (Ix base x v1 room rows1.length (rows1 ++ []) w1) := by rw [List.append_nil]; exact HI1.out
  (with_reducible refine (place_any base x v1 room rows1 [] (pass,id) _ HX.out HL.out (by have := HX.out.lt; omega)).mono ?_)
  rintro e w2 ⟨rfl,v2,hI,hM,-⟩
  have HM : Hid (Went base x v room (ins (pass,id) rows1) w w2) := ⟨v2,by rw [HLen.out]; simpa using hI,HM1.out.trans hM⟩
  clear hI hM
  go_wp2
  go_returns
  exact ⟨rfl,HM.out⟩
set_option maxRecDepth 100000 in
set_option maxHeartbeats 2000000 in
theorem rekey_no (base x : Nat) (v : Value) (room : Int) (rows : List En) (id pass : Int) (w : World) (h : Ix base x v room rows.length rows w) (hl : rows.length ≤ 1000) (hform : formedB pass id = true) (hf : ¬ idAt rows id < rows.length) :
    Calls Tryz.prog 121 #[.pointer (some ⟨x,0,none⟩),.int .i64 id,.int .i64 pass] w (Yields w (errV 13)) := by
  have HF := hid hform
  have HD := hid (drop_no base x v room rows id w h hl hf)
  clear h hl hform hf
  rw [errV_pos (by decide)] at HD ⊢
  go_enter Tryz.func121,Tryz.ntmps121
  go_wp2_with (first | (go_at_call 129; (with_reducible refine (formed_to HF.out _).mono ?_); rintro e w1 ⟨rfl,hw1⟩; rw [hw1]; clear hw1; clear w1) | (go_at_call 112; (with_reducible refine HD.out.yields ?_); intro p0))
  go_returns
  exact ⟨rfl,ext_by⟩
end Go.Proofs.YtocicffmajbecaaGreatDoor
