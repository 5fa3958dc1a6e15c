/- Drop. -/
import Derived.Test.YtoimkocjfijlkaaDoorOb2
namespace Go.Proofs.YtoimkocjfijlkaaDoor
open Go.RowKit
namespace Ob
open Go.Maps (Tidy IsMap Keyed)

section
variable {base x : Nat} {c : Nat → Int} {r : Nat → List Wt} {m : Value} {D : DataW Value} {w w' w1 w2 : World}
/-- One is out: of the map, and of his row. -/
theorem Obs.out (h : Obs base x c r m D w) {i : Nat} (hi : i < 4) {L1 L2 : List Wt} {e : Wt} (hr : r i = L1 ++ e :: L2) {b : Nat} (hm : m = .map (some b)) (ho : OM w1 b (D.del (key e.1))) (hg : w.grownBy w1 (some b))
    {v : Ending} (hl : Left x i c (fun i => headOr (r i) nilV) (fun i => lastOr nilV (r i)) m (L1 ++ L2) w1 v w2) : Obs base x c (upd r i (L1 ++ L2)) m (D.del (key e.1)) w2 ∧ Mvp (Own x m r) (Own x m (upd r i (L1 ++ L2))) w w2 := by
  obtain ⟨-, h1, h2, h3⟩ := hl
  have hp := flat_out hi hr
  have hF := h.full.perm hp
  have hN := (hp.map (·.1)).nodup h.ids
  have hB := (hp.map (·.2)).nodup h.apart
  obtain ⟨b1, b2, b3, b4⟩ := h.mapFar hm
  have hT : Tidy D := by
    rcases h.map with ⟨q, _⟩ | ⟨b', q, _, q3⟩
    · rw [q] at hm; cases hm
    · exact World.ownsMap.tidy q3 law
  have hin : ∀ k, In x (L1 ++ L2) k → k = x ∨ ∃ p ∈ r i, p.2 = k := by
    rintro k (rfl | ⟨p, hp, rfl⟩)
    · exact .inl rfl
    · refine .inr ⟨p, ?_, rfl⟩
      rw [hr]
      rcases List.mem_append.1 hp with q | q
      · simp [q]
      · simp [q]
  have hbx : ¬ In x (L1 ++ L2) b := fun q => by
    rcases hin b q with q | ⟨p, q1, q2⟩
    · exact b1 q
    · exact b4 p (mem_flat.2 ⟨i, hi, q1⟩) q2
  have far : ∀ j, j < 4 → j ≠ i → ∀ f ∈ r j, ¬ In x (L1 ++ L2) f.2 := fun j hj hji f hf q => by
    rcases q with q | ⟨p, q1, q2⟩
    · exact (h.node (mem_flat.2 ⟨j, hj, hf⟩)).2 q
    · rw [List.map_cons, List.nodup_cons] at hB
      have hnd := hB.2
      have hji' : upd r i (L1 ++ L2) j = r j := upd_other hji
      have hii : upd r i (L1 ++ L2) i = L1 ++ L2 := upd_same _ _ _
      have : ∀ {R : Nat → List Wt}, ((flat R).map (·.2)).Nodup → ∀ {i j}, i < 4 → j < 4 → j ≠ i → ∀ p ∈ R i, ∀ f ∈ R j, p.2 ≠ f.2 := by
        intro R hR i j hi hj hji p hp f hf
        simp only [flat, List.map_append, List.nodup_append, List.mem_append, List.mem_map] at hR
        obtain ⟨-, ⟨-, ⟨-, -, h23⟩, h1⟩, h0⟩ := hR
        rcases four hi with rfl | rfl | rfl | rfl <;> rcases four hj with rfl | rfl | rfl | rfl
        all_goals first
          | exact absurd rfl hji
          | exact h0 _ ⟨p, hp, rfl⟩ _ (.inl ⟨f, hf, rfl⟩)
          | exact h0 _ ⟨p, hp, rfl⟩ _ (.inr (.inl ⟨f, hf, rfl⟩))
          | exact h0 _ ⟨p, hp, rfl⟩ _ (.inr (.inr ⟨f, hf, rfl⟩))
          | exact fun q => h0 _ ⟨f, hf, rfl⟩ _ (.inl ⟨p, hp, rfl⟩) q.symm
          | exact fun q => h0 _ ⟨f, hf, rfl⟩ _ (.inr (.inl ⟨p, hp, rfl⟩)) q.symm
          | exact fun q => h0 _ ⟨f, hf, rfl⟩ _ (.inr (.inr ⟨p, hp, rfl⟩)) q.symm
          | exact h1 _ ⟨p, hp, rfl⟩ _ (.inl ⟨f, hf, rfl⟩)
          | exact h1 _ ⟨p, hp, rfl⟩ _ (.inr ⟨f, hf, rfl⟩)
          | exact fun q => h1 _ ⟨f, hf, rfl⟩ _ (.inl ⟨p, hp, rfl⟩) q.symm
          | exact fun q => h1 _ ⟨f, hf, rfl⟩ _ (.inr ⟨p, hp, rfl⟩) q.symm
          | exact h23 _ ⟨p, hp, rfl⟩ _ ⟨f, hf, rfl⟩
          | exact fun q => h23 _ ⟨f, hf, rfl⟩ _ ⟨p, hp, rfl⟩ q.symm
      exact this hnd hi hj hji p (by rw [hii]; exact q1) f (by rw [hji']; exact hf) q2
  have hx1 : x < w1.heap.size := Nat.lt_of_lt_of_le h.lt hg.size
  have hb2 : w2.heap[b]? = w1.heap[b]? := h3.block b (lt_blk ho.obj.choose_spec.choose_spec) hbx
  refine ⟨⟨?_, fun j hj => ?_, ?_, ?_, fun f hf => h.wf f (hp.mem_iff.2 (by simp [hf])), fun f hf => h.low f (hp.mem_iff.2 (by simp [hf])), .inr ⟨b, hm, b3, ho.of_block hb2⟩, hF.del hT hN, h.bx, h.cb⟩, ?_⟩
  · have e1 := upd_comp (fun L => headOr L nilV) r i (L1 ++ L2)
    have e2 := upd_comp (fun L => lastOr nilV L) r i (L1 ++ L2)
    rw [e1, e2]
    exact h1
  · by_cases hji : j = i
    · subst hji
      rw [upd_same]
      exact h2
    · rw [upd_other hji]
      refine (h.seg j hj).keep fun f hf => ?_
      have hf' := mem_flat.2 ⟨j, hj, hf⟩
      have hfl := (h.node hf').1
      have hfb := b4 f hf'
      rw [h3.block f.2 (Nat.lt_of_lt_of_le hfl hg.size) (far j hj hji f hf)]
      exact hg.block f.2 hfl fun q => hfb (Option.some.inj q)
  · rw [List.map_cons, List.nodup_cons] at hB
    exact hB.2
  · rw [List.map_cons, List.nodup_cons] at hN
    exact hN.2
  · have m1 : Mvp (Own x m r) (Own x m r) w w1 := (Mvp.refl _ w).grown (.inr (.inl hm)) hg
    have hIO : ∀ k, In x (L1 ++ L2) k → Own x m r k := fun k hk => by
      rcases hin k hk with q | ⟨p, q1, q2⟩
      · exact .inl q
      · exact .inr (.inr ⟨p, mem_flat.2 ⟨i, hi, q1⟩, q2⟩)
    have m2 : Mvp (Own x m r) (Own x m (upd r i (L1 ++ L2))) w1 w2 :=
      ⟨h3.os, h3.tape, h3.output, h3.size, fun k hk hA => h3.block k hk fun q => hA (hIO k q), fun k hk => by
        rcases hk with q | q | ⟨f, hf, q⟩
        · exact .inl (.inl q)
        · exact .inl (.inr (.inl q))
        · exact .inl (.inr (.inr ⟨f, hp.mem_iff.2 (by simp [hf]), q⟩))⟩
    exact m1.trans m2

/-- Behind a drop. -/
def Dropt (base x : Nat) (c : Nat → Int) (r : Nat → List Wt) (m : Value) (i : Nat) (M : List Wt) (w : World) (e : Ending) (w' : World) : Prop :=
  e = .returned (.bool true) ∧ ∃ D', Obs base x c (upd r i M) m D' w' ∧ Mvp (Own x m r) (Own x m (upd r i M)) w w'
set_option maxRecDepth 100000 in
set_option maxHeartbeats 4000000 in
theorem drop_yes (h : Obs base x c r m D w) {i : Nat} (hi : i < 4) {L1 L2 : List Wt} {e : Wt} (hr : r i = L1 ++ e :: L2) :
    Calls Tryd.prog 11 #[ptrV x, .int .i64 e.1] w (Dropt base x c r m i (L1 ++ L2) w) := by
  have hmem : e ∈ flat r := mem_flat.2 ⟨i, hi, by rw [hr]; simp⟩
  have hwf := h.wf e hmem
  obtain ⟨b, rfl, ho⟩ : ∃ b, m = .map (some b) ∧ OM w b D := by
    rcases h.map with ⟨q1, q2⟩ | ⟨b, q1, _, q2⟩
    · have := (h.full.here e hmem).1
      rw [q2] at this
      simp [hasK, Maps.has] at this
    · exact ⟨b, q1, q2⟩
  have hk := look_any ho hwf (h.full.here e hmem).2
  have c1 := h.at'.map
  have hx := h.lt
  have hnd : ((L1 ++ e :: L2).map (·.2)).Nodup := by
    have h1 := h.apart
    rw [← hr]
    simp only [flat, List.map_append, List.nodup_append] at h1
    obtain ⟨a0, ⟨a1, ⟨a2, a3, _⟩, _⟩, _⟩ := h1
    rcases four hi with rfl | rfl | rfl | rfl <;> assumption
  have HH := hid h
  have HR := hid hr
  have HN := hid hnd
  have HI := hid hi
  have CL : Hid (∀ w1, OM w1 b (D.del (key e.1)) → w.grownBy w1 (some b) → Calls Tryd.prog 22 #[ptrV e.2] w1 (Left x i c (fun i => headOr (r i) nilV) (fun i => lastOr nilV (r i)) (.map (some b)) (L1 ++ L2) w1)) := fun w1 _ hg => by
    obtain ⟨b1, b2, b3, b4⟩ := HH.out.mapFar rfl
    have hs := HH.out.seg i HI.out
    rw [HR.out] at hs
    refine leave_any (HH.out.at'.same (hg.block x HH.out.lt fun q => b1 (Option.some.inj q).symm)) HI.out (hs.keep fun f hf => ?_) HN.out (by rw [HR.out]) (by rw [HR.out])
    have hf' : f ∈ flat r := mem_flat.2 ⟨i, HI.out, by rw [HR.out]; exact hf⟩
    exact hg.block f.2 (HH.out.node hf').1 fun q => b4 f hf' (Option.some.inj q)
  clear h hr hnd hi hmem
  have HWF := hid hwf
  go_enter Tryd.func11, Tryd.ntmps11
  go_wp2_with (first | (at_delete; refine wpList_delete_own _ rfl _ _ 56 3 rfl 52 law Tryd.underlying56 same b _ D rfl ho _ _ rfl (Go.Maps.keyOf_int_mk Tryd.underlying3 HWF.out.lit) ?_; intro w1 ho1 ht1; have O1 := hid (tight ho1); have G1 := hid ht1.grown; clear ho1 ht1; have C1 := hid (CL.out w1 O1.out G1.out)) | (go_at_call 22; (with_reducible refine C1.out.mono ?_); rintro e1 w2 hl2; have L2' := hid hl2; clear hl2; obtain rfl := L2'.out.1))
  go_returns
  exact ⟨rfl, _, HH.out.out HI.out HR.out rfl O1.out G1.out L2'.out⟩
set_option maxHeartbeats 2000000 in
theorem drop_no (h : Obs base x c r m D w) {id : Int} (hwf : wf64 id) (hno : ∀ e ∈ flat r, e.1 ≠ id) :
    Calls Tryd.prog 11 #[ptrV x, .int .i64 id] w fun e w' => e = .returned (.bool false) ∧ w' = w := by
  have hk := look_places h.map hwf (h.full.miss hno)
  have c1 := h.at'.map
  have hx := h.lt
  have HS : ∃ r, m = .map r := by
    rcases h.map with ⟨q, _⟩ | ⟨b, q, _⟩
    · exact ⟨_, q⟩
    · exact ⟨_, q⟩
  clear h hno
  obtain ⟨q, rfl⟩ := HS
  go_enter Tryd.func11, Tryd.ntmps11
  go_wp2
  go_returns
  exact ⟨rfl, rfl⟩
end
end Ob
end Go.Proofs.YtoimkocjfijlkaaDoor
