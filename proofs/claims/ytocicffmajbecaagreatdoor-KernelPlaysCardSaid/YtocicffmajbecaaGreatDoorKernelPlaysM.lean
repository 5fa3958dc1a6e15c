/- KernelPlays: every row of what threads do, and time: each answer, each error, all nodes behind each: as the document's kernel: the law answers true. The variable of the type of errors is as it is laid. -/
import Derived.Test.YtocicffmajbecaaGreatDoorPkAll
import Derived.Test.YtocicffmajbecaaGreatDoorTail
import Derived.WalkKit
import Derived.WalkSpells
import Derived.WalkLawsBesides
import Derived.Deep.RegionLaw
import Derived.Handy
import Derived.Test.YtocicffmajbecaaGreatDoorErr
import Derived.Test.YtocicffmajbecaaGreatDoorKrAll
import Derived.Test.YtocicffmajbecaaGreatDoorSI
import Derived.Test.YtocicffmajbecaaGreatDoorTqAll
import Derived.Test.YtocicffmajbecaaGreatDoorAs
import Derived.Test.YtocicffmajbecaaGreatDoorOwnA
import Derived.IntWalk
import Derived.Deep.LoopGhost
import Derived.Deep.CutBlock
import Derived.Deep.DeepCutAuto
import Derived.Test.YtocicffmajbecaaGreatDoorTie
import Derived.Test.YtocicffmajbecaaGreatDoorCards
import Derived.SevenTiedAt
import Derived.ChangeMaps5
import Derived.ChangeSame
import Derived.ChangeVars
import Derived.JoinedOf
import Derived.RowKitTokens
import Derived.LaidLaws
import Derived.LaidHandle
import Derived.Stop.Joined
import Derived.SizedLaws
namespace Go.Proofs.YtocicffmajbecaaGreatDoor
open Go.RowKit
set_option maxRecDepth 100000
set_option linter.unusedSimpArgs false
namespace Pk
open Rw (En)
open Kn
section
variable {w0 v w w' wr z : World} {b : Nat} {a g th gr : Int} {k : Kd} {A : Nat → Prop} {tick : Int} {i : Nat} {vd : Value}
set_option maxHeartbeats 8000000 in
theorem wake_raw (h : PG w0 b a g k A v w) (hk : KOk th gr k) (tick : Int) :
    Calls Tryz.prog 23 #[.pointer (some ⟨b,0,none⟩),.int .i64 tick] w fun e w' => ∃ vd,e = .returned vd ∧ WkI w0 b a g k A v tick w (Ti.dueIds tick k.M).length vd w' := by
  have CD := hid (p_due h (h.few hk) tick)
  have hb := h.lt
  have HW := hid hk.wf
  have hlen : (Ti.dueIds tick k.M).length ≤ 60 := by
    have h1 := Ti.dueIds_length tick k.M
    have h2 := h.few hk
    omega
  have HL := hid hlen
  clear h hk hlen
  obtain ⟨n,hn⟩ : ∃ n,n = (Ti.dueIds tick k.M).length := ⟨_,rfl⟩
  have HN := hid hn
  have HL2 : Hid (n ≤ 60) := by rw [hn]; exact HL.out
  clear hn HL
  go_enter Tryz.func23,Tryz.ntmps23
  go_wp2_with fail
  refine wp_goto 0 (WkJ w0 b a g k A v tick w n) (fun a' _ => lenOf (a'.tmps.getD 6 undef)) rfl ?_ ?_
  · refine fun a' w1 => ex_elim fun vd => ex_elim fun u => ex8 fun u2 u3 u4 u7 u8 u9 u10 u11 => ex8 fun u12 u13 u14 u15 u16 u17 u18 u19 => ex4 fun u20 u21 u22 u23 => ex2 fun u24 u25 => ?_
    rintro ⟨rfl,i,hi,-,hR,hI⟩
    have HI := hid hI
    have hb1 := hI.lt
    clear hI
    by_cases hlt : i < n
    · obtain ⟨d,hd⟩ : ∃ d,(Ti.dueIds tick k.M)[i]? = some d := ⟨_,List.getElem?_eq_getElem (by rw [← HN.out]; exact hlt)⟩
      obtain ⟨u',hu',hR'⟩ := hR.next hlt
      obtain ⟨q,c,rfl,hq⟩ := hR
      obtain ⟨gg,cap,rfl,rfl,rfl,hcap⟩ := hq hlt
      have hcell : w1.cell? ⟨gg,i,none⟩ = some (.int .i64 d) := by
        obtain ⟨B,-,-,-,h4⟩ := HI.out
        rcases h4.2 with ⟨e,_⟩ | ⟨g',cap',cur,e1,e2,e3,e4,e5,e6,e7⟩
        · cases e
        · injection e1 with e1 _ _
          injection e1 with e1
          injection e1 with e1
          subst e1
          have : ((Ti.dueIds tick k.M).map fun k => Value.int .i64 k)[i]? = some (.int .i64 d) := by rw [List.getElem?_map,hd]; rfl
          rw [← e7,List.getElem?_take,if_pos (by rw [← HN.out]; omega)] at this
          simp only [World.cell?,e3]
          simpa using this
      have HR' := hid hR'
      have HC := hid hcap
      have i1 : 0 < n - i := by omega
      have HNI := hid (And.intro hlt hi)
      have X3 : Ext w1 w1.drew := Ext.drew (Ext.refl _)
      have I3 := hid (HI.out.ext X3)
      have HSS : w1.drew.cell? ⟨gg,i,none⟩ = some (.int .i64 d) := X3.cell hcell
      clear hR' hcap hlt hi hq hcell HI
      obtain ⟨r,hr⟩ : ∃ r,r = n - i := ⟨_,rfl⟩
      have HRr := hid hr
      rw [← hr] at i1 hu' ⊢
      obtain ⟨cc,hcc⟩ : ∃ cc,cc = cap - i := ⟨_,rfl⟩
      have HCC := hid hcc
      rw [← hcc] at hu' ⊢
      clear hr hcc
      have i2 : (0 : Int) < (r : Int) := by omega
      go_wp2
      refine wp_region_T 6 1 (fun u => u.cell? ⟨gg,i,none⟩ = some (.int .i64 d)) (by kernel_rfl) (by kernel_rfl) ?_
      generalize w1.drew = z3 at *
      refine wpT_tk 0 HSS ?_; (try simp only [nrm])
      refine wpT_tk 1 HSS ?_; (try simp only [nrm])
      refine wpT_tk 2 HSS ?_; (try simp only [nrm])
      refine wpT_tk 3 HSS ?_; (try simp only [nrm])
      refine wpT_tk 4 HSS ?_; (try simp only [nrm])
      refine wpT_tk 5 HSS ?_; (try simp only [nrm])
      refine wpT_done (by kernel_rfl) ?_
      refine wpAny_on 6 (fun K' hK => ?_); go_simp
      (with_reducible refine (I3.out.step HW.out hd).mono ?_)
      rintro e w4 ⟨⟨r,rfl⟩,I4⟩
      refine hK.out _ _ ?_
      clear hK K'
      refine wpAny_done (by kernel_rfl) ?_ _
      (try simp only [nrm])
      have hb4 := I4.lt
      have HI4 := hid I4
      clear I4 HSS X3
      go_wp2
      go_step3
      simp only [Exit.then]
      refine ⟨rfl,⟨_,u',_,_,_,_,_,_,_,_,_,_,_,_,_,_,_,_,_,_,_,_,_,_,rfl,i + 1,by have := HNI.out; omega,HN.out,HR'.out,HI4.out⟩,?_⟩
      obtain ⟨q9,c9,e9,-⟩ := HR'.out
      have h9 := HRr.out
      have h8 := HNI.out
      subst e9
      simp [lenOf]
      omega
    · have he : n - i = 0 := by omega
      have hi2 : i = n := by omega
      obtain ⟨q,c,rfl,-⟩ := hR
      rw [he]
      subst hi2
      have HFI : Hid (WkI w0 b a g k A v tick w (Ti.dueIds tick k.M).length vd w1) := by rw [← HN.out]; exact HI.out
      clear he HI hi hlt
      go_wp2
      simp only [Exit.jump]
      go_ret
      exact ⟨_,rfl,HFI.out⟩
  · intro start
    have Start := hid start
    clear start
    go_wp2_with (go_at_call 68; (with_reducible refine CD.out.mono ?_); rintro e w2 ⟨vd,rfl,⟨B,h2,m2,f2⟩,o2⟩; have I0 : Hid (WkI w0 b a g k A v tick w 0 vd w2) := ⟨B,h2,m2,f2,o2⟩; have hb2 := h2.lt; clear h2 m2 f2)
    have hR0 : Rest vd vd n 0 := by
      rcases o2.2 with ⟨e,e0⟩ | ⟨g',cap',cur,e1,e2,e3,e4,e5,e6,e7⟩
      · refine ⟨none,0,by rw [e,HN.out,e0],fun h => ?_⟩
        rw [HN.out,e0] at h
        exact absurd h (Nat.lt_irrefl _)
      · exact ⟨_,_,by rw [e1,HN.out]; rfl,fun _ => ⟨g',_,by rw [e1,HN.out],rfl,rfl,by rw [HN.out]; exact e4⟩⟩
    have HR0 := hid hR0
    clear hR0 o2
    go_step3
    simp only [Exit.then]
    refine ‹∀ (a : Act) (w : World),Code.wp _ _ _ a w → _› _ _ ?_
    exact Start.out _ _ ⟨vd,vd,_,_,_,_,_,_,_,_,_,_,_,_,_,_,_,_,_,_,_,_,_,_,rfl,0,Nat.zero_le _,HN.out,HR0.out,I0.out⟩
end
end Pk
end Go.Proofs.YtocicffmajbecaaGreatDoor
namespace Go.Proofs.YtocicffmajbecaaGreatDoor
open Go.RowKit
set_option maxRecDepth 100000
set_option linter.unusedSimpArgs false
namespace Pk
open Rw (En)
open Kn
def q1 : Kd := runK' k0
def q2 : Kd := spawnK 2 q1 0 2
def q3 : Kd := groupK 1 q2 0 1
def q4 : Kd := sleepK q3 1 9
def q5 : Kd := waitK q4 2 0
def q6 : Kd := signalK q5 0
def q7 : Kd := runK' q6
def q8 : Kd := { q7 with l := wakes q7.l [1],M := Ti.sleepOn 9 q7.M }
theorem shapeOf {w : World} {base T n m : Nat} {v : Value} {xs : List Value} (h : w.ownsRow base T n v m xs) : ∃ p c,v = .slice p m c := by
  rcases h.2 with ⟨rfl,rfl⟩ | ⟨g,cap,cur,rfl,_⟩
  · exact ⟨none,0,rfl⟩
  · exact ⟨_,cap,rfl⟩
theorem due_one {k : Kd} {tick id u : Int} (h : k.M = [(id,u)]) (hu : u ≤ tick) : Ti.dueIds tick k.M = [id] := by
  unfold Ti.dueIds
  refine Ti.sortI_of ?_ (List.pairwise_singleton _ _)
  unfold Ti.isDue
  rw [h]
  simp [hu]
structure QF : Prop where
  r0 : runK k0.l = (1,true)
  s1 : spawnE 2 q1 0 2 = 0
  l1 : q1.last = 1
  s2 : spawnE 2 q2 0 2 = 14
  l2 : q2.last = 2
  g2 : groupE 1 q2 0 1 = 0
  l3 : q3.last = 3
  y3 : rdyE q3 1 = 0
  l4 : q4.last = 3
  w4 : (waitA q4 2 0).on = false ∧ (waitA q4 2 0).err = 0
  r5 : rootR q5.l = false
  i5 : (Ob.sigR 0 q5.c q5.W).err = 0
  r6 : runK q6.l = (2,true)
  m7 : q7.M = [(1,9)]
  u8 : stU q8.l 7 = none
  t8 : (tids q8.l).length = 2
  n8 : q8.l.length = 4
theorem qf : QF := by
  constructor
  all_goals first | kernel_rfl | (constructor <;> kernel_rfl) | decide
set_option maxHeartbeats 8000000 in
theorem known_any (w : World) : Calls Tryz.prog 4 #[] w (Yields w (.bool true)) := by
  have F := hid qf
  have hqn := fun w => run_eql_nil_nil' (P := Tryz.prog) w Tryz.underlying31
  have hnn := fun w => run_neq_nil_nil' (P := Tryz.prog) w Tryz.underlying31
  go_enter Tryz.func4,Tryz.ntmps4
  go_wp2_with fail
  (with_reducible refine (k_new w w (Ext.refl w) 2 1).mono ?_)
  rintro e v1 ⟨b,rfl,s1,-⟩
  rw [show max (1 : Int) (min 2 8) = 2 by decide,show max (0 : Int) (min 1 4) = 1 by decide] at s1
  go_wp2_with fail
  (with_reducible refine (k_run (k' := q1) s1 F.out.r0 rfl).mono ?_)
  rintro e v2 ⟨rfl,s2⟩
  clear s1
  go_wp2_with fail
  (with_reducible refine (spawn_ok (p := 0) (wt := 2) (k' := q2) s2 (by rw [F.out.l1]; decide) F.out.s1 (n := 2) (by rw [F.out.l1]; decide) rfl).mono ?_)
  rintro e v3 ⟨rfl,s3⟩
  clear s2
  go_wp2_with fail
  (with_reducible refine (spawn_er (p := 0) (wt := 2) s3 (by rw [F.out.l2]; decide) F.out.s2 (by decide)).mono ?_)
  rintro e v4 ⟨rfl,s4⟩
  clear s3
  go_wp2_with fail
  (with_reducible refine (group_ok (p := 0) (wt := 1) (k' := q3) s4 (by rw [F.out.l2]; decide) F.out.g2 (n := 3) (by rw [F.out.l2]; decide) rfl).mono ?_)
  rintro e v5 ⟨rfl,s5⟩
  clear s4
  go_wp2_with fail
  (with_reducible refine (sleep_ok (id := 1) (u := 9) (k' := q4) s5 (by rw [F.out.l3]; decide) F.out.y3 rfl).mono ?_)
  rintro e v6 ⟨rfl,s6⟩
  clear s5
  go_wp2_with fail
  (with_reducible refine (wait_ok (id := 2) (o := 0) (k' := q5) s6 (by rw [F.out.l4]; decide) F.out.w4.1 F.out.w4.2 rfl).mono ?_)
  rintro e v7 ⟨rfl,s7⟩
  clear s6
  go_wp2_with fail
  (with_reducible refine (k_runnable s7 F.out.r5).mono ?_)
  rintro e v8 ⟨rfl,x8⟩
  have s8 := s7.ext x8
  clear s7 x8
  go_wp2_with fail
  (with_reducible refine (signal_ok (o := 0) (k' := q6) s8 F.out.i5 rfl).mono ?_)
  rintro e v9 ⟨rfl,s9⟩
  clear s8
  go_wp2_with fail
  (with_reducible refine (k_run (k' := q7) s9 F.out.r6 rfl).mono ?_)
  rintro e v10 ⟨rfl,s10⟩
  clear s9
  have hd : Ti.dueIds 9 q7.M = [1] := due_one F.out.m7 (by decide)
  have h8 : wakeK q7 9 = q8 := by
    unfold wakeK
    rw [hd]
    rfl
  go_wp2_with fail
  (with_reducible refine (k_wake (k' := q8) s10 hd h8).mono ?_)
  rintro e v11 ⟨vd,rfl,s11,o11⟩
  clear s10 hd h8
  go_wp2_with fail
  (with_reducible refine (exit_er (id := 7) s11 F.out.u8).mono ?_)
  rintro e v12 ⟨rfl,x12⟩
  have s12 := s11.ext x12
  have o12 := owns_ext o11 x12
  clear s11 o11
  rcases o12.2 with ⟨e,e0⟩ | ⟨g',cap',cur,rfl,e2,e3,e4,e5,e6,e7⟩
  · cases e0
  have c0 : v12.cell? ⟨g',0,none⟩ = some (.int .i64 1) := by
    have : ([Value.int .i64 1])[0]? = some (.int .i64 1) := rfl
    have e7 : cur.toList.take 1 = [Value.int .i64 1] := e7
    rw [← e7,List.getElem?_take,if_pos (by decide)] at this
    simp only [World.cell?,e3]
    simpa using this
  have hg := (World.ownsRow.lt o12 g' rfl).2
  clear o12 e2 e3 e4 e5 e6 e7
  go_wp2_with (first
    | (go_at_call 34; (with_reducible refine (is_errno_to (r := true) rfl _).yields ?_); intro p1))
  (with_reducible refine (k_threads (s12.ext ext_by)).mono ?_)
  rintro e v13 ⟨vt,rfl,x13,o13⟩
  obtain ⟨p3,c3,rfl⟩ : ∃ p c,vt = .slice p 2 c := by
    have := shapeOf o13
    rwa [F.out.t8] at this
  have X13 := hid x13
  clear o13 x13
  go_wp2_with fail
  (with_reducible refine (k_nodes ((s12.ext ext_by).ext X13.out)).mono ?_)
  rintro e v14 ⟨vn,rfl,x14,o14⟩
  obtain ⟨p4,c4,rfl⟩ : ∃ p c,vn = .slice p 4 c := by
    obtain ⟨p,c,e,-,-⟩ := o14.shape
    rw [List.length_map,F.out.n8] at e
    exact ⟨p,c,e⟩
  have S14 := hid (((s12.ext ext_by).ext X13.out).ext x14)
  clear s12 o14 x14 X13
  go_wp2
  go_returns
  exact ⟨rfl,S14.out.xt.trans ext_by⟩
end Pk
end Go.Proofs.YtocicffmajbecaaGreatDoor
namespace Go.Proofs.YtocicffmajbecaaGreatDoor
open Go.RowKit
set_option maxRecDepth 100000
set_option linter.unusedSimpArgs false
namespace Kp
open Rw (En)
open Kn
def SameF (F : Nat → Prop) (w w' : World) : Prop := ∀ k,F k → w'.heap[k]? = w.heap[k]?
theorem SameF.trans {F : Nat → Prop} {w w1 w2 : World} (h : SameF F w w1) (k : SameF F w1 w2) : SameF F w w2 := fun i hi => (k i hi).trans (h i hi)
def Q (w0 : World) (y x : Nat) (th gr : Int) (k : Kd) (C : Nat → Prop) (w : World) : Prop := Ext w0 w ∧ ∃ tv v V ls,Kr.RK w0.heap.size y x th gr tv v V ls k w ∧ C = Kr.Own y x tv v V
section
variable {w0 w w' : World} {b y x : Nat} {th gr : Int} {p q p' q' : Kd} {A B C F : Nat → Prop}
theorem Q.own (h : Q w0 y x th gr q C w) : ∀ i,C i → w0.heap.size ≤ i ∧ i < w.heap.size := by
  obtain ⟨_,tv,v,V,ls,h1,rfl⟩ := h
  exact h1.own
theorem Q.ext (h : Q w0 y x th gr q C w) (e : Ext w w') : Q w0 y x th gr q C w' := by
  obtain ⟨h0,tv,v,V,ls,h1,h2⟩ := h
  exact ⟨h0.trans e,tv,v,V,ls,h1.ext e,h2⟩
theorem Q.keep (h : Q w0 y x th gr q C w) (m : Mvp A B w w') (hAC : ∀ i,A i → ¬ C i) (hA : ∀ i,A i → w0.heap.size ≤ i) : Q w0 y x th gr q C w' ∧ ∀ i,B i → ¬ C i := by
  have hlt := fun i hi => (h.own i hi).2
  obtain ⟨h0,tv,v,V,ls,h1,rfl⟩ := h
  refine ⟨⟨m.xt h0 hA,tv,v,V,ls,h1.keep fun i hi => m.block i (hlt i hi) fun e => hAC i e hi,rfl⟩,fun i hB hC => ?_⟩
  rcases m.own i hB with h4 | h4
  · exact hAC i h4 hC
  · have := hlt i hC
    omega
theorem Q.call {P : Program} {f : FuncId} {args : Array Value} {r : Ending} (h : Q w0 y x th gr q C w) (c : ∀ tv v V ls,Kr.RK w0.heap.size y x th gr tv v V ls q w → Calls P f args w fun e w' => e = r ∧ Kr.Goes w0.heap.size y x th gr tv v V q' w w') :
    Calls P f args w fun e w' => e = r ∧ ∃ D,Q w0 y x th gr q' D w' ∧ Mvp C D w w' := by
  obtain ⟨h0,tv,v,V,ls,h1,rfl⟩ := h
  refine (c tv v V ls h1).mono fun e w' ⟨a,tv',v',V',ls',r',m⟩ => ⟨a,_,⟨m.xt h0 fun i hi => (h1.own i hi).1,tv',v',V',ls',r',rfl⟩,m⟩
def Bo (w0 : World) (b y x : Nat) (th gr : Int) (p q : Kd) (F : Nat → Prop) (w : World) : Prop :=
  KOk th gr p ∧ KOk th gr q ∧ ∃ A C,Pk.PK w0 b (th - cntT p.l) (gr - cntG p.l) p A w ∧ Q w0 y x th gr q C w ∧ (∀ i,A i → ¬ C i) ∧ ∀ i,F i → i < w.heap.size ∧ w0.heap.size ≤ i ∧ ¬ A i ∧ ¬ C i
theorem Bo.xt (h : Bo w0 b y x th gr p q F w) : Ext w0 w := by
  obtain ⟨-,-,A,C,h1,-⟩ := h
  exact h1.xt
theorem Bo.lt (h : Bo w0 b y x th gr p q F w) : b < w.heap.size := by
  obtain ⟨-,-,A,C,h1,-⟩ := h
  exact h1.lt
theorem Bo.ext (h : Bo w0 b y x th gr p q F w) (e : Ext w w') : Bo w0 b y x th gr p q F w' ∧ SameF F w w' := by
  obtain ⟨a1,a2,A,C,h1,h2,h3,h4⟩ := h
  exact ⟨⟨a1,a2,A,C,h1.ext e,h2.ext e,h3,fun i hi => ⟨Nat.lt_of_lt_of_le (h4 i hi).1 e.size,(h4 i hi).2⟩⟩,fun i hi => e.below.block i (h4 i hi).1⟩
theorem Bo.fewer {G : Nat → Prop} (h : Bo w0 b y x th gr p q F w) (k : ∀ i,G i → F i) : Bo w0 b y x th gr p q G w := by
  obtain ⟨a1,a2,A,C,h1,h2,h3,h4⟩ := h
  exact ⟨a1,a2,A,C,h1,h2,h3,fun i hi => h4 i (k i hi)⟩
theorem Bo.alloc (h : Bo w0 b y x th gr p q F w) (o : Obj) : Bo w0 b y x th gr p q (fun k => k = w.heap.size ∨ F k) (w.alloc o) := by
  obtain ⟨a1,a2,A,C,h1,h2,h3,h4⟩ := h
  have hx : Ext w (w.alloc o) := Ext.alloc (Ext.refl w) o
  have hx0 := h1.xt.size
  refine ⟨a1,a2,A,C,h1.ext hx,h2.ext hx,h3,fun i hi => ?_⟩
  rcases hi with rfl | hi
  · exact ⟨by simp,hx0,fun e => absurd (h1.own _ e).2 (Nat.lt_irrefl _),fun e => absurd (h2.own _ e).2 (Nat.lt_irrefl _)⟩
  · exact ⟨Nat.lt_of_lt_of_le (h4 i hi).1 hx.size,(h4 i hi).2⟩
theorem Bo.inP {P : Program} {f : FuncId} {args : Array Value} {r : Ending} (h : Bo w0 b y x th gr p q F w) (hk : KOk th gr p') (c : ∀ A,Pk.PS w0 b th gr p A w w → Calls P f args w fun e w' => e = r ∧ Pk.PS w0 b th gr p' A w w') :
    Calls P f args w fun e w' => e = r ∧ Bo w0 b y x th gr p' q F w' ∧ SameF F w w' := by
  obtain ⟨a1,a2,A,C,h1,h2,h3,h4⟩ := h
  refine (c A h1.start).mono fun e w' ⟨a,B,s,m⟩ => ⟨a,?_⟩
  obtain ⟨k1,k2⟩ := h2.keep m h3 fun i hi => (h1.own i hi).1
  refine ⟨⟨hk,a2,B,C,s,k1,k2,fun i hi => ⟨Nat.lt_of_lt_of_le (h4 i hi).1 m.size,(h4 i hi).2.1,fun e => ?_,(h4 i hi).2.2.2⟩⟩,fun i hi => m.block i (h4 i hi).1 (h4 i hi).2.2.1⟩
  rcases m.own i e with h5 | h5
  · exact (h4 i hi).2.2.1 h5
  · have := (h4 i hi).1; omega
theorem Bo.inQ {P : Program} {f : FuncId} {args : Array Value} {r : Ending} (h : Bo w0 b y x th gr p q F w) (hk : KOk th gr q') (c : ∀ tv v V ls,Kr.RK w0.heap.size y x th gr tv v V ls q w → Calls P f args w fun e w' => e = r ∧ Kr.Goes w0.heap.size y x th gr tv v V q' w w') :
    Calls P f args w fun e w' => e = r ∧ Bo w0 b y x th gr p q' F w' ∧ SameF F w w' := by
  obtain ⟨a1,a2,A,C,h1,h2,h3,h4⟩ := h
  refine (h2.call c).mono fun e w' ⟨a,D,s,m⟩ => ⟨a,?_⟩
  obtain ⟨k1,k2⟩ := h1.keep m (fun i hc ha => h3 i ha hc) fun i hi => (h2.own i hi).1
  refine ⟨⟨a1,hk,A,D,k1,s,fun i ha hd => k2 i hd ha,fun i hi => ⟨Nat.lt_of_lt_of_le (h4 i hi).1 m.size,(h4 i hi).2.1,(h4 i hi).2.2.1,fun e => ?_⟩⟩,fun i hi => m.block i (h4 i hi).1 (h4 i hi).2.2.2⟩
  rcases m.own i e with h5 | h5
  · exact (h4 i hi).2.2.2 h5
  · have := (h4 i hi).1; omega
theorem Bo.kp (h : Bo w0 b y x th gr p q F w) : KOk th gr p := h.1
theorem Bo.kq (h : Bo w0 b y x th gr p q F w) : KOk th gr q := h.2.1
theorem p_spawn (h : Bo w0 b y x th gr p q F w) (hl : p.last ≤ 1000000) (g wt : Int) :
    Calls Tryz.prog 7 #[.pointer (some ⟨b,0,none⟩),.int .i64 g,.int .i64 wt] w fun e w' => e = .returned (.tuple #[.int .i64 (spawnN th p g wt),errV (spawnE th p g wt)]) ∧ Bo w0 b y x th gr (spawnK th p g wt) q F w' ∧ SameF F w w' :=
  h.inP (h.kp.spawn g wt) fun _ hp => Pk.spawn_s hp h.kp hl g wt
theorem p_group (h : Bo w0 b y x th gr p q F w) (hl : p.last ≤ 1000000) (g wt : Int) :
    Calls Tryz.prog 10 #[.pointer (some ⟨b,0,none⟩),.int .i64 g,.int .i64 wt] w fun e w' => e = .returned (.tuple #[.int .i64 (groupN gr p g wt),errV (groupE gr p g wt)]) ∧ Bo w0 b y x th gr (groupK gr p g wt) q F w' ∧ SameF F w w' :=
  h.inP (h.kp.group g wt) fun _ hp => Pk.group_s hp h.kp hl g wt
theorem p_exit (h : Bo w0 b y x th gr p q F w) (hl : p.last ≤ 1000000) (id : Int) :
    Calls Tryz.prog 12 #[.pointer (some ⟨b,0,none⟩),.int .i64 id] w fun e w' => e = .returned (errV (exitE p id)) ∧ Bo w0 b y x th gr (exitK p id) q F w' ∧ SameF F w w' :=
  h.inP (h.kp.exit id) fun _ hp => Pk.exit_s hp h.kp hl id
theorem p_sleep (h : Bo w0 b y x th gr p q F w) (hl : p.last ≤ 1000000) (id u : Int) :
    Calls Tryz.prog 14 #[.pointer (some ⟨b,0,none⟩),.int .i64 id,.int .i64 u] w fun e w' => e = .returned (errV (rdyE p id)) ∧ Bo w0 b y x th gr (sleepK p id u) q F w' ∧ SameF F w w' :=
  h.inP (h.kp.sleep id u) fun _ hp => Pk.sleep_s hp h.kp hl id u
theorem p_wait (h : Bo w0 b y x th gr p q F w) (hl : p.last ≤ 1000000) (id o : Int) :
    Calls Tryz.prog 16 #[.pointer (some ⟨b,0,none⟩),.int .i64 id,.int .i64 o] w fun e w' => e = .returned (.tuple #[.bool (waitA p id o).on,errV (waitA p id o).err]) ∧ Bo w0 b y x th gr (waitK p id o) q F w' ∧ SameF F w w' :=
  h.inP (h.kp.wait id o) fun _ hp => Pk.wait_s hp h.kp hl id o
theorem p_signal (h : Bo w0 b y x th gr p q F w) (o : Int) :
    Calls Tryz.prog 18 #[.pointer (some ⟨b,0,none⟩),.int .i64 o] w fun e w' => e = .returned (errV (Ob.sigR o p.c p.W).err) ∧ Bo w0 b y x th gr (signalK p o) q F w' ∧ SameF F w w' :=
  h.inP (h.kp.signal o) fun _ hp => Pk.signal_s hp h.kp o
theorem p_weight (h : Bo w0 b y x th gr p q F w) (id wt : Int) :
    Calls Tryz.prog 20 #[.pointer (some ⟨b,0,none⟩),.int .i64 id,.int .i64 wt] w fun e w' => e = .returned (errV (wtK p.l id wt)) ∧ Bo w0 b y x th gr (weightK p id wt) q F w' ∧ SameF F w w' :=
  h.inP (h.kp.weight id wt) fun _ hp => Pk.weight_s hp h.kp id wt
theorem p_run (h : Bo w0 b y x th gr p q F w) :
    Calls Tryz.prog 25 #[.pointer (some ⟨b,0,none⟩)] w fun e w' => e = .returned (.tuple #[.int .i64 (runK p.l).1,.bool (runK p.l).2]) ∧ Bo w0 b y x th gr (runK' p) q F w' ∧ SameF F w w' :=
  h.inP h.kp.run fun _ hp => Pk.run_s hp h.kp
theorem p_runnable (h : Bo w0 b y x th gr p q F w) : Calls Tryz.prog 27 #[.pointer (some ⟨b,0,none⟩)] w (Yields w (.bool (rootR p.l))) := by
  obtain ⟨a1,a2,A,C,h1,-⟩ := h
  exact Pk.runnable_any h1.start a1.wf
theorem p_threads (h : Bo w0 b y x th gr p q F w) : Calls Tryz.prog 29 #[.pointer (some ⟨b,0,none⟩)] w fun e w' => ∃ vd,e = .returned vd ∧ Ext w w' ∧ Ints w' vd (tids p.l) := by
  obtain ⟨a1,a2,A,C,h1,-⟩ := h
  exact (Pk.threads_any h1.start a1.wf).mono fun _ _ ⟨vd,e,k,o⟩ => ⟨vd,e,k,ints_of_owns o⟩
theorem p_nodes (h : Bo w0 b y x th gr p q F w) : Calls Tryz.prog 32 #[.pointer (some ⟨b,0,none⟩)] w fun e w' => ∃ vd,e = .returned vd ∧ Ext w w' ∧ NodesV w' vd (p.l.map Nd.nn) := by
  obtain ⟨a1,a2,A,C,h1,-⟩ := h
  exact Pk.nodes_any h1.start a1.wf
theorem q_spawn (h : Bo w0 b y x th gr p q F w) (hl : q.last ≤ 1000000) (g wt : Int) :
    Calls Tryz.prog 9 #[.pointer (some ⟨y,0,none⟩),.int .i64 g,.int .i64 wt] w fun e w' => e = .returned (.tuple #[.int .i64 (spawnN th q g wt),.int .i64 (spawnE th q g wt)]) ∧ Bo w0 b y x th gr p (spawnK th q g wt) F w' ∧ SameF F w w' :=
  h.inQ (h.kq.spawn g wt) fun _ _ _ _ hr => Kr.spawn_any hr h.kq g wt hl
theorem q_group (h : Bo w0 b y x th gr p q F w) (hl : q.last ≤ 1000000) (g wt : Int) :
    Calls Tryz.prog 11 #[.pointer (some ⟨y,0,none⟩),.int .i64 g,.int .i64 wt] w fun e w' => e = .returned (.tuple #[.int .i64 (groupN gr q g wt),.int .i64 (groupE gr q g wt)]) ∧ Bo w0 b y x th gr p (groupK gr q g wt) F w' ∧ SameF F w w' :=
  h.inQ (h.kq.group g wt) fun _ _ _ _ hr => Kr.group_any hr h.kq g wt hl
theorem q_exit (h : Bo w0 b y x th gr p q F w) (id : Int) :
    Calls Tryz.prog 13 #[.pointer (some ⟨y,0,none⟩),.int .i64 id] w fun e w' => e = .returned (.int .i64 (exitE q id)) ∧ Bo w0 b y x th gr p (exitK q id) F w' ∧ SameF F w w' :=
  h.inQ (h.kq.exit id) fun _ _ _ _ hr => Kr.exit_any hr h.kq id
theorem q_sleep (h : Bo w0 b y x th gr p q F w) (id u : Int) :
    Calls Tryz.prog 15 #[.pointer (some ⟨y,0,none⟩),.int .i64 id,.int .i64 u] w fun e w' => e = .returned (.int .i64 (rdyE q id)) ∧ Bo w0 b y x th gr p (sleepK q id u) F w' ∧ SameF F w w' :=
  h.inQ (h.kq.sleep id u) fun _ _ _ _ hr => Kr.sleep_any hr h.kq id u
theorem q_wait (h : Bo w0 b y x th gr p q F w) (id o : Int) :
    Calls Tryz.prog 17 #[.pointer (some ⟨y,0,none⟩),.int .i64 id,.int .i64 o] w fun e w' => e = .returned (.tuple #[.bool (waitA q id o).on,.int .i64 (waitA q id o).err]) ∧ Bo w0 b y x th gr p (waitK q id o) F w' ∧ SameF F w w' :=
  h.inQ (h.kq.wait id o) fun _ _ _ _ hr => Kr.wait_any hr h.kq id o
theorem q_signal (h : Bo w0 b y x th gr p q F w) (o : Int) :
    Calls Tryz.prog 19 #[.pointer (some ⟨y,0,none⟩),.int .i64 o] w fun e w' => e = .returned (.int .i64 (Ob.sigR o q.c q.W).err) ∧ Bo w0 b y x th gr p (signalK q o) F w' ∧ SameF F w w' :=
  h.inQ (h.kq.signal o) fun _ _ _ _ hr => Kr.signal_any hr h.kq o
theorem q_weight (h : Bo w0 b y x th gr p q F w) (id wt : Int) :
    Calls Tryz.prog 21 #[.pointer (some ⟨x,0,none⟩),.int .i64 id,.int .i64 wt] w fun e w' => e = .returned (.int .i64 (wtK q.l id wt)) ∧ Bo w0 b y x th gr p (weightK q id wt) F w' ∧ SameF F w w' :=
  h.inQ (h.kq.weight id wt) fun _ _ _ _ hr => Kr.k_wt hr h.kq.wf id wt
theorem q_run (h : Bo w0 b y x th gr p q F w) :
    Calls Tryz.prog 26 #[.pointer (some ⟨x,0,none⟩)] w fun e w' => e = .returned (.tuple #[.int .i64 (runK q.l).1,.bool (runK q.l).2]) ∧ Bo w0 b y x th gr p (runK' q) F w' ∧ SameF F w w' :=
  h.inQ h.kq.run fun _ _ _ _ hr => Kr.k_run hr h.kq.wf
theorem q_runnable (h : Bo w0 b y x th gr p q F w) : Calls Tryz.prog 28 #[.pointer (some ⟨y,0,none⟩)] w (Yields w (.bool (rootR q.l))) := by
  obtain ⟨a1,a2,A,C,h1,⟨-,tv,v,V,ls,h2,-⟩,-⟩ := h
  exact Kr.runnable_any h2 a2.wf
theorem q_live (h : Bo w0 b y x th gr p q F w) : Calls Tryz.prog 30 #[.pointer (some ⟨y,0,none⟩)] w fun e w' => ∃ vd,e = .returned vd ∧ Ext w w' ∧ Ints w' vd (tids q.l) := by
  obtain ⟨a1,a2,A,C,h1,⟨-,tv,v,V,ls,h2,-⟩,-⟩ := h
  exact Kr.live_any h2 a2.wf
theorem Bo.tree (h : Bo w0 b y x th gr p q F w) : w.cell? ⟨y,0,none⟩ = some (.pointer (some ⟨x,0,none⟩)) ∧ y < w.heap.size := by
  obtain ⟨a1,a2,A,C,h1,⟨-,tv,v,V,ls,h2,-⟩,-⟩ := h
  exact ⟨h2.cell (j := 0) (by omega),h2.lt⟩
end
end Kp
end Go.Proofs.YtocicffmajbecaaGreatDoor
namespace Go.Proofs.YtocicffmajbecaaGreatDoor
open Go.RowKit
set_option maxRecDepth 100000
set_option linter.unusedSimpArgs false
namespace Kp
open Rw (En)
open Kn
section
variable {w0 w w' : World} {b y x : Nat} {th gr : Int} {p q : Kd} {A F : Nat → Prop}
theorem p_wake (h : Bo w0 b y x th gr p q F w) (tick : Int) :
    Calls Tryz.prog 23 #[.pointer (some ⟨b,0,none⟩),.int .i64 tick] w fun e w' => ∃ vd,e = .returned vd ∧ Bo w0 b y x th gr (wakeK p tick) q (fun i => vd.ownBlock = some i ∨ F i) w' ∧
      w'.ownsRow w.heap.size 3 1 vd (Ti.dueIds tick p.M).length ((Ti.dueIds tick p.M).map fun i => .int .i64 i) ∧ SameF F w w' := by
  obtain ⟨a1,a2,A,C,h1,h2,h3,h4⟩ := h
  refine (Pk.wake_raw h1.start a1 tick).mono fun e w' ⟨vd,q1,B,k1,k2,k3,k4⟩ => ⟨vd,q1,?_,k4,fun i hi => k2.block i (h4 i hi).1 (h4 i hi).2.2.1⟩
  have e1 : Pk.ks p tick (Ti.dueIds tick p.M).length = wakeK p tick := by unfold Pk.ks wakeK; rw [List.take_length]
  rw [e1] at k1
  obtain ⟨c1,c2⟩ := Pk.cnt_same (Pk.kd_wakes (Ti.dueIds tick p.M) p.l)
  obtain ⟨m1,m2⟩ := h2.keep k2 h3 fun i hi => (h1.own i hi).1
  refine ⟨(a1.wake tick).1,a2,B,C,?_,m1,fun i hb hc => m2 i hb hc,fun i hi => ?_⟩
  · show Pk.PK w0 b (th - cntT (wakes p.l (Ti.dueIds tick p.M))) (gr - cntG (wakes p.l (Ti.dueIds tick p.M))) (wakeK p tick) B w'
    rw [c1,c2]; exact k1
  · rcases hi with hi | hi
    · have hb := owns_below k4 i hi
      exact ⟨hb.2,Nat.le_trans h1.xt.size hb.1,k3 i hi,fun e => by have := (h2.own i e).2; omega⟩
    · refine ⟨Nat.lt_of_lt_of_le (h4 i hi).1 k2.size,(h4 i hi).2.1,fun e => ?_,(h4 i hi).2.2.2⟩
      rcases k2.own i e with h5 | h5
      · exact (h4 i hi).2.2.1 h5
      · have := (h4 i hi).1; omega
theorem q_wake (h : Bo w0 b y x th gr p q F w) (tick : Int) :
    Calls Tryz.prog 24 #[.pointer (some ⟨y,0,none⟩),.int .i64 tick] w fun e w' => ∃ vd,e = .returned vd ∧ Bo w0 b y x th gr p (wakeK q tick) F w' ∧ Ints w' vd (Ti.dueIds tick q.M) ∧ SameF F w w' := by
  obtain ⟨a1,a2,A,C,h1,⟨h0,tv,v,V,ls,h2,rfl⟩,h3,h4⟩ := h
  refine (Kr.wake_any h2 a2 tick).mono fun e w' ⟨vd,q1,⟨tv',v',V',ls',r,m⟩,o⟩ => ⟨vd,q1,?_,o,fun i hi => m.block i (h4 i hi).1 (h4 i hi).2.2.2⟩
  obtain ⟨k1,k2⟩ := h1.keep m (fun i hc ha => h3 i ha hc) fun i hi => (h2.own i hi).1
  refine ⟨a1,(a2.wake tick).1,A,_,k1,⟨m.xt h0 fun i hi => (h2.own i hi).1,tv',v',V',ls',r,rfl⟩,fun i ha hd => k2 i hd ha,fun i hi => ⟨Nat.lt_of_lt_of_le (h4 i hi).1 m.size,(h4 i hi).2.1,(h4 i hi).2.2.1,fun e => ?_⟩⟩
  rcases m.own i e with h5 | h5
  · exact (h4 i hi).2.2.2 h5
  · have := (h4 i hi).1; omega
theorem row_kept {vd : Value} {l : List Int} {base : Nat} (o : w.ownsRow base 3 1 vd l.length (l.map fun i => .int .i64 i)) (k : SameF (fun i => vd.ownBlock = some i ∨ F i) w w') : Ints w' vd l :=
  ints_of_owns (owns_keep o fun g hg => k g (.inl hg))
theorem q_nodes (h : Bo w0 b y x th gr p q F w) : Calls Tryz.prog 33 #[.pointer (some ⟨x,0,none⟩)] w fun e w' => ∃ vd,e = .returned vd ∧ Ext w w' ∧ NodesV w' vd (q.l.map Nd.nn) := by
  obtain ⟨a1,a2,A,C,h1,⟨-,tv,v,V,ls,h2,-⟩,-⟩ := h
  exact (tnodes_any h2.tq (by have := a2.small; omega)).mono fun _ _ ⟨vd,e,o,k⟩ => ⟨vd,e,k,o.nodes⟩
theorem q_new {T G : Int} (h : Pk.PK w0 b (max 1 (min T 8) - cntT k0.l) (max 0 (min G 4) - cntG k0.l) k0 A w) :
    Calls Tryz.prog 6 #[.int .i64 T,.int .i64 G] w fun e w' => ∃ y x,e = .returned (.pointer (some ⟨y,0,none⟩)) ∧ Bo w0 b y x (max 1 (min T 8)) (max 0 (min G 4)) k0 k0 (fun _ => False) w' := by
  refine (Kr.new_any w T G).mono fun e w' ⟨y,x,tv,v,V,ls,q,r,m⟩ => ⟨y,x,q,k0_ok _ _ (by omega) (by omega),k0_ok _ _ (by omega) (by omega),A,_,h.ext m,⟨h.xt.trans m,tv,v,V,ls,r.lower h.xt.size,rfl⟩,fun i ha hc => ?_,fun i hi => hi.elim⟩
  have := (h.own i ha).2
  have := (r.own i hc).1
  omega
end
end Kp
end Go.Proofs.YtocicffmajbecaaGreatDoor
namespace Go.Proofs.YtocicffmajbecaaGreatDoor
open Go.ChangeShapes Go.WideShapes Go.ChangeAt Go.RowKit Go.Joins Go.Deep
set_option linter.unusedSimpArgs false
set_option linter.unusedVariables false
namespace kernelPlays
open Kp Kn
def stO (sw si sa sb : Int) : Obj := .cells #[.int .i64 sw,.int .i64 si,.int .i64 sa,.int .i64 sb] 29 (0,0)
def InvP (w0 : World) (b y x : Nat) (th gr : Int) (k : Nat) (wr : World) : Prop := ∃ q,q.last ≤ (k : Int) + 1 ∧ Bo w0 b y x th gr q q (fun _ => False) wr
def SF (S : Nat) (si sa sb : Int) (u : World) : Prop := u.cell? ⟨S,1,none⟩ = some (.int .i64 si) ∧ u.cell? ⟨S,2,none⟩ = some (.int .i64 sa) ∧ u.cell? ⟨S,3,none⟩ = some (.int .i64 sb)
def At (S : Nat) (sw si sa sb : Int) (u : World) : Prop := u.heap[S]? = some (stO sw si sa sb)
section
variable {w0 w w' : World} {b y x S : Nat} {th gr sw si sa sb : Int} {p q : Kd} {F : Nat → Prop}
theorem sf (h : At S sw si sa sb w) : SF S si sa sb w := by
  unfold At stO at h
  exact ⟨by simp [World.cell?,h],by simp [World.cell?,h],by simp [World.cell?,h]⟩
theorem sf0 (h : At S sw si sa sb w) : w.cell? ⟨S,0,none⟩ = some (.int .i64 sw) := by
  unfold At stO at h
  simp [World.cell?,h]
theorem kept (k : SameF (· = S) w w') (h : At S sw si sa sb w) : At S sw si sa sb w' := by
  unfold At at *
  rw [k S rfl]; exact h
theorem tAny_of {W : World} (hg : W.cell? ⟨0,0,none⟩ = some As.tAny) (h0 : Ext W w0) (h1 : Ext w0 w) : w.cell? ⟨0,0,none⟩ = some As.tAny := h1.cell (h0.cell hg)
theorem code_any (e : Nat) (w : World) (hg : w.cell? ⟨0,0,none⟩ = some As.tAny) : Calls Tryz.prog 8 #[errV e] w (Yields w (.int .i64 e)) := by
  by_cases he : e = 0
  · subst he
    exact As.code10_nil w
  · rw [errV_pos he]; exact As.code10_errno e w hg
theorem pk {fn : FuncId} {args : Array Value} {r : Ending} (c : Calls Tryz.prog fn args w fun e w' => e = r ∧ Bo w0 b y x th gr p q (· = S) w' ∧ SameF (· = S) w w') (h : At S sw si sa sb w) :
    Calls Tryz.prog fn args w fun e w' => e = r ∧ Bo w0 b y x th gr p q (· = S) w' ∧ At S sw si sa sb w' :=
  c.mono fun _ _ ⟨h1,h2,h3⟩ => ⟨h1,h2,kept h3 h⟩
theorem spawn_last (g wt : Int) : (spawnK th q g wt).last ≤ q.last + 1 := by
  unfold spawnK
  split
  · exact Int.le_refl _
  · omega
theorem group_last (g wt : Int) : (groupK gr q g wt).last ≤ q.last + 1 := by
  unfold groupK
  split
  · exact Int.le_refl _
  · omega
theorem exit_last (id : Int) : (exitK q id).last = q.last := by unfold exitK; split <;> rfl
theorem sleep_last (id u : Int) : (sleepK q id u).last = q.last := by unfold sleepK; split <;> rfl
theorem same_to {va vb : Value} {a : List Nn} (ha : NodesV w va a) (hb : NodesV w vb a) : Calls Tryz.prog 31 #[va,vb] w (Yields w (.bool true)) := by
  have := sameNodes_any ha hb
  rwa [decide_eq_true rfl] at this
end
set_option maxRecDepth 100000 in
set_option maxHeartbeats 40000000 in
theorem walk (T0 G0 : Int) (v : Value) (L : List Stq) (w : World) (hL : Stqs w v L) (hg : w.cell? ⟨0,0,none⟩ = some As.tAny) :
    Calls Tryz.prog 3 #[.int .i64 T0,.int .i64 G0,v] w (Yields w (.bool true)) := by
  obtain ⟨p,cap,rfl,hcap,hmax⟩ := hL.shape
  unfold maxLen at hmax
  have HL := hid hL
  have HG := hid hg
  clear hL hg
  go_enter Tryz.func3,Tryz.ntmps3
  go_wp2_with fail
  refine (Pk.known_any _).yields ?_
  intro p0
  have hE0 := hid (ext_more w p0)
  generalize more w p0 = w0 at *
  by_cases hz : 80 < L.length
  · have i1 : (80 : Int) < (L.length : Int) := by omega
    go_wp2
    go_returns
    exact ⟨rfl,hE0.out⟩
  have i1 : (L.length : Int) ≤ 80 := by omega
  have HZ := hid hz
  clear hz
  go_wp2_with fail
  (with_reducible refine (Pk.new_any w0 w0 (Ext.refl w0) T0 G0).mono ?_)
  rintro e w1 ⟨b,A1,rfl,s1,-,-⟩
  have S1 := hid s1
  clear s1
  go_wp2_with fail
  (with_reducible refine (q_new S1.out).mono ?_)
  rintro e w2 ⟨y,x,rfl,s2⟩
  have SP : Hid (InvP w0 b y x (max 1 (min T0 8)) (max 0 (min G0 4)) 0 w2) := ⟨k0,by decide,s2⟩
  clear s2 S1
  generalize max 1 (min T0 8) = th at *
  generalize max 0 (min G0 4) = gr at *
  go_wp2_with fail
  go_loopg [9] L.length (fun gg v5 wr => ∃ k : Nat,v5 = .int .i64 k ∧ k ≤ L.length ∧ L.length - k ≤ gg ∧ Hid (InvP w0 b y x th gr k wr))
  case atStart => exact ⟨0,rfl,by omega,by omega,SP⟩
  case round =>
    obtain ⟨k,rfl,hk,hgg,hinv⟩ := hrel
    clear SP
    by_cases hlt : k < L.length
    · have j1 : (k : Int) < (L.length : Int) := by omega
      obtain ⟨g,off,rfl,c0,c1,c2,c3,wi,wa⟩ := HL.out.at k hlt
      obtain ⟨q,hlast,hbo⟩ := hinv.out
      have hx := hE0.out.trans hbo.xt
      have d0 := hx.cell c0
      have d1 := hx.cell c1
      have d2 := hx.cell c2
      have d3 := hx.cell c3
      have HBO := hid hbo
      have HLAST : Hid (q.last ≤ (k : Int) + 1 ∧ k < 80) := ⟨hlast,by have := HZ.out; omega⟩
      have HL6 : Hid (q.last ≤ 1000000) := by have := HLAST.out; unfold Hid; omega
      clear c0 c1 c2 c3 hx hinv hbo hlast wi wa
      generalize L[k] = s at *
      obtain ⟨sw,si,sa,sb⟩ := s
      simp only at d0 d1 d2 d3
      go_upto_block 2 with fail
      have S2 := hid ((HBO.out.alloc (stO sw si sa sb)).fewer (G := (· = wr.heap.size)) fun _ h => .inl h)
      have SB : Hid (At wr.heap.size sw si sa sb (wr.alloc (stO sw si sa sb))) := heap_alloc_new wr _
      simp only [stO] at S2 SB
      clear HBO d0 d1 d2 d3
      generalize wr.heap.size = S at *
      generalize wr.alloc (.cells #[.int .i64 sw,.int .i64 si,.int .i64 sa,.int .i64 sb] 29 (0,0)) = w2 at *
      have S2 : Hid (Bo w0 b y x th gr q q (· = S) w2) := S2
      have SB : Hid (At S sw si sa sb w2) := SB
      have e0 := sf0 SB.out
      have e1 := (sf SB.out).1
      have e2 := (sf SB.out).2.1
      have e3 := (sf SB.out).2.2
      go_cut [11,12,13,14] (fun a11 a12 a13 a14 wx => ∃ (e : Nat) (n : Int) (q5 : Kd),a11 = .int .i64 e ∧ a12 = .int .i64 e ∧ a13 = .int .i64 n ∧ a14 = .int .i64 n ∧ q5.last ≤ (k : Int) + 2 ∧ Bo w0 b y x th gr q5 q5 (· = S) wx)
      case first =>
        clear hgg
        by_cases hw0 : sw = 0
        · subst hw0
          as_aux_lemma =>
            have HLN : Hid ((spawnK th q sa sb).last ≤ (k : Int) + 2) := by have h1 := spawn_last (th := th) (q := q) sa sb; have h2 := HLAST.out; unfold Hid; omega
            have CP := hid (pk (p_spawn S2.out HL6.out sa sb) SB.out)
            go_wp2_with (first
              | (go_at_call 7; (with_reducible refine CP.out.mono ?_); rintro e w3 ⟨rfl,s3,a3⟩; have S3 := hid s3; have SB3 := hid a3; have f1 := (sf a3).1; have f2 := (sf a3).2.1; have f3 := (sf a3).2.2; clear s3 a3)
              | (go_at_call 8; (with_reducible refine (code_any _ _ (tAny_of HG.out hE0.out S3.out.xt)).mono ?_); rintro e w4 ⟨rfl,x4⟩; have S4 := hid (S3.out.ext x4).1; have SB4 := hid (kept (S3.out.ext x4).2 SB3.out); have g1 := (sf SB4.out).1; have g2 := (sf SB4.out).2.1; have g3 := (sf SB4.out).2.2; clear x4)
              | (go_at_call 9; (with_reducible refine (pk (q_spawn S4.out HL6.out sa sb) SB4.out).mono ?_); rintro e w5 ⟨rfl,s5,a5⟩; have S5 := hid s5; clear s5 a5))
            go_meet
            case rel => exact ⟨_,spawnN th q sa sb,_,rfl,rfl,rfl,rfl,HLN.out,S5.out⟩
        have j0 : (sw == 0) = false := by rw [beq_eq_false_iff_ne]; exact hw0
        by_cases hw1 : sw = 1
        · subst hw1
          as_aux_lemma =>
            have HLN : Hid ((groupK gr q sa sb).last ≤ (k : Int) + 2) := by have h1 := group_last (gr := gr) (q := q) sa sb; have h2 := HLAST.out; unfold Hid; omega
            have CP := hid (pk (p_group S2.out HL6.out sa sb) SB.out)
            go_wp2_with (first
              | (go_at_call 10; (with_reducible refine CP.out.mono ?_); rintro e w3 ⟨rfl,s3,a3⟩; have S3 := hid s3; have SB3 := hid a3; have f1 := (sf a3).1; have f2 := (sf a3).2.1; have f3 := (sf a3).2.2; clear s3 a3)
              | (go_at_call 8; (with_reducible refine (code_any _ _ (tAny_of HG.out hE0.out S3.out.xt)).mono ?_); rintro e w4 ⟨rfl,x4⟩; have S4 := hid (S3.out.ext x4).1; have SB4 := hid (kept (S3.out.ext x4).2 SB3.out); have g1 := (sf SB4.out).1; have g2 := (sf SB4.out).2.1; have g3 := (sf SB4.out).2.2; clear x4)
              | (go_at_call 11; (with_reducible refine (pk (q_group S4.out HL6.out sa sb) SB4.out).mono ?_); rintro e w5 ⟨rfl,s5,a5⟩; have S5 := hid s5; clear s5 a5))
            go_meet
            case rel => exact ⟨_,groupN gr q sa sb,_,rfl,rfl,rfl,rfl,HLN.out,S5.out⟩
        have j1 : (sw == 1) = false := by rw [beq_eq_false_iff_ne]; exact hw1
        by_cases hw2 : sw = 2
        · subst hw2
          as_aux_lemma =>
            have HLN : Hid ((exitK q si).last ≤ (k : Int) + 2) := by have h1 := HLAST.out; unfold Hid; rw [exit_last]; omega
            go_upto_region 26 with fail
            refine wp_region_T 9 2 (SF S si sa sb) (by kernel_rfl) (by kernel_rfl) ?_
            obtain ⟨b0,k0⟩ := Bo.ext S2.out (Ext.drew (Ext.refl w2))
            have HD0 := hid b0
            have HK0 := hid (kept k0 SB.out)
            clear S2 SB b0 k0
            generalize w2.drew = z0 at *
            have HSS := sf HK0.out
            refine wpT_tk 0 HSS ?_ (hy := by intro u hu; obtain ⟨h1,h2,h3⟩ := hu; go_simp; first | done | (with_reducible rfl)); (try simp only [nrm])
            refine wpT_tk 1 HSS ?_ (hy := by intro u hu; obtain ⟨h1,h2,h3⟩ := hu; go_simp; first | done | (with_reducible rfl)); (try simp only [nrm])
            refine wpT_tk 2 HSS ?_ (hy := by intro u hu; obtain ⟨h1,h2,h3⟩ := hu; go_simp; first | done | (with_reducible rfl)); (try simp only [nrm])
            refine wpT_tk 5 HSS ?_ (hy := by intro u hu; obtain ⟨h1,h2,h3⟩ := hu; go_simp; first | done | (with_reducible rfl)); (try simp only [nrm])
            refine wpT_tk 6 HSS ?_ (hy := by intro u hu; obtain ⟨h1,h2,h3⟩ := hu; go_simp; first | done | (with_reducible rfl)); (try simp only [nrm])
            refine wpT_tk 7 HSS ?_ (hy := by intro u hu; obtain ⟨h1,h2,h3⟩ := hu; go_simp; first | done | (with_reducible rfl)); (try simp only [nrm])
            refine wpT_on 3 (fun K' hK => ?_)
            go_simp
            refine (pk (p_exit HD0.out HL6.out si) HK0.out).mono ?_
            rintro e v1 ⟨rfl,hd,hk⟩
            have HD1 := hid hd
            have HK1 := hid hk
            clear hd hk HD0 HK0 HSS
            refine hK.out _ _ (sf HK1.out) ?_
            clear hK K'
            have HSS := sf HK1.out
            (try simp only [nrm])
            refine wpT_on 4 (fun K' hK => ?_)
            go_simp
            refine (code_any _ _ (tAny_of HG.out hE0.out HD1.out.xt)).mono ?_
            rintro e v2 ⟨rfl,x9⟩
            have HD2 := hid (HD1.out.ext x9).1
            have HK2 := hid (kept (HD1.out.ext x9).2 HK1.out)
            clear x9 HD1 HK1 HSS
            refine hK.out _ _ (sf HK2.out) ?_
            clear hK K'
            have HSS := sf HK2.out
            (try simp only [nrm])
            refine wpT_on 8 (fun K' hK => ?_)
            go_simp
            refine (pk (q_exit HD2.out si) HK2.out).mono ?_
            rintro e v3 ⟨rfl,hd,hk⟩
            have HD3 := hid hd
            have HK3 := hid hk
            clear hd hk HD2 HK2 HSS
            refine hK.out _ _ (sf HK3.out) ?_
            clear hK K'
            have HSS := sf HK3.out
            (try simp only [nrm])
            refine wpT_done (by kernel_rfl) ?_
            refine wpAny_tk 9 ?_; (try simp only [nrm])
            refine wpAny_tk 10 ?_; (try simp only [nrm])
            refine wpAny_done (by kernel_rfl) ?_ _
            go_wp2
            go_meet
            case rel => exact ⟨_,0,_,rfl,rfl,rfl,rfl,HLN.out,HD3.out⟩
        have j2 : (sw == 2) = false := by rw [beq_eq_false_iff_ne]; exact hw2
        by_cases hw3 : sw = 3
        · subst hw3
          as_aux_lemma =>
            have HLN : Hid ((sleepK q si sa).last ≤ (k : Int) + 2) := by have h1 := HLAST.out; unfold Hid; rw [sleep_last]; omega
            go_upto_region 28 with fail
            refine wp_region_T 13 2 (SF S si sa sb) (by kernel_rfl) (by kernel_rfl) ?_
            obtain ⟨b0,k0⟩ := Bo.ext S2.out (Ext.drew (Ext.refl w2))
            have HD0 := hid b0
            have HK0 := hid (kept k0 SB.out)
            clear S2 SB b0 k0
            generalize w2.drew = z0 at *
            have HSS := sf HK0.out
            refine wpT_tk 0 HSS ?_ (hy := by intro u hu; obtain ⟨h1,h2,h3⟩ := hu; go_simp; first | done | (with_reducible rfl)); (try simp only [nrm])
            refine wpT_tk 1 HSS ?_ (hy := by intro u hu; obtain ⟨h1,h2,h3⟩ := hu; go_simp; first | done | (with_reducible rfl)); (try simp only [nrm])
            refine wpT_tk 2 HSS ?_ (hy := by intro u hu; obtain ⟨h1,h2,h3⟩ := hu; go_simp; first | done | (with_reducible rfl)); (try simp only [nrm])
            refine wpT_tk 3 HSS ?_ (hy := by intro u hu; obtain ⟨h1,h2,h3⟩ := hu; go_simp; first | done | (with_reducible rfl)); (try simp only [nrm])
            refine wpT_tk 4 HSS ?_ (hy := by intro u hu; obtain ⟨h1,h2,h3⟩ := hu; go_simp; first | done | (with_reducible rfl)); (try simp only [nrm])
            refine wpT_tk 7 HSS ?_ (hy := by intro u hu; obtain ⟨h1,h2,h3⟩ := hu; go_simp; first | done | (with_reducible rfl)); (try simp only [nrm])
            refine wpT_tk 8 HSS ?_ (hy := by intro u hu; obtain ⟨h1,h2,h3⟩ := hu; go_simp; first | done | (with_reducible rfl)); (try simp only [nrm])
            refine wpT_tk 9 HSS ?_ (hy := by intro u hu; obtain ⟨h1,h2,h3⟩ := hu; go_simp; first | done | (with_reducible rfl)); (try simp only [nrm])
            refine wpT_tk 10 HSS ?_ (hy := by intro u hu; obtain ⟨h1,h2,h3⟩ := hu; go_simp; first | done | (with_reducible rfl)); (try simp only [nrm])
            refine wpT_tk 11 HSS ?_ (hy := by intro u hu; obtain ⟨h1,h2,h3⟩ := hu; go_simp; first | done | (with_reducible rfl)); (try simp only [nrm])
            refine wpT_on 5 (fun K' hK => ?_)
            go_simp
            refine (pk (p_sleep HD0.out HL6.out si sa) HK0.out).mono ?_
            rintro e v1 ⟨rfl,hd,hk⟩
            have HD1 := hid hd
            have HK1 := hid hk
            clear hd hk HD0 HK0 HSS
            refine hK.out _ _ (sf HK1.out) ?_
            clear hK K'
            have HSS := sf HK1.out
            (try simp only [nrm])
            refine wpT_on 6 (fun K' hK => ?_)
            go_simp
            refine (code_any _ _ (tAny_of HG.out hE0.out HD1.out.xt)).mono ?_
            rintro e v2 ⟨rfl,x9⟩
            have HD2 := hid (HD1.out.ext x9).1
            have HK2 := hid (kept (HD1.out.ext x9).2 HK1.out)
            clear x9 HD1 HK1 HSS
            refine hK.out _ _ (sf HK2.out) ?_
            clear hK K'
            have HSS := sf HK2.out
            (try simp only [nrm])
            refine wpT_on 12 (fun K' hK => ?_)
            go_simp
            refine (pk (q_sleep HD2.out si sa) HK2.out).mono ?_
            rintro e v3 ⟨rfl,hd,hk⟩
            have HD3 := hid hd
            have HK3 := hid hk
            clear hd hk HD2 HK2 HSS
            refine hK.out _ _ (sf HK3.out) ?_
            clear hK K'
            have HSS := sf HK3.out
            (try simp only [nrm])
            refine wpT_done (by kernel_rfl) ?_
            refine wpAny_tk 13 ?_; (try simp only [nrm])
            refine wpAny_tk 14 ?_; (try simp only [nrm])
            refine wpAny_done (by kernel_rfl) ?_ _
            go_wp2
            go_meet
            case rel => exact ⟨_,0,_,rfl,rfl,rfl,rfl,HLN.out,HD3.out⟩
        have j3 : (sw == 3) = false := by rw [beq_eq_false_iff_ne]; exact hw3
        by_cases hw4 : sw = 4
        · subst hw4
          as_aux_lemma =>
            have HLN : Hid ((waitK q si sa).last ≤ (k : Int) + 2) := by have h1 := HLAST.out; unfold Hid; show q.last ≤ _; omega
            have q1 : ((waitA q si sa).on != (waitA q si sa).on) = false := by simp
            have CP := hid (pk (p_wait S2.out HL6.out si sa) SB.out)
            go_wp2_with (first
              | (go_at_call 16; (with_reducible refine CP.out.mono ?_); rintro e w3 ⟨rfl,s3,a3⟩; have S3 := hid s3; have SB3 := hid a3; have f1 := (sf a3).1; have f2 := (sf a3).2.1; have f3 := (sf a3).2.2; clear s3 a3)
              | (go_at_call 17; (with_reducible refine (pk (q_wait S3.out si sa) SB3.out).mono ?_); rintro e w4 ⟨rfl,s4,a4⟩; have S4 := hid s4; have SB4 := hid a4; clear s4 a4)
              | (go_at_call 8; (with_reducible refine (code_any _ _ (tAny_of HG.out hE0.out S4.out.xt)).mono ?_); rintro e w5 ⟨rfl,x5⟩; have S5 := hid (S4.out.ext x5).1; clear x5))
            go_meet
            case rel => exact ⟨_,0,_,rfl,rfl,rfl,rfl,HLN.out,S5.out⟩
        have j4 : (sw == 4) = false := by rw [beq_eq_false_iff_ne]; exact hw4
        by_cases hw5 : sw = 5
        · subst hw5
          as_aux_lemma =>
            have HLN : Hid ((signalK q sa).last ≤ (k : Int) + 2) := by have h1 := HLAST.out; unfold Hid; show q.last ≤ _; omega
            go_upto_region 36 with fail
            refine wp_region_T 9 2 (SF S si sa sb) (by kernel_rfl) (by kernel_rfl) ?_
            obtain ⟨b0,k0⟩ := Bo.ext S2.out (Ext.drew (Ext.refl w2))
            have HD0 := hid b0
            have HK0 := hid (kept k0 SB.out)
            clear S2 SB b0 k0
            generalize w2.drew = z0 at *
            have HSS := sf HK0.out
            refine wpT_tk 0 HSS ?_ (hy := by intro u hu; obtain ⟨h1,h2,h3⟩ := hu; go_simp; first | done | (with_reducible rfl)); (try simp only [nrm])
            refine wpT_tk 1 HSS ?_ (hy := by intro u hu; obtain ⟨h1,h2,h3⟩ := hu; go_simp; first | done | (with_reducible rfl)); (try simp only [nrm])
            refine wpT_tk 2 HSS ?_ (hy := by intro u hu; obtain ⟨h1,h2,h3⟩ := hu; go_simp; first | done | (with_reducible rfl)); (try simp only [nrm])
            refine wpT_tk 5 HSS ?_ (hy := by intro u hu; obtain ⟨h1,h2,h3⟩ := hu; go_simp; first | done | (with_reducible rfl)); (try simp only [nrm])
            refine wpT_tk 6 HSS ?_ (hy := by intro u hu; obtain ⟨h1,h2,h3⟩ := hu; go_simp; first | done | (with_reducible rfl)); (try simp only [nrm])
            refine wpT_tk 7 HSS ?_ (hy := by intro u hu; obtain ⟨h1,h2,h3⟩ := hu; go_simp; first | done | (with_reducible rfl)); (try simp only [nrm])
            refine wpT_on 3 (fun K' hK => ?_)
            go_simp
            refine (pk (p_signal HD0.out sa) HK0.out).mono ?_
            rintro e v1 ⟨rfl,hd,hk⟩
            have HD1 := hid hd
            have HK1 := hid hk
            clear hd hk HD0 HK0 HSS
            refine hK.out _ _ (sf HK1.out) ?_
            clear hK K'
            have HSS := sf HK1.out
            (try simp only [nrm])
            refine wpT_on 4 (fun K' hK => ?_)
            go_simp
            refine (code_any _ _ (tAny_of HG.out hE0.out HD1.out.xt)).mono ?_
            rintro e v2 ⟨rfl,x9⟩
            have HD2 := hid (HD1.out.ext x9).1
            have HK2 := hid (kept (HD1.out.ext x9).2 HK1.out)
            clear x9 HD1 HK1 HSS
            refine hK.out _ _ (sf HK2.out) ?_
            clear hK K'
            have HSS := sf HK2.out
            (try simp only [nrm])
            refine wpT_on 8 (fun K' hK => ?_)
            go_simp
            refine (pk (q_signal HD2.out sa) HK2.out).mono ?_
            rintro e v3 ⟨rfl,hd,hk⟩
            have HD3 := hid hd
            have HK3 := hid hk
            clear hd hk HD2 HK2 HSS
            refine hK.out _ _ (sf HK3.out) ?_
            clear hK K'
            have HSS := sf HK3.out
            (try simp only [nrm])
            refine wpT_done (by kernel_rfl) ?_
            refine wpAny_tk 9 ?_; (try simp only [nrm])
            refine wpAny_tk 10 ?_; (try simp only [nrm])
            refine wpAny_done (by kernel_rfl) ?_ _
            go_wp2
            go_meet
            case rel => exact ⟨_,0,_,rfl,rfl,rfl,rfl,HLN.out,HD3.out⟩
        have j5 : (sw == 5) = false := by rw [beq_eq_false_iff_ne]; exact hw5
        by_cases hw6 : sw = 6
        · subst hw6
          as_aux_lemma =>
            have HLN : Hid ((weightK q si sb).last ≤ (k : Int) + 2) := by have h1 := HLAST.out; unfold Hid; show q.last ≤ _; omega
            go_upto_region 38 with fail
            refine wp_region_T 16 2 (fun u => SF S si sa sb u ∧ u.cell? ⟨y,0,none⟩ = some (.pointer (some ⟨x,0,none⟩))) (by kernel_rfl) (by kernel_rfl) ?_
            obtain ⟨b0,k0⟩ := Bo.ext S2.out (Ext.drew (Ext.refl w2))
            have HD0 := hid b0
            have HK0 := hid (kept k0 SB.out)
            clear S2 SB b0 k0
            generalize w2.drew = z0 at *
            have HSS := And.intro (sf HK0.out) HD0.out.tree.1
            refine wpT_tk 0 HSS ?_ (hy := by intro u hu; obtain ⟨⟨h1,h2,h3⟩,h4⟩ := hu; go_simp; first | done | (with_reducible rfl)); (try simp only [nrm])
            refine wpT_tk 1 HSS ?_ (hy := by intro u hu; obtain ⟨⟨h1,h2,h3⟩,h4⟩ := hu; go_simp; first | done | (with_reducible rfl)); (try simp only [nrm])
            refine wpT_tk 2 HSS ?_ (hy := by intro u hu; obtain ⟨⟨h1,h2,h3⟩,h4⟩ := hu; go_simp; first | done | (with_reducible rfl)); (try simp only [nrm])
            refine wpT_tk 3 HSS ?_ (hy := by intro u hu; obtain ⟨⟨h1,h2,h3⟩,h4⟩ := hu; go_simp; first | done | (with_reducible rfl)); (try simp only [nrm])
            refine wpT_tk 4 HSS ?_ (hy := by intro u hu; obtain ⟨⟨h1,h2,h3⟩,h4⟩ := hu; go_simp; first | done | (with_reducible rfl)); (try simp only [nrm])
            refine wpT_tk 7 HSS ?_ (hy := by intro u hu; obtain ⟨⟨h1,h2,h3⟩,h4⟩ := hu; go_simp; first | done | (with_reducible rfl)); (try simp only [nrm])
            refine wpT_tk 8 HSS ?_ (hy := by intro u hu; obtain ⟨⟨h1,h2,h3⟩,h4⟩ := hu; go_simp; first | done | (with_reducible rfl)); (try simp only [nrm])
            refine wpT_tk 9 HSS ?_ (hy := by intro u hu; obtain ⟨⟨h1,h2,h3⟩,h4⟩ := hu; go_simp; first | done | (with_reducible rfl)); (try simp only [nrm])
            refine wpT_tk 10 HSS ?_ (hy := by intro u hu; obtain ⟨⟨h1,h2,h3⟩,h4⟩ := hu; go_simp; first | done | (with_reducible rfl)); (try simp only [nrm])
            refine wpT_tk 11 HSS ?_ (hy := by intro u hu; obtain ⟨⟨h1,h2,h3⟩,h4⟩ := hu; go_simp; first | done | (with_reducible rfl)); (try simp only [nrm])
            refine wpT_tk 12 HSS ?_ (hy := by intro u hu; obtain ⟨⟨h1,h2,h3⟩,h4⟩ := hu; go_simp; first | done | (with_reducible rfl)); (try simp only [nrm])
            refine wpT_tk 13 HSS ?_ (hy := by intro u hu; obtain ⟨⟨h1,h2,h3⟩,h4⟩ := hu; go_simp; first | done | (with_reducible rfl)); (try simp only [nrm])
            refine wpT_tk 14 HSS ?_ (hy := by intro u hu; obtain ⟨⟨h1,h2,h3⟩,h4⟩ := hu; go_simp; first | done | (with_reducible rfl)); (try simp only [nrm])
            refine wpT_on 5 (fun K' hK => ?_)
            go_simp
            refine (pk (p_weight HD0.out si sb) HK0.out).mono ?_
            rintro e v1 ⟨rfl,hd,hk⟩
            have HD1 := hid hd
            have HK1 := hid hk
            clear hd hk HD0 HK0 HSS
            refine hK.out _ _ (And.intro (sf HK1.out) HD1.out.tree.1) ?_
            clear hK K'
            have HSS := And.intro (sf HK1.out) HD1.out.tree.1
            (try simp only [nrm])
            refine wpT_on 6 (fun K' hK => ?_)
            go_simp
            refine (code_any _ _ (tAny_of HG.out hE0.out HD1.out.xt)).mono ?_
            rintro e v2 ⟨rfl,x9⟩
            have HD2 := hid (HD1.out.ext x9).1
            have HK2 := hid (kept (HD1.out.ext x9).2 HK1.out)
            clear x9 HD1 HK1 HSS
            refine hK.out _ _ (And.intro (sf HK2.out) HD2.out.tree.1) ?_
            clear hK K'
            have HSS := And.intro (sf HK2.out) HD2.out.tree.1
            (try simp only [nrm])
            refine wpT_on 15 (fun K' hK => ?_)
            go_simp
            refine (pk (q_weight HD2.out si sb) HK2.out).mono ?_
            rintro e v3 ⟨rfl,hd,hk⟩
            have HD3 := hid hd
            have HK3 := hid hk
            clear hd hk HD2 HK2 HSS
            refine hK.out _ _ (And.intro (sf HK3.out) HD3.out.tree.1) ?_
            clear hK K'
            have HSS := And.intro (sf HK3.out) HD3.out.tree.1
            (try simp only [nrm])
            refine wpT_done (by kernel_rfl) ?_
            refine wpAny_tk 16 ?_; (try simp only [nrm])
            refine wpAny_tk 17 ?_; (try simp only [nrm])
            refine wpAny_done (by kernel_rfl) ?_ _
            go_wp2
            go_meet
            case rel => exact ⟨_,0,_,rfl,rfl,rfl,rfl,HLN.out,HD3.out⟩
        have j6 : (sw == 6) = false := by rw [beq_eq_false_iff_ne]; exact hw6
        by_cases hw7 : sw = 7
        · subst hw7
          as_aux_lemma =>
            have HLN : Hid ((wakeK q sa).last ≤ (k : Int) + 2) := by have h1 := HLAST.out; unfold Hid; show q.last ≤ _; omega
            go_upto_region 40 with fail
            refine wp_region_T 9 1 (SF S si sa sb) (by kernel_rfl) (by kernel_rfl) ?_
            obtain ⟨b0,k0⟩ := Bo.ext S2.out (Ext.drew (Ext.refl w2))
            have HD0 := hid b0
            have HK0 := hid (kept k0 SB.out)
            clear S2 SB b0 k0
            generalize w2.drew = z0 at *
            have HSS := sf HK0.out
            refine wpT_tk 0 HSS ?_ (hy := by intro u hu; obtain ⟨h1,h2,h3⟩ := hu; go_simp; first | done | (with_reducible rfl)); (try simp only [nrm])
            refine wpT_tk 1 HSS ?_ (hy := by intro u hu; obtain ⟨h1,h2,h3⟩ := hu; go_simp; first | done | (with_reducible rfl)); (try simp only [nrm])
            refine wpT_tk 2 HSS ?_ (hy := by intro u hu; obtain ⟨h1,h2,h3⟩ := hu; go_simp; first | done | (with_reducible rfl)); (try simp only [nrm])
            refine wpT_tk 4 HSS ?_ (hy := by intro u hu; obtain ⟨h1,h2,h3⟩ := hu; go_simp; first | done | (with_reducible rfl)); (try simp only [nrm])
            refine wpT_tk 5 HSS ?_ (hy := by intro u hu; obtain ⟨h1,h2,h3⟩ := hu; go_simp; first | done | (with_reducible rfl)); (try simp only [nrm])
            refine wpT_tk 6 HSS ?_ (hy := by intro u hu; obtain ⟨h1,h2,h3⟩ := hu; go_simp; first | done | (with_reducible rfl)); (try simp only [nrm])
            refine wpT_on 3 (fun K' hK => ?_)
            go_simp
            refine (p_wake HD0.out sa).mono ?_
            rintro e v1 ⟨vd,rfl,hd,o1,k1⟩
            have HD1 := hid hd
            have HO1 := hid o1
            have HK1 := hid (kept k1 HK0.out)
            clear hd o1 k1 HD0 HK0 HSS
            refine hK.out _ _ (sf HK1.out) ?_
            clear hK K'
            have HSS := sf HK1.out
            (try simp only [nrm])
            refine wpT_on 7 (fun K' hK => ?_)
            go_simp
            refine (q_wake HD1.out sa).mono ?_
            rintro e v2 ⟨ve,rfl,hd,o2,k2⟩
            have HI1 := hid (row_kept HO1.out k2)
            have HK2 := hid (kept (fun i hi => k2 i (.inr hi)) HK1.out)
            have HD2 := hid (hd.fewer (G := (· = S)) fun i hi => .inr hi)
            have HI2 := hid o2
            clear hd o2 k2 HD1 HK1 HO1 HSS
            refine hK.out _ _ (sf HK2.out) ?_
            clear hK K'
            have HSS := sf HK2.out
            (try simp only [nrm])
            refine wpT_on 8 (fun K' hK => ?_)
            go_simp
            refine (sameI_to HI1.out HI2.out).mono ?_
            rintro e v3 ⟨rfl,x3⟩
            have HD3 := hid (HD2.out.ext x3).1
            have HK3 := hid (kept (HD2.out.ext x3).2 HK2.out)
            clear x3 HD2 HK2 HI1 HI2 HSS
            refine hK.out _ _ (sf HK3.out) ?_
            clear hK K'
            (try simp only [nrm])
            refine wpT_done (by kernel_rfl) ?_
            refine wpAny_tk 9 ?_; (try simp only [nrm])
            refine wpAny_done (by kernel_rfl) ?_ _
            go_wp2
            go_meet
            case rel => exact ⟨0,0,_,rfl,rfl,rfl,rfl,HLN.out,HD3.out⟩
        have j7 : (sw == 7) = false := by rw [beq_eq_false_iff_ne]; exact hw7
        as_aux_lemma =>
          have HLN : Hid ((runK' q).last ≤ (k : Int) + 2) := by have h1 := HLAST.out; unfold Hid; show q.last ≤ _; omega
          have q1 : ((runK q.l).2 != (runK q.l).2) = false := by simp
          have CP := hid (pk (p_run S2.out) SB.out)
          go_wp2_with (first
            | (go_at_call 25; ((with_reducible refine CP.out.mono ?_); rintro e w3 ⟨rfl,s3,a3⟩; have S3 := hid s3; have SB3 := hid a3; have f4 := s3.tree.1; have f5 := s3.tree.2; have CQ := hid (pk (Kp.q_run s3) a3); clear s3 a3))
            | (go_at_call 26; (with_reducible refine CQ.out.mono ?_); rintro e w4 ⟨rfl,s4,a4⟩; have S4 := hid s4; clear s4 a4))
          go_meet
          case rel => exact ⟨0,(runK q.l).1,_,rfl,rfl,rfl,rfl,HLN.out,S4.out⟩
      case rest =>
        obtain ⟨e,n,q5,rfl,rfl,rfl,rfl,hl5,hbo⟩ := hcut
        have S5 := hid (hbo.fewer (G := fun _ => False) fun _ h => h.elim)
        have HL5 := hid hl5
        clear hl5 hbo e0 e1 e2 e3 S2 SB HL6
        have q1 : ((e : Int) != (e : Int)) = false := by simp
        have q2 : ((n : Int) != (n : Int)) = false := by simp
        as_aux_lemma =>
          go_upto_region 42 with fail
          have HD0 := hid ((S5.out.ext (Ext.drew (Ext.refl _))).1)
          clear S5
          refine wp_region_T 33 1 (fun u => u.cell? ⟨y,0,none⟩ = some (.pointer (some ⟨x,0,none⟩))) (by kernel_rfl) (by kernel_rfl) ?_
          generalize wc.drew = z0 at *
          have HSS := HD0.out.tree.1
          have q3 : (rootR q5.l != rootR q5.l) = false := by simp
          refine wpT_tk 0 HSS ?_ (hy := by intro u hu; obtain hu := hu; go_simp; first | done | (with_reducible rfl)); (try simp only [nrm])
          refine wpT_tk 1 HSS ?_ (hy := by intro u hu; obtain hu := hu; go_simp; first | done | (with_reducible rfl)); (try simp only [nrm])
          refine wpT_tk 2 HSS ?_ (hy := by intro u hu; obtain hu := hu; go_simp; first | done | (with_reducible rfl)); (try simp only [nrm])
          refine wpT_tk 3 HSS ?_ (hy := by intro u hu; obtain hu := hu; go_simp; first | done | (with_reducible rfl)); (try simp only [nrm])
          refine wpT_tk 4 HSS ?_ (hy := by intro u hu; obtain hu := hu; go_simp; first | done | (with_reducible rfl)); (try simp only [nrm])
          refine wpT_tk 5 HSS ?_ (hy := by intro u hu; obtain hu := hu; go_simp; first | done | (with_reducible rfl)); (try simp only [nrm])
          refine wpT_tk 6 HSS ?_ (hy := by intro u hu; obtain hu := hu; go_simp; first | done | (with_reducible rfl)); (try simp only [nrm])
          refine wpT_tk 7 HSS ?_ (hy := by intro u hu; obtain hu := hu; go_simp; first | done | (with_reducible rfl)); (try simp only [nrm])
          refine wpT_tk 8 HSS ?_ (hy := by intro u hu; obtain hu := hu; go_simp; first | done | (with_reducible rfl)); (try simp only [nrm])
          refine wpT_tk 9 HSS ?_ (hy := by intro u hu; obtain hu := hu; go_simp; first | done | (with_reducible rfl)); (try simp only [nrm])
          refine wpT_tk 11 HSS ?_ (hy := by intro u hu; obtain hu := hu; go_simp; first | done | (with_reducible rfl)); (try simp only [nrm])
          refine wpT_on 10 (fun K' hK => ?_)
          go_simp
          refine (p_runnable HD0.out).mono ?_
          rintro e v1 ⟨rfl,x1⟩
          have HD1 := hid (HD0.out.ext x1).1
          clear x1 HD0 HSS
          have HSS := HD1.out.tree.1
          refine hK.out _ _ HSS ?_
          clear hK K'
          (try simp only [nrm])
          refine wpT_on 12 (fun K' hK => ?_)
          go_simp
          refine (q_runnable HD1.out).mono ?_
          rintro e v2 ⟨rfl,x2⟩
          have HD2 := hid (HD1.out.ext x2).1
          clear x2 HD1 HSS
          have HSS := HD2.out.tree.1
          refine hK.out _ _ HSS ?_
          clear hK K'
          (try simp only [nrm])
          refine wpT_tk 13 HSS ?_ (hy := by intro u hu; obtain hu := hu; go_simp; first | done | (with_reducible rfl)); (try simp only [nrm])
          refine wpT_tk 14 HSS ?_ (hy := by intro u hu; obtain hu := hu; go_simp; first | done | (with_reducible rfl)); (try simp only [nrm])
          refine wpT_tk 15 HSS ?_ (hy := by intro u hu; obtain hu := hu; go_simp; first | done | (with_reducible rfl)); (try simp only [nrm])
          refine wpT_tk 16 HSS ?_ (hy := by intro u hu; obtain hu := hu; go_simp; first | done | (with_reducible rfl)); (try simp only [nrm])
          refine wpT_tk 18 HSS ?_ (hy := by intro u hu; obtain hu := hu; go_simp; first | done | (with_reducible rfl)); (try simp only [nrm])
          refine wpT_on 17 (fun K' hK => ?_)
          go_simp
          refine (p_threads HD2.out).mono ?_
          rintro e v3 ⟨va,rfl,x3,n3⟩
          have HD3 := hid (HD2.out.ext x3).1
          have HN3 := hid n3
          clear x3 n3 HD2 HSS
          have HSS := HD3.out.tree.1
          refine hK.out _ _ HSS ?_
          clear hK K'
          (try simp only [nrm])
          refine wpT_on 19 (fun K' hK => ?_)
          go_simp
          refine (q_live HD3.out).mono ?_
          rintro e v4 ⟨vb,rfl,x4,n4⟩
          have HD4 := hid (HD3.out.ext x4).1
          have HN4 := hid (HN3.out.ext x4)
          have HM4 := hid n4
          clear x4 n4 HD3 HN3 HSS
          have HSS := HD4.out.tree.1
          refine hK.out _ _ HSS ?_
          clear hK K'
          (try simp only [nrm])
          refine wpT_on 20 (fun K' hK => ?_)
          go_simp
          refine (sameI_to HN4.out HM4.out).mono ?_
          rintro e v5 ⟨rfl,x5⟩
          have HD5 := hid (HD4.out.ext x5).1
          clear x5 HD4 HN4 HM4 HSS
          have HSS := HD5.out.tree.1
          refine hK.out _ _ HSS ?_
          clear hK K'
          (try simp only [nrm])
          refine wpT_tk 21 HSS ?_ (hy := by intro u hu; obtain hu := hu; go_simp; first | done | (with_reducible rfl)); (try simp only [nrm])
          refine wpT_tk 22 HSS ?_ (hy := by intro u hu; obtain hu := hu; go_simp; first | done | (with_reducible rfl)); (try simp only [nrm])
          refine wpT_tk 23 HSS ?_ (hy := by intro u hu; obtain hu := hu; go_simp; first | done | (with_reducible rfl)); (try simp only [nrm])
          refine wpT_tk 24 HSS ?_ (hy := by intro u hu; obtain hu := hu; go_simp; first | done | (with_reducible rfl)); (try simp only [nrm])
          refine wpT_tk 26 HSS ?_ (hy := by intro u hu; obtain hu := hu; go_simp; first | done | (with_reducible rfl)); (try simp only [nrm])
          refine wpT_tk 27 HSS ?_ (hy := by intro u hu; obtain hu := hu; go_simp; first | done | (with_reducible rfl)); (try simp only [nrm])
          refine wpT_tk 28 HSS ?_ (hy := by intro u hu; obtain hu := hu; go_simp; first | done | (with_reducible rfl)); (try simp only [nrm])
          refine wpT_tk 29 HSS ?_ (hy := by intro u hu; obtain hu := hu; go_simp; first | done | (with_reducible rfl)); (try simp only [nrm])
          refine wpT_on 25 (fun K' hK => ?_)
          go_simp
          refine (p_nodes HD5.out).mono ?_
          rintro e v6 ⟨vc,rfl,x6,n6⟩
          have HD6 := hid (HD5.out.ext x6).1
          have HN6 := hid n6
          clear x6 n6 HD5 HSS
          have HSS := HD6.out.tree.1
          refine hK.out _ _ HSS ?_
          clear hK K'
          (try simp only [nrm])
          refine wpT_on 30 (fun K' hK => ?_)
          go_simp
          refine (q_nodes HD6.out).mono ?_
          rintro e v7 ⟨vf,rfl,x7,n7⟩
          have HD7 := hid (HD6.out.ext x7).1
          have HN7 := hid (NodesV.ext HN6.out x7)
          have HM7 := hid n7
          clear x7 n7 HD6 HN6 HSS
          have HSS := HD7.out.tree.1
          refine hK.out _ _ HSS ?_
          clear hK K'
          (try simp only [nrm])
          refine wpT_on 31 (fun K' hK => ?_)
          go_simp
          refine (same_to HN7.out HM7.out).mono ?_
          rintro e v8 ⟨rfl,x8⟩
          have HD8 := hid (HD7.out.ext x8).1
          clear x8 HD7 HN7 HM7 HSS
          have HSS := HD8.out.tree.1
          refine hK.out _ _ HSS ?_
          clear hK K'
          (try simp only [nrm])
          refine wpT_tk 32 HSS ?_ (hy := by intro u hu; obtain hu := hu; go_simp; first | done | (with_reducible rfl)); (try simp only [nrm])
          refine wpT_done (by kernel_rfl) ?_
          refine wpAny_tk 33 ?_; (try simp only [nrm])
          refine wpAny_done (by kernel_rfl) ?_ _
          clear HSS
          have HF : Hid (InvP w0 b y x th gr (k + 1) v8) := ⟨q5,by have := HL5.out; omega,HD8.out⟩
          clear HD8
          go_wp2
          go_roundg (L.length - (k + 1))
          case measure => omega
          case rel => exact ⟨k + 1,by go_num,by omega,by omega,HF⟩
    · have hx := hid hinv.out.choose_spec.2.xt
      go_wp2
      go_returns
      exact ⟨rfl,hE0.out.trans hx.out⟩
end kernelPlays
end Go.Proofs.YtocicffmajbecaaGreatDoor
namespace Go.Proofs.YtocicffmajbecaaGreatDoor
open Go.ChangeShapes Go.WideShapes Go.ChangeAt Go.RowKit Go.Joins Go.Deep
set_option linter.unusedSimpArgs false
set_option linter.unusedVariables false
namespace kernelPlays
set_option linter.unusedVariables false in
theorem et : Tryz.prog.globalNamed "errors.errorType" = some 0 := by kernel_rfl
theorem rt : (Tryz.prog.cutTypes.find? (·.1 == "internal/reflectlite.rtype")).map (·.2) = some 162 := by kernel_rfl
theorem oneRow : ((List.range 245).filter fun t => Tryz.prog.rowNamed t [101,114,114,111,114]) = [31] := by kernel_rfl
theorem tsize : Tryz.prog.types.size = 245 := by kernel_rfl
theorem handle_of_laid {W : World} (h : laidMetH Tryz.prog Rows.kernelPlaysRow.laid W) : W.cell? ⟨0,0,none⟩ = some As.tAny := by
  have h' : laidMet Tryz.prog [] W ∧ handlesMet Tryz.prog Rows.kernelPlaysRow.laid W := h
  obtain ⟨name,u,ty,e1,e2,e3,e4,e5⟩ := h'.2 _ (List.mem_singleton.2 rfl)
  have en : name = [101,114,114,111,114] := (Option.some.inj e1).symm
  subst en
  obtain rfl := Option.some.inj (rt.symm.trans e2)
  have hm : ty ∈ (List.range 245).filter fun t => Tryz.prog.rowNamed t [101,114,114,111,114] := List.mem_filter.2 ⟨List.mem_range.2 (by rw [← tsize]; exact e3),e4⟩
  rw [oneRow] at hm
  obtain rfl := List.mem_singleton.1 hm
  have hh : typeHandle Tryz.prog 31 = .pointer (some ⟨1,31,none⟩) := by kernel_rfl
  rw [hh] at e5
  simpa using World.var?_cell et e5 0
noncomputable def laidWorld (os : Os) : World :=
  let w0 := World.holding Tryz.prog os ⟨#[],#[],[]⟩
  { w0 with heap := w0.heap.modify 0 fun
      | .cells _ t frozen => .cells #[.iface 162 (.agg #[.pointer (some ⟨1,31,none⟩)])] t frozen
      | o => o }
theorem laidWorld_met (os : Os) (args : Array Value) : laidMetH Tryz.prog Rows.kernelPlaysRow.laid ((laidWorld os).forCall (fun _ _ => 0) ⟨#[],args,[]⟩).memory :=
  laidMetH_of_parts (laidMet_nil _ _) (by kernel_rfl)
set_option maxRecDepth 100000 in
theorem lifted (os : Os) (started : os.Started) (H : Type) (enc : TypeId × Value → H) :
    ReturnsInHanded {} Tryz.checked os 3 .any (fun w args => (Rows.kernelPlaysSpec.pre enc Tryz.prog Tryz.f3 [] false w args ∧ laidMetH Tryz.prog Rows.kernelPlaysRow.laid w) ∧ sizedMet enc Tryz.prog Tryz.f3 (OpenSpec.ofChange Rows.kernelPlaysSpec) false w args)
      (Rows.kernelPlaysSpec.post enc Tryz.prog Tryz.f3 false true false false) := by
  refine returnsInHanded_of_change_and (C := Tryz.checked) (X := fun w _ => laidMetH Tryz.prog Rows.kernelPlaysRow.laid w) (fun _ _ _ hh h => h.of_heap hh) Own.own started (by kernel_rfl) Tryz.func3
    (ChangeSpec.witness_at (enc := enc) (C := Tryz.checked) (os := os) (X := fun w _ => laidMetH Tryz.prog Rows.kernelPlaysRow.laid w) false (laidWorld os) #[.int .i64 0,.int .i64 0,.slice none 0 0] 8 rfl (by kernel_rfl) (by kernel_rfl) (by kernel_rfl) (by kernel_rfl) (by kernel_rfl) (laidWorld_met os _)) ?_
  intro W base args ds gs before hval0 hW _ hsz0 hL _
  have hval : ∀ (j : Nat) t v,Tryz.f3.params[j]? = some t → args[j]? = some v → Value.okWide Tryz.prog W .any base t v := hval0
  have hW' := hW
  obtain ⟨p,q,hA0,hV0,rfl,hfz,hnd⟩ := hW
  have hA : DataW.TrodAll enc Tryz.prog W 0 (fun _ => true) true Tryz.f3.params.toList args.toList ds p := hA0
  have hV : DataW.TrodVars enc Tryz.prog W (fun _ => true) [] gs q := hV0
  rw [Tryz.params3] at hA hval
  obtain ⟨rfl,rfl⟩ := trodVars_none hV
  have hsz : (DataW.weightsEach Tryz.prog [3,3,22] ds).all (· ≤ reachBytes) = true := by rw [List.append_nil] at hsz0; exact hsz0
  have hg := handle_of_laid hL
  obtain ⟨v0,vs0,d0,ds0,p0,q0,hargs,rfl,rfl,h0,r0⟩ := trodAll_cons hA
  obtain ⟨v1,vs1,d1,ds1,p1,q1,rfl,rfl,rfl,h1,r1⟩ := trodAll_cons r0
  obtain ⟨v2,vs2,d2,ds2,p2,q2,rfl,rfl,rfl,h2,r2⟩ := trodAll_cons r1
  obtain ⟨rfl,rfl,rfl⟩ := trodAll_nil r2
  obtain rfl : args = #[v0,v1,v2] := by cases args; simp_all
  have k0 := h0
  have lt0 : ∀ x ∈ p0,x.block < W.heap.size := by obtain ⟨m,hm⟩ := k0; exact DataW.trod_lt m _ _ _ hm
  have k1 := h1
  have lt1 : ∀ x ∈ p1,x.block < W.heap.size := by obtain ⟨m,hm⟩ := k1; exact DataW.trod_lt m _ _ _ hm
  have k2 := h2
  have lt2 : ∀ x ∈ p2,x.block < W.heap.size := by obtain ⟨m,hm⟩ := k2; exact DataW.trod_lt m _ _ _ hm
  obtain ⟨n0,rfl,rfl,rfl,wn0⟩ := open_int Tryz.underlying3 (hval 0 3 v0 rfl rfl) h0
  obtain ⟨n1,rfl,rfl,rfl,wn1⟩ := open_int Tryz.underlying3 (hval 1 3 v1 rfl rfl) h1
  obtain ⟨a0,len0,cap0,rfl⟩ := okWide_slice Tryz.underlying22 (hval 2 22 v2 rfl rfl)
  obtain ⟨l,hl⟩ := Own.open_stqs h2
  clear hA0 hval0 hsz0 hV0
  refine (walk n0 n1 _ l W hl hg).mono fun e W' ⟨he,hx⟩ => ?_
  subst he
  exact ⟨_,rfl,_,_,_,[],_,[],hW',trodAll_mk1 (shut_bool Tryz.underlying4 _),(trodAll_cons_mk (Below.trod Own.laidOut (by kernel_rfl) (of_decide_eq_true (by kernel_rfl)) k0 hx.below lt0) (trodAll_cons_mk (Below.trod Own.laidOut (by kernel_rfl) (of_decide_eq_true (by kernel_rfl)) k1 hx.below lt1) (trodAll_cons_mk (Below.trod Own.laidOut (by kernel_rfl) (of_decide_eq_true (by kernel_rfl)) k2 hx.below lt2) trodAll_mk0))),rfl,hx.below.frame _,fun h => by cases h⟩
theorem plain : Rows.KernelPlaysSaid :=
  OpenClaim.holds_of_wide 3 Tryz.f3 rfl rfl rfl rfl rfl rfl rfl ⟨rfl,rfl,rfl,rfl,rfl⟩ rfl rfl rfl rfl rfl (by kernel_rfl) Tryz.func3 (by kernel_rfl)
    (of_decide_eq_true (by kernel_rfl)) (by unfold Func.isWrapper; first | (rw [if_pos (by decide +kernel)]; kernel_rfl) | (rw [if_neg (by decide +kernel)]; exact ⟨rfl,rfl⟩))
    (fun os started H enc _ => lifted os started H enc)
theorem proved : Rows.KernelPlaysCardSaid :=
  Claim7.holds_tied_plain_at .later [] [.handle] true _ true
    plain (fun _ h => by cases h) (by kernel_rfl) (fun _ h => by cases h) kernelPlays_row_tie rfl ⟨rfl,rfl⟩ (by kernel_rfl) rfl
    (fun f fn hf hfn => by
      obtain rfl : f = 3 := Option.some.inj ((show Tryz.prog.funcNamed "tontine/tontinelaw10.KernelPlays" = some 3 by kernel_rfl).symm.trans hf) |>.symm
      obtain rfl : fn = Tryz.f3 := (Option.some.inj (Tryz.func3.symm.trans hfn)).symm
      exact ⟨by kernel_rfl,fun j t ht => by
        rw [Tryz.params3] at ht
        match j,ht with
        | 0,ht => simp at ht; subst ht; exact (show Tryz.prog.wantsStandIn 3 = false by kernel_rfl)
        | 1,ht => simp at ht; subst ht; exact (show Tryz.prog.wantsStandIn 3 = false by kernel_rfl)
        | 2,ht => simp at ht; subst ht; exact (show Tryz.prog.wantsStandIn 22 = false by kernel_rfl)
        | j + 3,ht => simp at ht⟩)
    (by kernel_rfl)
end kernelPlays
end Go.Proofs.YtocicffmajbecaaGreatDoor
