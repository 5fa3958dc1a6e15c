/- Nodes of a tree as data: who is there, who is ready, who is next; and what each change of a tree comes to. No program is named here. -/
import Derived.Test.YtocicffmajbecaaGreatDoorWt
import Derived.Test.YtocicffmajbecaaGreatDoorPqM
import Derived.Handy
namespace Go.Proofs.YtocicffmajbecaaGreatDoor
structure Nd where
  id : Int
  par : Int
  wt : Int
  pass : Int
  thr : Bool
  rdy : Bool
  now : Int
deriving DecidableEq
def someT (l : List Nd) (id : Int) : Bool := l.any fun n => n.par == id && n.rdy
theorem someT_iff {l : List Nd} {id : Int} : someT l id = true ↔ ∃ m ∈ l,m.par = id ∧ m.rdy = true := by simp [someT]
theorem someT_not {l : List Nd} {id : Int} : someT l id = false ↔ ∀ m ∈ l,m.par = id → m.rdy = false := by
  rw [← Bool.not_eq_true,someT_iff]
  constructor
  · intro h m hm hp
    cases hr : m.rdy
    · rfl
    · exact absurd ⟨m,hm,hp,hr⟩ h
  · rintro h ⟨m,hm,hp,hr⟩
    rw [h m hm hp] at hr; cases hr
def getU (l : List Nd) (id : Int) : Option Nd := l.find? fun n => n.id == id
def upd (id : Int) (f : Nd → Nd) (l : List Nd) : List Nd := l.map fun n => if n.id = id then f n else n
abbrev Ids (l : List Nd) : Prop := l.Pairwise fun a b => a.id < b.id
theorem uniqU {l : List Nd} (h : Ids l) {n m : Nd} (hn : n ∈ l) (hm : m ∈ l) (e : n.id = m.id) : n = m := by
  induction l with
  | nil => cases hn
  | cons a l ih =>
    obtain ⟨h1,h2⟩ := List.pairwise_cons.1 h
    rcases List.mem_cons.1 hn with e1 | k1 <;> rcases List.mem_cons.1 hm with e2 | k2
    · rw [e1,e2]
    · have := h1 m k2; subst e1; omega
    · have := h1 n k1; subst e2; omega
    · exact ih h2 k1 k2
theorem getU_mem {l : List Nd} {id : Int} {n : Nd} (h : getU l id = some n) : n ∈ l ∧ n.id = id := by
  unfold getU at h
  exact ⟨List.mem_of_find?_eq_some h,by simpa using List.find?_some h⟩
theorem getU_of {l : List Nd} (hs : Ids l) {n : Nd} (h : n ∈ l) : getU l n.id = some n := by
  cases hg : getU l n.id with
  | none =>
    unfold getU at hg
    exact absurd (List.find?_eq_none.1 hg n h) (by simp)
  | some m =>
    obtain ⟨h1,h2⟩ := getU_mem hg
    rw [uniqU hs h1 h h2]
theorem getU_none {l : List Nd} {id : Int} : getU l id = none ↔ ∀ n ∈ l,n.id ≠ id := by
  unfold getU
  rw [List.find?_eq_none]
  simp
theorem mem_upd {id : Int} {f : Nd → Nd} {l : List Nd} {m : Nd} : m ∈ upd id f l ↔ ∃ n ∈ l,m = if n.id = id then f n else n := by
  unfold upd
  rw [List.mem_map]
  exact ⟨fun ⟨n,h,e⟩ => ⟨n,h,e.symm⟩,fun ⟨n,h,e⟩ => ⟨n,h,e.symm⟩⟩
theorem upd_length (id : Int) (f : Nd → Nd) (l : List Nd) : (upd id f l).length = l.length := by simp [upd]
theorem upd_get (id : Int) (f : Nd → Nd) (l : List Nd) (i : Nat) : (upd id f l)[i]? = (l[i]?).map fun n => if n.id = id then f n else n := by simp [upd]
theorem ids_upd {id : Int} {f : Nd → Nd} {l : List Nd} (hf : ∀ n,(f n).id = n.id) (h : Ids l) : Ids (upd id f l) := by
  unfold upd
  refine List.pairwise_map.2 (h.imp fun {a b} hab => ?_)
  have : ∀ n : Nd,(if n.id = id then f n else n).id = n.id := fun n => by split <;> simp [hf]
  rw [this,this]; exact hab
theorem upd_same {id : Int} {f : Nd → Nd} {l : List Nd} (h : ∀ n ∈ l,n.id = id → f n = n) : upd id f l = l := by
  unfold upd
  conv => rhs; rw [← List.map_id l]
  refine List.map_congr_left fun n hn => ?_
  split
  · exact h n hn ‹_›
  · rfl
def nowU (l : List Nd) (id : Int) : Int := match getU l id with
  | some n => n.now
  | none => 0
theorem nowU_of {l : List Nd} (hs : Ids l) {p : Nd} (hp : p ∈ l) : nowU l p.id = p.now := by unfold nowU; rw [getU_of hs hp]
def rdyF (now : Int) (n : Nd) : Nd := { n with pass := max n.pass now,rdy := true }
def onF (n : Nd) : Nd := { n with rdy := true }
def offF (n : Nd) : Nd := { n with rdy := false }
def wakeU : Nat → List Nd → Int → List Nd
  | 0,l,_ => l
  | f + 1,l,id => match getU l id with
    | none => l
    | some n => if n.rdy = true then l else if n.par < 0 then upd id onF l else wakeU f (upd id (rdyF (nowU l n.par)) l) n.par
def restU : Nat → List Nd → Int → List Nd
  | 0,l,_ => l
  | f + 1,l,id => match getU l id with
    | none => l
    | some n => if n.rdy = false then l else if n.par < 0 ∨ someT (upd id offF l) n.par = true then upd id offF l else restU f (upd id offF l) n.par
def bestU : List Nd → Int → Option Nd
  | [],_ => none
  | n :: l,g => match bestU l g with
    | none => if n.par = g ∧ n.rdy = true then some n else none
    | some b => if n.par = g ∧ n.rdy = true ∧ n.pass ≤ b.pass then some n else some b
def nowF (p : Int) (n : Nd) : Nd := { n with now := p }
def goF (n : Nd) : Nd := { n with pass := n.pass + ofW n.wt }
def runU : Nat → List Nd → Int → Option (Int × List Nd)
  | 0,_,_ => none
  | f + 1,l,id => match getU l id with
    | none => none
    | some n => if n.thr = true then some (id,l) else match bestU l id with
      | none => none
      | some b => runU f (upd b.id goF (upd id (nowF b.pass) l)) b.id
def wtF (now wt : Int) (n : Nd) : Nd := { n with pass := scaleW n.pass now n.wt wt,wt := wt }
def placeT (l : List Nd) (id : Int) : Nat := l.findIdx fun n => !decide (n.id < id)
def insT (d : Nd) (l : List Nd) : List Nd := l.take (placeT l d.id) ++ d :: l.drop (placeT l d.id)
theorem placeT_le (l : List Nd) (id : Int) : placeT l id ≤ l.length := List.findIdx_le_length
theorem bestU_none {l : List Nd} {g : Int} : bestU l g = none ↔ someT l g = false := by
  induction l with
  | nil => simp [bestU,someT]
  | cons n l ih =>
    rw [someT_not] at ih ⊢
    simp only [bestU]
    cases hb : bestU l g with
    | none =>
      have ih := ih.1 hb
      simp only
      constructor
      · intro h m hm hp
        rcases List.mem_cons.1 hm with rfl | hm
        · by_cases hr : m.rdy = true
          · rw [if_pos ⟨hp,hr⟩] at h; cases h
          · simpa using hr
        · exact ih m hm hp
      · intro h
        rw [if_neg]
        rintro ⟨hp,hr⟩
        rw [h n List.mem_cons_self hp] at hr; cases hr
    | some b =>
      simp only
      constructor
      · intro h; split at h <;> cases h
      · intro h
        exfalso
        rw [hb] at ih
        have := ih.2 fun m hm => h m (List.mem_cons_of_mem _ hm)
        cases this
theorem bestU_spec : ∀ {l : List Nd},Ids l → ∀ {g : Int} {b : Nd},bestU l g = some b → b ∈ l ∧ b.par = g ∧ b.rdy = true ∧ ∀ m ∈ l,m.par = g → m.rdy = true → m = b ∨ lessB (b.pass,b.id) (m.pass,m.id) = true
  | [],_,g,b,h => by simp [bestU] at h
  | n :: l,hs,g,b,h => by
    obtain ⟨h1,h2⟩ := List.pairwise_cons.1 hs
    simp only [bestU] at h
    cases hb : bestU l g with
    | none =>
      rw [hb] at h
      simp only at h
      split at h
      · rename_i hc
        obtain rfl := Option.some.inj h
        refine ⟨List.mem_cons_self,hc.1,hc.2,fun m hm hp hr => ?_⟩
        rcases List.mem_cons.1 hm with rfl | hm
        · exact .inl rfl
        · rw [someT_not.1 (bestU_none.1 hb) m hm hp] at hr; cases hr
      · cases h
    | some c =>
      obtain ⟨c1,c2,c3,c4⟩ := bestU_spec h2 hb
      rw [hb] at h
      simp only at h
      split at h
      · rename_i hc
        obtain rfl := Option.some.inj h
        refine ⟨List.mem_cons_self,hc.1,hc.2.1,fun m hm hp hr => ?_⟩
        rcases List.mem_cons.1 hm with rfl | hm
        · exact .inl rfl
        · right
          have hid := h1 m hm
          rcases c4 m hm hp hr with rfl | h5
          · rw [lessB_iff]; simp only; omega
          · rw [lessB_iff] at h5 ⊢; simp only at h5 ⊢; omega
      · rename_i hc
        obtain rfl := Option.some.inj h
        refine ⟨List.mem_cons_of_mem _ c1,c2,c3,fun m hm hp hr => ?_⟩
        rcases List.mem_cons.1 hm with rfl | hm
        · right
          have : ¬ m.pass ≤ c.pass := fun h => hc ⟨hp,hr,h⟩
          rw [lessB_iff]; simp only; omega
        · exact c4 m hm hp hr
end Go.Proofs.YtocicffmajbecaaGreatDoor
