/- The document's own tree: every call, whatever is asked, comes to the same nodes as the program's. -/
import Derived.Test.YtocicffmajbecaaGreatDoorTmM
import Derived.Test.YtocicffmajbecaaGreatDoorTqAll
import Derived.IntWalk
import Derived.Test.YtocicffmajbecaaGreatDoorPush
import Derived.Test.YtocicffmajbecaaGreatDoorNn
import Derived.OwnWalk
import Derived.Handy
namespace Go.Proofs.YtocicffmajbecaaGreatDoor
open Go.RowKit
theorem bestU_snoc (x : Nd) (g : Int) : ∀ l : List Nd,bestU (l ++ [x]) g = match bestU l g with
    | none => if x.par = g ∧ x.rdy = true then some x else none
    | some b => if x.par = g ∧ x.rdy = true ∧ x.pass < b.pass then some x else some b
  | [] => by simp [bestU]
  | n :: l => by
    simp only [List.cons_append,bestU]
    rw [bestU_snoc x g l]
    cases hb : bestU l g with
    | none =>
      simp only
      by_cases hx : x.par = g ∧ x.rdy = true
      · rw [if_pos hx]
        simp only
        by_cases hn : n.par = g ∧ n.rdy = true
        · rw [if_pos hn]
          simp only
          by_cases hle : n.pass ≤ x.pass
          · rw [if_pos ⟨hn.1,hn.2,hle⟩,if_neg (fun h => by omega)]
          · rw [if_neg (fun h => hle h.2.2),if_pos ⟨hx.1,hx.2,by omega⟩]
        · rw [if_neg hn,if_neg (fun h => hn ⟨h.1,h.2.1⟩)]
      · rw [if_neg hx]
        simp only
        by_cases hn : n.par = g ∧ n.rdy = true
        · rw [if_pos hn]
          simp only
          rw [if_neg (fun h => hx ⟨h.1,h.2.1⟩)]
        · rw [if_neg hn]
    | some b =>
      simp only
      by_cases hn : n.par = g ∧ n.rdy = true ∧ n.pass ≤ b.pass
      · rw [if_pos hn]
        simp only
        by_cases hx : x.par = g ∧ x.rdy = true ∧ x.pass < b.pass
        · rw [if_pos hx]
          simp only
          by_cases hxn : n.pass ≤ x.pass
          · rw [if_pos ⟨hn.1,hn.2.1,hxn⟩,if_neg (fun h => by omega)]
          · rw [if_neg (fun h => hxn h.2.2),if_pos ⟨hx.1,hx.2.1,by omega⟩]
        · rw [if_neg hx]
          simp only
          rw [if_pos hn,if_neg (fun h => hx ⟨h.1,h.2.1,by omega⟩)]
      · rw [if_neg hn]
        simp only
        by_cases hx : x.par = g ∧ x.rdy = true ∧ x.pass < b.pass
        · rw [if_pos hx]
          simp only
          rw [if_neg (fun h => hn ⟨h.1,h.2.1,by omega⟩)]
        · rw [if_neg hx]
          simp only
          rw [if_neg hn]
def BestAt (l : List Nd) (g : Int) (i : Nat) (p : Int) : Prop := (p = -1 ∧ bestU (l.take i) g = none) ∨ ∃ (j : Nat) (b : Nd),p = j ∧ j < i ∧ l[j]? = some b ∧ bestU (l.take i) g = some b
theorem bestAt_zero (l : List Nd) (g : Int) : BestAt l g 0 (-1) := .inl ⟨rfl,rfl⟩
theorem BestAt.skip {l : List Nd} {g : Int} {i : Nat} {p : Int} (h : BestAt l g i p) {x : Nd} (hx : l[i]? = some x) (hn : ¬ (x.par = g ∧ x.rdy = true)) : BestAt l g (i + 1) p := by
  obtain ⟨hi,rfl⟩ := List.getElem?_eq_some_iff.1 hx
  have e := List.take_succ_eq_append_getElem hi
  rcases h with ⟨h1,h2⟩ | ⟨j,b,h1,h2,h3,h4⟩
  · exact .inl ⟨h1,by rw [e,bestU_snoc,h2]; simp only; rw [if_neg hn]⟩
  · exact .inr ⟨j,b,h1,by omega,h3,by rw [e,bestU_snoc,h4]; simp only; rw [if_neg fun h => hn ⟨h.1,h.2.1⟩]⟩
theorem BestAt.first {l : List Nd} {g : Int} {i : Nat} {p : Int} (h : BestAt l g i p) {x : Nd} (hx : l[i]? = some x) (hn : x.par = g ∧ x.rdy = true) (hp : p < 0) : BestAt l g (i + 1) i := by
  obtain ⟨hi,rfl⟩ := List.getElem?_eq_some_iff.1 hx
  have e := List.take_succ_eq_append_getElem hi
  rcases h with ⟨h1,h2⟩ | ⟨j,b,h1,h2,h3,h4⟩
  · exact .inr ⟨i,l[i],rfl,Nat.lt_succ_self i,hx,by rw [e,bestU_snoc,h2]; simp only; rw [if_pos hn]⟩
  · omega
theorem BestAt.more {l : List Nd} {g : Int} {i j : Nat} (h : BestAt l g i j) {x b : Nd} (hx : l[i]? = some x) (hb : l[j]? = some b) (hn : x.par = g ∧ x.rdy = true) : BestAt l g (i + 1) (if x.pass < b.pass then i else j) := by
  obtain ⟨hi,rfl⟩ := List.getElem?_eq_some_iff.1 hx
  have e := List.take_succ_eq_append_getElem hi
  rcases h with ⟨h1,h2⟩ | ⟨j',b',h1,h2,h3,h4⟩
  · omega
  · obtain rfl : j = j' := by omega
    rw [hb] at h3
    obtain rfl := Option.some.inj h3
    by_cases hlt : l[i].pass < b.pass
    · rw [if_pos hlt]
      exact .inr ⟨i,l[i],rfl,Nat.lt_succ_self i,hx,by rw [e,bestU_snoc,h4]; simp only; rw [if_pos ⟨hn.1,hn.2,hlt⟩]⟩
    · rw [if_neg hlt]
      exact .inr ⟨j,b,rfl,by omega,hb,by rw [e,bestU_snoc,h4]; simp only; rw [if_neg fun h => hlt h.2.2]⟩
theorem BestAt.done {l : List Nd} {g : Int} {p : Int} (h : BestAt l g l.length p) {b : Nd} (hb : bestU l g = some b) : ∃ j : Nat,p = j ∧ l[j]? = some b := by
  unfold BestAt at h
  rw [List.take_length] at h
  rcases h with ⟨h1,h2⟩ | ⟨j,b',h1,h2,h3,h4⟩
  · rw [hb] at h2; cases h2
  · rw [hb] at h4
    obtain rfl := Option.some.inj h4
    exact ⟨j,h1,h3⟩
theorem set_upd {l : List Nd} (hs : Ids l) {k : Nat} {n : Nd} (hk : l[k]? = some n) (f : Nd → Nd) : l.set k (f n) = upd n.id f l := by
  obtain ⟨hlt,rfl⟩ := List.getElem?_eq_some_iff.1 hk
  apply List.ext_getElem?
  intro i
  rw [upd_get,List.getElem?_set]
  by_cases e : k = i
  · subst e
    rw [if_pos rfl,if_pos hlt,hk]
    simp
  · rw [if_neg e]
    cases hi : l[i]? with
    | none => rfl
    | some m =>
      obtain ⟨hi2,rfl⟩ := List.getElem?_eq_some_iff.1 hi
      simp only [Option.map_some]
      rw [if_neg]
      intro e2
      rcases Nat.lt_or_gt_of_ne e with h | h
      · have := ids_get hs hlt hi2 h; omega
      · have := ids_get hs hi2 hlt h; omega
theorem ids_of_sim {l l' : List Nd} (h : SimS l l') (hs : Ids l) : Ids l' := by
  have e : l'.map Nd.id = l.map Nd.id := by
    have := congrArg (List.map fun k : Int × Int × Bool × Int => k.1) h
    simpa [List.map_map,keyS,Function.comp_def] using this
  have h1 : (l.map Nd.id).Pairwise (· < ·) := List.pairwise_map.2 hs
  rw [← e] at h1
  exact List.pairwise_map.1 h1
def rebC (l : List Nd) (g : Int) : List Nd := if 16777216 < nowU l g then rebU l g else l
theorem reb_ids2 {l : List Nd} (hs : Ids l) (g : Int) : Ids (rebU l g) := ids_of_sim (reb_sim l g).s hs
theorem rebC_ids {l : List Nd} (hs : Ids l) (g : Int) : Ids (rebC l g) := by
  unfold rebC; split
  · exact reb_ids2 hs g
  · exact hs
theorem reb_nowU {l : List Nd} (hs : Ids l) {a b : Int} (h : a ≠ b) : nowU (rebU l a) b = nowU l b := by
  cases hg : getU l b with
  | none =>
    have hg' : getU (rebU l a) b = none := by
      rw [getU_none]
      intro m' hm' e
      obtain ⟨m,hm,ek⟩ := (reb_sim l a).back hm'
      exact getU_none.1 hg m hm ((keyR_eq ek).1.trans e)
    simp [nowU,hg,hg']
  | some r =>
    obtain ⟨hr,rfl⟩ := getU_mem hg
    have hr' : rebN a (nowU l a) r ∈ rebU l a := by rw [reb_map hs]; exact List.mem_map.2 ⟨r,hr,rfl⟩
    have e1 := (rebN_same a (nowU l a) r).1
    have h1 := nowU_of (reb_ids2 hs a) hr'
    rw [e1] at h1
    rw [h1,nowU_of hs hr,rebN_now,if_neg (fun e => h e.symm)]
theorem nd_eta {m n : Nd} (h : keyR m = keyR n) (hp : m.pass = n.pass) (hn : m.now = n.now) : m = n := by
  obtain ⟨k1,k2,k3,k4,k5⟩ := keyR_eq h
  cases m; cases n
  simp only at k1 k2 k3 k4 k5 hp hn
  subst k1 k2 k3 k4 k5 hp hn
  rfl
theorem rebN_key (g now : Int) (m : Nd) : keyR (rebN g now m) = keyR m := by
  obtain ⟨k1,k2,k3,k4,k5⟩ := rebN_same g now m
  simp only [keyR,keyS,k1,k2,k3,k4,k5]
theorem rebN_comm {a b : Int} (h : a ≠ b) (p q : Int) (m : Nd) : rebN b q (rebN a p m) = rebN a p (rebN b q m) := by
  obtain ⟨a1,a2,-⟩ := rebN_same a p m
  obtain ⟨b1,b2,-⟩ := rebN_same b q m
  refine nd_eta ?_ ?_ ?_
  · rw [rebN_key,rebN_key,rebN_key,rebN_key]
  · rw [rebN_pass,rebN_pass,rebN_pass,rebN_pass,a2,b2]
    by_cases h1 : m.par = a
    · rw [if_pos h1,if_pos h1,if_neg (by omega),if_neg (by omega)]
    · rw [if_neg h1,if_neg h1]
  · rw [rebN_now,rebN_now,rebN_now,rebN_now,a1,b1]
    by_cases h1 : m.id = a
    · rw [if_pos h1,if_pos h1,if_neg (by omega)]
    · rw [if_neg h1,if_neg h1]
theorem reb_comm {l : List Nd} (hs : Ids l) {a b : Int} (h : a ≠ b) : rebU (rebU l a) b = rebU (rebU l b) a := by
  rw [reb_map (reb_ids2 hs a),reb_map (reb_ids2 hs b),reb_nowU hs h,reb_nowU hs (Ne.symm h),reb_map hs,reb_map hs,List.map_map,List.map_map]
  exact List.map_congr_left fun m _ => rebN_comm h _ _ m
theorem rebC_comm {l : List Nd} (hs : Ids l) (a b : Int) : rebC (rebC l a) b = rebC (rebC l b) a := by
  by_cases h : a = b
  · subst h; rfl
  · have h' : b ≠ a := Ne.symm h
    have e1 := reb_nowU hs h
    have e2 := reb_nowU hs h'
    by_cases ha : 16777216 < nowU l a <;> by_cases hb : 16777216 < nowU l b
    · simp only [rebC,if_pos ha,if_pos hb,e1,e2]; exact reb_comm hs h
    · simp only [rebC,if_pos ha,if_neg hb,e1]
    · simp only [rebC,if_neg ha,if_pos hb,e2]
    · simp only [rebC,if_neg ha,if_neg hb]
theorem foldl_last (a : Int) : ∀ (gs : List Int) {l : List Nd},Ids l → gs.foldl rebC (rebC l a) = rebC (gs.foldl rebC l) a
  | [],_,_ => rfl
  | g :: gs,l,h => by
    simp only [List.foldl_cons]
    rw [rebC_comm h a g]
    exact foldl_last a gs (rebC_ids h g)
theorem foldl_rev : ∀ (gs : List Int) {l : List Nd},Ids l → gs.reverse.foldl rebC l = gs.foldl rebC l
  | [],_,_ => rfl
  | g :: gs,l,h => by
    rw [List.reverse_cons,List.foldl_append,List.foldl_cons,List.foldl_nil,List.foldl_cons,foldl_rev gs h,foldl_last g gs h]
def Way (l : List Nd) (gs : List Int) (id : Int) : Prop := ∀ (m : List Nd),SimS l m → Ids m → ∀ f,gs.length ≤ f → upR f m id = gs.reverse.foldl rebC m
theorem way_root {l : List Nd} {r : Nd} (hr : r ∈ l) (h0 : r.par < 0) : Way l [] r.id := fun m hm hi f _ => by
  obtain ⟨r',hr',ek⟩ := hm.fwd hr
  obtain ⟨k1,k2,-⟩ := keyS_eq ek
  rw [← k1]
  exact upR_top hi hr' (by omega)
theorem Way.next {l : List Nd} {gs : List Int} {g : Int} (h : Way l gs g) {b : Nd} (hb : b ∈ l) (hp : b.par = g) (h0 : 0 ≤ g) : Way l (gs ++ [g]) b.id := fun m hm hi f hf => by
  obtain ⟨b',hb',ek⟩ := hm.fwd hb
  obtain ⟨k1,k2,-⟩ := keyS_eq ek
  rw [List.length_append,List.length_singleton] at hf
  obtain ⟨f,rfl⟩ : ∃ f',f = f' + 1 := ⟨f - 1,by omega⟩
  have hg : getU m b.id = some b' := by rw [← k1]; exact getU_of hi hb'
  simp only [upR,hg]
  rw [if_neg (by omega),k2,hp,List.reverse_append]
  simp only [List.reverse_cons,List.reverse_nil,List.nil_append,List.singleton_append,List.foldl_cons]
  have hs2 : SimS l (rebC m g) := by
    unfold rebC; split
    · exact hm.trans (reb_sim m g).s
    · exact hm
  exact h (rebC m g) hs2 (rebC_ids hi g) f (by omega)
end Go.Proofs.YtocicffmajbecaaGreatDoor
namespace Go.Proofs.YtocicffmajbecaaGreatDoor
open Go.RowKit
set_option linter.unusedSimpArgs false
theorem node_cells {base x : Nat} {g cap : Nat} {l : List Nd} {w : World} (h : Tq base x (.slice (some ⟨g,0,none⟩) l.length cap) l w) {i : Nat} {n : Nd} (hi : l[i]? = some n) : w.cell? ⟨g,i * 7,none⟩ = some (.int .i64 n.id) ∧ w.cell? ⟨g,i * 7 + 1,none⟩ = some (.int .i64 n.par) ∧ w.cell? ⟨g,i * 7 + 2,none⟩ = some (.int .i64 n.wt) ∧ w.cell? ⟨g,i * 7 + 3,none⟩ = some (.int .i64 n.pass) ∧ w.cell? ⟨g,i * 7 + 4,none⟩ = some (.bool n.thr) ∧ w.cell? ⟨g,i * 7 + 5,none⟩ = some (.bool n.rdy) ∧ w.cell? ⟨g,i * 7 + 6,none⟩ = some (.int .i64 n.now) := by
  have := h.row.node hi
  simpa using this
def BestPost (x : Nat) (l : List Nd) (k : Nat) (gi : Int) (z : World) (u1 u2 u3 u5 u9 u10 u11 u12 u13 u14 u15 u16 u17 u18 u19 u20 u21 u22 u23 u24 u25 u26 u27 u28 u29 u30 u31 u32 u85 u86 u87 u88 u89 u90 u91 u92 u93 u94 u95 u96 u97 u98 u99 u100 u101 u102 u103 u104 u105 u106 u107 u108 u109 u110 u111 u112 u113 u114 u115 u116 u117 u118 u119 u120 u121 u122 u123 u124 u125 u126 u127 u128 u129 u130 u131 u132 u133 u134 u135 u136 u137 u138 u139 u140 u141 u142 u143 u144 u145 u146 u147 u148 u149 u150 u151 u152 u153 u154 u155 u156 u157 u158 u159 u160 u161 u162 u163 u164 u165 u166 u167 u168 u169 u170 u171 u172 u173 u174 u175 u176 u177 u178 u179 u180 u181 u182 u183 u184 u185 u186 u187 u188 u189 u190 u191 u192 u193 u194 u195 u196 u197 u198 u199 u200 u201 u202 u203 u204 u205 u206 u207 u208 u209 u210 u211 u212 u213 u214 u215 u216 u217 u218 u219 u220 u221 : Value) (a' : Act) (y : World) : Prop :=
  ∃ (p : Int) (u7 u8 u33 u34 u35 u36 u37 u38 u39 u40 u41 u42 u43 u44 u45 u46 u47 u48 u49 u50 u51 u52 u53 u54 u55 u56 u57 u58 u59 u60 u61 u62 u63 u64 u65 u66 u67 u68 u69 u70 u71 u72 u73 u74 u75 u76 u77 u78 u79 u80 u81 u82 u83 u84 : Value),a' = { tmps := #[.pointer (some ⟨x,0,none⟩),u1,u2,u3,.int .i64 k,u5,.int .i64 p,u7,u8,u9,u10,u11,u12,u13,u14,u15,u16,u17,u18,u19,u20,u21,u22,u23,u24,u25,u26,u27,u28,u29,u30,u31,u32,u33,u34,u35,u36,u37,u38,u39,u40,u41,u42,u43,u44,u45,u46,u47,u48,u49,u50,u51,u52,u53,u54,u55,u56,u57,u58,u59,u60,u61,u62,u63,u64,u65,u66,u67,u68,u69,u70,u71,u72,u73,u74,u75,u76,u77,u78,u79,u80,u81,u82,u83,u84,u85,u86,u87,u88,u89,u90,u91,u92,u93,u94,u95,u96,u97,u98,u99,u100,u101,u102,u103,u104,u105,u106,u107,u108,u109,u110,u111,u112,u113,u114,u115,u116,u117,u118,u119,u120,u121,u122,u123,u124,u125,u126,u127,u128,u129,u130,u131,u132,u133,u134,u135,u136,u137,u138,u139,u140,u141,u142,u143,u144,u145,u146,u147,u148,u149,u150,u151,u152,u153,u154,u155,u156,u157,u158,u159,u160,u161,u162,u163,u164,u165,u166,u167,u168,u169,u170,u171,u172,u173,u174,u175,u176,u177,u178,u179,u180,u181,u182,u183,u184,u185,u186,u187,u188,u189,u190,u191,u192,u193,u194,u195,u196,u197,u198,u199,u200,u201,u202,u203,u204,u205,u206,u207,u208,u209,u210,u211,u212,u213,u214,u215,u216,u217,u218,u219,u220,u221],defers := [] } ∧ BestAt l gi l.length p ∧ Ext z y
set_option maxRecDepth 100000 in
set_option maxHeartbeats 8000000 in
theorem run_best {base x g cap k : Nat} {l : List Nd} {n : Nd} {z : World} (h : Tq base x (.slice (some ⟨g,0,none⟩) l.length cap) l z) (hk : l[k]? = some n) (u1 u2 u3 u5 u8 u9 u10 u11 u12 u13 u14 u15 u16 u17 u18 u19 u20 u21 u22 u23 u24 u25 u26 u27 u28 u29 u30 u31 u32 u33 u34 u35 u36 u37 u38 u39 u40 u41 u42 u43 u44 u45 u46 u47 u48 u49 u50 u51 u52 u53 u54 u55 u56 u57 u58 u59 u60 u61 u62 u63 u64 u65 u66 u67 u68 u69 u70 u71 u72 u73 u74 u75 u76 u77 u78 u79 u80 u81 u82 u83 u84 u85 u86 u87 u88 u89 u90 u91 u92 u93 u94 u95 u96 u97 u98 u99 u100 u101 u102 u103 u104 u105 u106 u107 u108 u109 u110 u111 u112 u113 u114 u115 u116 u117 u118 u119 u120 u121 u122 u123 u124 u125 u126 u127 u128 u129 u130 u131 u132 u133 u134 u135 u136 u137 u138 u139 u140 u141 u142 u143 u144 u145 u146 u147 u148 u149 u150 u151 u152 u153 u154 u155 u156 u157 u158 u159 u160 u161 u162 u163 u164 u165 u166 u167 u168 u169 u170 u171 u172 u173 u174 u175 u176 u177 u178 u179 u180 u181 u182 u183 u184 u185 u186 u187 u188 u189 u190 u191 u192 u193 u194 u195 u196 u197 u198 u199 u200 u201 u202 u203 u204 u205 u206 u207 u208 u209 u210 u211 u212 u213 u214 u215 u216 u217 u218 u219 u220 u221 : Value) :
    (bodyAt Tryz.f26 [1,1,1,1,1,0,2,2,1,2,1,0,1]).wp Tryz.prog (Ends (BestPost x l k n.id z u1 u2 u3 u5 u9 u10 u11 u12 u13 u14 u15 u16 u17 u18 u19 u20 u21 u22 u23 u24 u25 u26 u27 u28 u29 u30 u31 u32 u85 u86 u87 u88 u89 u90 u91 u92 u93 u94 u95 u96 u97 u98 u99 u100 u101 u102 u103 u104 u105 u106 u107 u108 u109 u110 u111 u112 u113 u114 u115 u116 u117 u118 u119 u120 u121 u122 u123 u124 u125 u126 u127 u128 u129 u130 u131 u132 u133 u134 u135 u136 u137 u138 u139 u140 u141 u142 u143 u144 u145 u146 u147 u148 u149 u150 u151 u152 u153 u154 u155 u156 u157 u158 u159 u160 u161 u162 u163 u164 u165 u166 u167 u168 u169 u170 u171 u172 u173 u174 u175 u176 u177 u178 u179 u180 u181 u182 u183 u184 u185 u186 u187 u188 u189 u190 u191 u192 u193 u194 u195 u196 u197 u198 u199 u200 u201 u202 u203 u204 u205 u206 u207 u208 u209 u210 u211 u212 u213 u214 u215 u216 u217 u218 u219 u220 u221)) ({ tmps := #[.pointer (some ⟨x,0,none⟩),u1,u2,u3,.int .i64 k,u5,.int .i64 (-1),.int .i64 0,u8,u9,u10,u11,u12,u13,u14,u15,u16,u17,u18,u19,u20,u21,u22,u23,u24,u25,u26,u27,u28,u29,u30,u31,u32,u33,u34,u35,u36,u37,u38,u39,u40,u41,u42,u43,u44,u45,u46,u47,u48,u49,u50,u51,u52,u53,u54,u55,u56,u57,u58,u59,u60,u61,u62,u63,u64,u65,u66,u67,u68,u69,u70,u71,u72,u73,u74,u75,u76,u77,u78,u79,u80,u81,u82,u83,u84,u85,u86,u87,u88,u89,u90,u91,u92,u93,u94,u95,u96,u97,u98,u99,u100,u101,u102,u103,u104,u105,u106,u107,u108,u109,u110,u111,u112,u113,u114,u115,u116,u117,u118,u119,u120,u121,u122,u123,u124,u125,u126,u127,u128,u129,u130,u131,u132,u133,u134,u135,u136,u137,u138,u139,u140,u141,u142,u143,u144,u145,u146,u147,u148,u149,u150,u151,u152,u153,u154,u155,u156,u157,u158,u159,u160,u161,u162,u163,u164,u165,u166,u167,u168,u169,u170,u171,u172,u173,u174,u175,u176,u177,u178,u179,u180,u181,u182,u183,u184,u185,u186,u187,u188,u189,u190,u191,u192,u193,u194,u195,u196,u197,u198,u199,u200,u201,u202,u203,u204,u205,u206,u207,u208,u209,u210,u211,u212,u213,u214,u215,u216,u217,u218,u219,u220,u221],defers := [] }) z := by
  have i1 : (k : Int) < l.length := by have := (List.getElem?_eq_some_iff.1 hk).1; omega
  have hcap : l.length ≤ cap ∧ cap ≤ 9223372036854775807 := by obtain ⟨p,c,e,h1,h2,-⟩ := h.row.slice; injection e with _ _ e; unfold maxLen at h2; omega
  obtain ⟨hc1,hc2⟩ := hcap
  have H := hid h
  have HK := hid hk
  have HB0 := hid (bestAt_zero l n.id)
  clear h hk
  unfold bodyAt Tryz.f26
  simp only [codeAt]
  go_wp2
  go_loopg [6,7] l.length (fun gg s6 s7 wr => ∃ (i : Nat) (p : Int),s6 = .int .i64 p ∧ s7 = .int .i64 i ∧ i ≤ l.length ∧ l.length - i ≤ gg ∧ Ext z wr ∧ Hid (BestAt l n.id i p))
  case atStart => exact ⟨0,-1,rfl,rfl,by omega,by omega,Ext.refl _,HB0⟩
  case round =>
    obtain ⟨i,p,rfl,rfl,hi,hgg,hX,hB⟩ := hrel
    have c0 := hX.cell H.out.cell
    have hxl := World.block_lt_of_cell? _ _ c0
    simp only at hxl
    by_cases hlt : i < l.length
    · have j1 : (i : Int) < l.length := by omega
      obtain ⟨e0,e1,e2,e3,e4,e5,-⟩ := node_cells (H.out.ext hX) (List.getElem?_eq_getElem hlt)
      obtain ⟨d0,-⟩ := node_cells (H.out.ext hX) HK.out
      have hgl := World.block_lt_of_cell? _ _ e0
      simp only at hgl
      have HN : Hid (l[i]? = some l[i]) := List.getElem?_eq_getElem hlt
      have HS : Hid (∀ h : ¬ (l[i].par = n.id ∧ l[i].rdy = true),BestAt l n.id (i + 1) p) := fun h => hB.out.skip HN.out h
      have HF : Hid (∀ h : l[i].par = n.id ∧ l[i].rdy = true,p < 0 → BestAt l n.id (i + 1) i) := fun h hp => hB.out.first HN.out h hp
      have HM : Hid (∀ (j : Nat) (b : Nd),p = j → l[j]? = some b → l[i].par = n.id ∧ l[i].rdy = true → BestAt l n.id (i + 1) (if l[i].pass < b.pass then i else j)) := fun j b hp hb hn => by
        have := hB.out
        rw [hp] at this
        exact this.more HN.out hb hn
      have HJ : Hid (0 ≤ p → ∃ (j : Nat) (b : Nd),p = j ∧ j < i ∧ l[j]? = some b) := fun hp => by
        rcases hB.out with ⟨h1,-⟩ | ⟨j,b,h1,h2,h3,-⟩
        · omega
        · exact ⟨j,b,h1,h2,h3⟩
      clear hB
      generalize l[i] = m at *
      obtain ⟨mi,mp,mw,ms,mt,mr,mn⟩ := m
      simp only at e0 e1 e2 e3 e4 e5 HS HF HM
      go_upto_region 12 with fail
      have f1 := heap_alloc_new wr (.cells #[.int .i64 mi,.int .i64 mp,.int .i64 mw,.int .i64 ms,.bool mt,.bool mr] 101 (0,0))
      have X2 : Ext wr (wr.alloc (.cells #[.int .i64 mi,.int .i64 mp,.int .i64 mw,.int .i64 ms,.bool mt,.bool mr] 101 (0,0))) := Ext.alloc (Ext.refl wr) _
      have hA : wr.heap.size < (wr.alloc (.cells #[.int .i64 mi,.int .i64 mp,.int .i64 mw,.int .i64 ms,.bool mt,.bool mr] 101 (0,0))).heap.size := by simp
      generalize wr.heap.size = A at *
      generalize wr.alloc (.cells #[.int .i64 mi,.int .i64 mp,.int .i64 mw,.int .i64 ms,.bool mt,.bool mr] 101 (0,0)) = v at *
      have b1 := more_cell (show v.cell? ⟨A,1,none⟩ = some (.int .i64 mp) by simp [World.cell?,f1])
      have b3 := more_cell (show v.cell? ⟨A,3,none⟩ = some (.int .i64 ms) by simp [World.cell?,f1])
      have b5 := more_cell (show v.cell? ⟨A,5,none⟩ = some (.bool mr) by simp [World.cell?,f1])
      have c0' := more_cell (X2.cell c0)
      have d0' := more_cell (X2.cell d0)
      have HX := hid (hX.trans X2)
      have HT := hid (H.out.ext HX.out)
      clear c0 d0 e0 e1 e2 e3 e4 e5 f1 X2 hxl hgl hX
      by_cases hp : mp = n.id
      case neg =>
        have q1 : (mp == n.id) = false := by simp [hp]
        have HR := hid (HS.out fun h => hp h.1)
        clear HS HF HM HJ hp
        generalize n.id = gi at *
        go_wp2
        ((first | refine wp_region_more (by kernel_rfl) (by kernel_rfl) ?_ | refine wp_region_ext (by kernel_rfl) (by kernel_rfl) ?_); (try dsimp only [append_cons',append_nil']); (repeat (go_big_quiet_step ((fail)))); refine wpQuiet_nil ?_; rintro _ ⟨pq,rfl⟩)
        go_wp2
        go_roundg (l.length - (i + 1))
        case measure => omega
        case rel => exact ⟨i + 1,p,rfl,by go_num,by omega,by omega,HX.out.trans (ext_more _ _),HR⟩
      subst hp
      have q1 : (n.id == n.id) = true := by simp
      cases mr with
      | false =>
        have HR := hid (HS.out fun h => by cases h.2)
        clear HS HF HM HJ
        generalize n.id = gi at *
        go_wp2
        ((first | refine wp_region_more (by kernel_rfl) (by kernel_rfl) ?_ | refine wp_region_ext (by kernel_rfl) (by kernel_rfl) ?_); (try dsimp only [append_cons',append_nil']); (repeat (go_big_quiet_step ((fail)))); refine wpQuiet_nil ?_; rintro _ ⟨pq,rfl⟩)
        go_wp2
        go_roundg (l.length - (i + 1))
        case measure => omega
        case rel => exact ⟨i + 1,p,rfl,by go_num,by omega,by omega,HX.out.trans (ext_more _ _),HR⟩
      | true =>
      by_cases hp0 : p < 0
      · have HR := hid (HF.out ⟨rfl,rfl⟩ hp0)
        clear HS HF HM HJ
        generalize n.id = gi at *
        go_wp2
        ((first | refine wp_region_more (by kernel_rfl) (by kernel_rfl) ?_ | refine wp_region_ext (by kernel_rfl) (by kernel_rfl) ?_); (try dsimp only [append_cons',append_nil']); (repeat (go_big_quiet_step ((fail)))); refine wpQuiet_nil ?_; rintro _ ⟨pq,rfl⟩)
        go_wp2
        go_roundg (l.length - (i + 1))
        case measure => omega
        case rel => exact ⟨i + 1,i,rfl,by go_num,by omega,by omega,HX.out.trans (ext_more _ _),HR⟩
      · obtain ⟨j,b,hpj,hji,hb⟩ := HJ.out (by omega)
        have HR := hid (HM.out j b hpj hb ⟨rfl,rfl⟩)
        have hjt : p.toNat = j := by omega
        have g3' := more_cell (node_cells HT.out hb).2.2.2.1
        rw [← hjt] at g3'
        have j2 : p < l.length := by omega
        have HPJ := hid hpj
        have hpb : decide (p < 0) = false := decide_eq_false hp0
        clear HS HF HM HJ hb hjt hpj
        by_cases hps : ms < b.pass
        · have HR2 : Hid (BestAt l n.id (i + 1) i) := by have := HR.out; rwa [if_pos hps] at this
          clear HR
          generalize n.id = gi at *
          generalize b.pass = bp at *
          go_wp2
          ((first | refine wp_region_more (by kernel_rfl) (by kernel_rfl) ?_ | refine wp_region_ext (by kernel_rfl) (by kernel_rfl) ?_); (try dsimp only [append_cons',append_nil']); (repeat (go_big_quiet_step ((fail)))); refine wpQuiet_nil ?_; rintro _ ⟨pq,rfl⟩)
          go_wp2
          go_roundg (l.length - (i + 1))
          case measure => omega
          case rel => exact ⟨i + 1,i,rfl,by go_num,by omega,by omega,HX.out.trans (ext_more _ _),HR2⟩
        · have HR2 : Hid (BestAt l n.id (i + 1) p) := by have := HR.out; rw [if_neg hps] at this; rw [HPJ.out]; exact this
          clear HR
          generalize n.id = gi at *
          generalize b.pass = bp at *
          go_wp2
          ((first | refine wp_region_more (by kernel_rfl) (by kernel_rfl) ?_ | refine wp_region_ext (by kernel_rfl) (by kernel_rfl) ?_); (try dsimp only [append_cons',append_nil']); (repeat (go_big_quiet_step ((fail)))); refine wpQuiet_nil ?_; rintro _ ⟨pq,rfl⟩)
          go_wp2
          go_roundg (l.length - (i + 1))
          case measure => omega
          case rel => exact ⟨i + 1,p,rfl,by go_num,by omega,by omega,HX.out.trans (ext_more _ _),HR2⟩
    · obtain rfl : i = l.length := by omega
      go_wp2
      exact ⟨rfl,p,_,_,_,_,_,_,_,_,_,_,_,_,_,_,_,_,_,_,_,_,_,_,_,_,_,_,_,_,_,_,_,_,_,_,_,_,_,_,_,_,_,_,_,_,_,_,_,_,_,_,_,_,_,_,rfl,hB.out,hX⟩
end Go.Proofs.YtocicffmajbecaaGreatDoor
namespace Go.Proofs.YtocicffmajbecaaGreatDoor
open Go.RowKit
set_option linter.unusedSimpArgs false
def NowPost (base x g cap : Nat) (k j : Nat) (l : List Nd) (z : World) (u1 u2 u3 u5 u7 u8 u9 u10 u11 u12 u13 u14 u15 u16 u17 u18 u19 u20 u21 u22 u23 u24 u25 u26 u27 u28 u29 u30 u31 u32 u33 u34 u35 u36 u37 u38 u39 u40 u41 u42 u43 u44 u45 u46 u47 u48 u49 u50 u51 u52 u53 u54 u55 u56 u57 u58 u59 u60 u61 u62 u63 u64 u65 u66 u67 u68 u69 u70 u71 u72 u73 u74 u75 u76 u77 u78 u79 u80 u81 u82 u83 u84 u101 u102 u103 u104 u105 u106 u107 u108 u109 u110 u111 u112 u113 u114 u115 u116 u117 u118 u119 u120 u121 u122 u123 u124 u125 u126 u127 u128 u129 u130 u131 u132 u133 u134 u135 u136 u137 u138 u139 u140 u141 u142 u143 u144 u145 u146 u147 u148 u149 u150 u151 u152 u153 u154 u155 u156 u157 u158 u159 u160 u161 u162 u163 u164 u165 u166 u167 u168 u169 u170 u171 u172 u173 u174 u175 u176 u177 u178 u179 u180 u181 u182 u183 u184 u185 u186 u187 u188 u189 u190 u191 u192 u193 u194 u195 u196 u197 u198 u199 u200 u201 u202 u203 u204 u205 u206 u207 u208 u209 u210 u211 u212 u213 u214 u215 u216 u217 u218 u219 u220 u221 : Value) (a' : Act) (y : World) : Prop :=
  ∃ (u85 u86 u87 u88 u89 u90 u91 u92 u93 u94 u95 u96 u97 u98 u99 u100 : Value),a' = { tmps := #[.pointer (some ⟨x,0,none⟩),u1,u2,u3,.int .i64 k,u5,.int .i64 j,u7,u8,u9,u10,u11,u12,u13,u14,u15,u16,u17,u18,u19,u20,u21,u22,u23,u24,u25,u26,u27,u28,u29,u30,u31,u32,u33,u34,u35,u36,u37,u38,u39,u40,u41,u42,u43,u44,u45,u46,u47,u48,u49,u50,u51,u52,u53,u54,u55,u56,u57,u58,u59,u60,u61,u62,u63,u64,u65,u66,u67,u68,u69,u70,u71,u72,u73,u74,u75,u76,u77,u78,u79,u80,u81,u82,u83,u84,u85,u86,u87,u88,u89,u90,u91,u92,u93,u94,u95,u96,u97,u98,u99,u100,u101,u102,u103,u104,u105,u106,u107,u108,u109,u110,u111,u112,u113,u114,u115,u116,u117,u118,u119,u120,u121,u122,u123,u124,u125,u126,u127,u128,u129,u130,u131,u132,u133,u134,u135,u136,u137,u138,u139,u140,u141,u142,u143,u144,u145,u146,u147,u148,u149,u150,u151,u152,u153,u154,u155,u156,u157,u158,u159,u160,u161,u162,u163,u164,u165,u166,u167,u168,u169,u170,u171,u172,u173,u174,u175,u176,u177,u178,u179,u180,u181,u182,u183,u184,u185,u186,u187,u188,u189,u190,u191,u192,u193,u194,u195,u196,u197,u198,u199,u200,u201,u202,u203,u204,u205,u206,u207,u208,u209,u210,u211,u212,u213,u214,u215,u216,u217,u218,u219,u220,u221],defers := [] } ∧ Tq base x (.slice (some ⟨g,0,none⟩) l.length cap) l y ∧ Mv x (.slice (some ⟨g,0,none⟩) l.length cap) (.slice (some ⟨g,0,none⟩) l.length cap) z y
set_option maxRecDepth 100000 in
set_option maxHeartbeats 4000000 in
theorem run_now {base x g cap k j : Nat} {l : List Nd} {n b : Nd} {z : World} (h : Tq base x (.slice (some ⟨g,0,none⟩) l.length cap) l z) (hk : l[k]? = some n) (hb : l[j]? = some b) (u1 u2 u3 u5 u7 u8 u9 u10 u11 u12 u13 u14 u15 u16 u17 u18 u19 u20 u21 u22 u23 u24 u25 u26 u27 u28 u29 u30 u31 u32 u33 u34 u35 u36 u37 u38 u39 u40 u41 u42 u43 u44 u45 u46 u47 u48 u49 u50 u51 u52 u53 u54 u55 u56 u57 u58 u59 u60 u61 u62 u63 u64 u65 u66 u67 u68 u69 u70 u71 u72 u73 u74 u75 u76 u77 u78 u79 u80 u81 u82 u83 u84 u85 u86 u87 u88 u89 u90 u91 u92 u93 u94 u95 u96 u97 u98 u99 u100 u101 u102 u103 u104 u105 u106 u107 u108 u109 u110 u111 u112 u113 u114 u115 u116 u117 u118 u119 u120 u121 u122 u123 u124 u125 u126 u127 u128 u129 u130 u131 u132 u133 u134 u135 u136 u137 u138 u139 u140 u141 u142 u143 u144 u145 u146 u147 u148 u149 u150 u151 u152 u153 u154 u155 u156 u157 u158 u159 u160 u161 u162 u163 u164 u165 u166 u167 u168 u169 u170 u171 u172 u173 u174 u175 u176 u177 u178 u179 u180 u181 u182 u183 u184 u185 u186 u187 u188 u189 u190 u191 u192 u193 u194 u195 u196 u197 u198 u199 u200 u201 u202 u203 u204 u205 u206 u207 u208 u209 u210 u211 u212 u213 u214 u215 u216 u217 u218 u219 u220 u221 : Value) :
    (bodyAt Tryz.f26 [1,1,1,1,1,0,2,2,1,2,1,1,0]).wp Tryz.prog (Ends (NowPost base x g cap k j (l.set k (nowF b.pass n)) z u1 u2 u3 u5 u7 u8 u9 u10 u11 u12 u13 u14 u15 u16 u17 u18 u19 u20 u21 u22 u23 u24 u25 u26 u27 u28 u29 u30 u31 u32 u33 u34 u35 u36 u37 u38 u39 u40 u41 u42 u43 u44 u45 u46 u47 u48 u49 u50 u51 u52 u53 u54 u55 u56 u57 u58 u59 u60 u61 u62 u63 u64 u65 u66 u67 u68 u69 u70 u71 u72 u73 u74 u75 u76 u77 u78 u79 u80 u81 u82 u83 u84 u101 u102 u103 u104 u105 u106 u107 u108 u109 u110 u111 u112 u113 u114 u115 u116 u117 u118 u119 u120 u121 u122 u123 u124 u125 u126 u127 u128 u129 u130 u131 u132 u133 u134 u135 u136 u137 u138 u139 u140 u141 u142 u143 u144 u145 u146 u147 u148 u149 u150 u151 u152 u153 u154 u155 u156 u157 u158 u159 u160 u161 u162 u163 u164 u165 u166 u167 u168 u169 u170 u171 u172 u173 u174 u175 u176 u177 u178 u179 u180 u181 u182 u183 u184 u185 u186 u187 u188 u189 u190 u191 u192 u193 u194 u195 u196 u197 u198 u199 u200 u201 u202 u203 u204 u205 u206 u207 u208 u209 u210 u211 u212 u213 u214 u215 u216 u217 u218 u219 u220 u221)) ({ tmps := #[.pointer (some ⟨x,0,none⟩),u1,u2,u3,.int .i64 k,u5,.int .i64 j,u7,u8,u9,u10,u11,u12,u13,u14,u15,u16,u17,u18,u19,u20,u21,u22,u23,u24,u25,u26,u27,u28,u29,u30,u31,u32,u33,u34,u35,u36,u37,u38,u39,u40,u41,u42,u43,u44,u45,u46,u47,u48,u49,u50,u51,u52,u53,u54,u55,u56,u57,u58,u59,u60,u61,u62,u63,u64,u65,u66,u67,u68,u69,u70,u71,u72,u73,u74,u75,u76,u77,u78,u79,u80,u81,u82,u83,u84,u85,u86,u87,u88,u89,u90,u91,u92,u93,u94,u95,u96,u97,u98,u99,u100,u101,u102,u103,u104,u105,u106,u107,u108,u109,u110,u111,u112,u113,u114,u115,u116,u117,u118,u119,u120,u121,u122,u123,u124,u125,u126,u127,u128,u129,u130,u131,u132,u133,u134,u135,u136,u137,u138,u139,u140,u141,u142,u143,u144,u145,u146,u147,u148,u149,u150,u151,u152,u153,u154,u155,u156,u157,u158,u159,u160,u161,u162,u163,u164,u165,u166,u167,u168,u169,u170,u171,u172,u173,u174,u175,u176,u177,u178,u179,u180,u181,u182,u183,u184,u185,u186,u187,u188,u189,u190,u191,u192,u193,u194,u195,u196,u197,u198,u199,u200,u201,u202,u203,u204,u205,u206,u207,u208,u209,u210,u211,u212,u213,u214,u215,u216,u217,u218,u219,u220,u221],defers := [] }) z := by
  have i1 : (k : Int) < l.length := by have := (List.getElem?_eq_some_iff.1 hk).1; omega
  have i2 : (j : Int) < l.length := by have := (List.getElem?_eq_some_iff.1 hb).1; omega
  unfold bodyAt Tryz.f26
  simp only [codeAt]
  refine wp_region_T 16 1 (fun u => u.cell? ⟨x,0,none⟩ = some (.slice (some ⟨g,0,none⟩) l.length cap) ∧ u.cell? ⟨g,j * 7 + 3,none⟩ = some (.int .i64 b.pass)) (by kernel_rfl) (by kernel_rfl) ?_
  have HT := hid (h.ext (Ext.drew (Ext.refl z)))
  have HM : Hid (Mv x (.slice (some ⟨g,0,none⟩) l.length cap) (.slice (some ⟨g,0,none⟩) l.length cap) z z.drew) := Mv.of_ext (Ext.drew (Ext.refl z))
  have HK := hid hk
  have HP := hid hb
  clear h hk hb
  generalize z.drew = z0 at *
  have HSS : z0.cell? ⟨x,0,none⟩ = some (.slice (some ⟨g,0,none⟩) l.length cap) ∧ z0.cell? ⟨g,j * 7 + 3,none⟩ = some (.int .i64 b.pass) := ⟨HT.out.cell,(node_cells HT.out HP.out).2.2.2.1⟩
  refine wpT_tk 0 HSS ?_; (try simp only [nrm])
  refine wpT_tk 1 HSS ?_; (try simp only [nrm])
  refine wpT_tk 2 HSS ?_; (try simp only [nrm])
  refine wpT_tk 3 HSS ?_; (try simp only [nrm])
  refine wpT_tk 4 HSS ?_; (try simp only [nrm])
  refine wpT_tk 5 HSS ?_; (try simp only [nrm])
  refine wpT_tk 6 HSS ?_; (try simp only [nrm])
  refine wpT_tk 7 HSS ?_; (try simp only [nrm])
  refine wpT_tk 8 HSS ?_; (try simp only [nrm])
  refine wpT_tk 9 HSS ?_; (try simp only [nrm])
  refine wpT_tk 10 HSS ?_; (try simp only [nrm])
  refine wpT_tk 11 HSS ?_; (try simp only [nrm])
  refine wpT_tk 12 HSS ?_; (try simp only [nrm])
  refine wpT_tk 13 HSS ?_; (try simp only [nrm])
  refine wpT_tk 14 HSS ?_; (try simp only [nrm])
  refine wpT_tk 15 HSS ?_; (try simp only [nrm])
  refine wpT_done (by kernel_rfl) ?_
  refine wpAny_on 16 (fun K' hK => ?_)
  have g0 := (node_cells HT.out HK.out).2.2.2.2.2.2
  have f0 : z0.frozen? ⟨g,k * 7 + 6,none⟩ = false := HT.out.row.free
  clear HSS
  go_simp
  refine hK.out _ _ ?_
  (try simp only [nrm])
  refine wpAny_done (by kernel_rfl) ?_ _
  have ht := HT.out.setAt (n' := nowF b.pass n) (j := 6) (u := .int .i64 b.pass) HK.out (by omega) rfl
  have hm := HM.out.setG (g := g) rfl (k * 7 + 6) (.int .i64 b.pass)
  exact ⟨rfl,_,_,_,_,_,_,_,_,_,_,_,_,_,_,_,_,rfl,by simpa using ht,by simpa using hm⟩
def GoPost (base x g cap : Nat) (j : Nat) (l : List Nd) (z : World) (u1 u2 u3 u4 u5 u7 u8 u9 u10 u11 u12 u13 u14 u15 u16 u17 u18 u19 u20 u21 u22 u23 u24 u25 u26 u27 u28 u29 u30 u31 u32 u33 u34 u35 u36 u37 u38 u39 u40 u41 u42 u43 u44 u45 u46 u47 u48 u49 u50 u51 u52 u53 u54 u55 u56 u57 u58 u59 u60 u61 u62 u63 u64 u65 u66 u67 u68 u69 u70 u71 u72 u73 u74 u75 u76 u77 u78 u79 u80 u81 u82 u83 u84 u85 u86 u87 u88 u89 u90 u91 u92 u93 u94 u95 u96 u97 u98 u99 u100 u128 u129 u130 u131 u132 u133 u134 u135 u136 u137 u138 u139 u140 u141 u142 u143 u144 u145 u146 u147 u148 u149 u150 u151 u152 u153 u154 u155 u156 u157 u158 u159 u160 u161 u162 u163 u164 u165 u166 u167 u168 u169 u170 u171 u172 u173 u174 u175 u176 u177 u178 u179 u180 u181 u182 u183 u184 u185 u186 u187 u188 u189 u190 u191 u192 u193 u194 u195 u196 u197 u198 u199 u200 u201 u202 u203 u204 u205 u206 u207 u208 u209 u210 u211 u212 u213 u214 u215 u216 u217 u218 u219 u220 u221 : Value) (a' : Act) (y : World) : Prop :=
  ∃ (u101 u102 u103 u104 u105 u106 u107 u108 u109 u110 u111 u112 u113 u114 u115 u116 u117 u118 u119 u120 u121 u122 u123 u124 u125 u126 u127 : Value),a' = { tmps := #[.pointer (some ⟨x,0,none⟩),u1,u2,u3,u4,u5,.int .i64 j,u7,u8,u9,u10,u11,u12,u13,u14,u15,u16,u17,u18,u19,u20,u21,u22,u23,u24,u25,u26,u27,u28,u29,u30,u31,u32,u33,u34,u35,u36,u37,u38,u39,u40,u41,u42,u43,u44,u45,u46,u47,u48,u49,u50,u51,u52,u53,u54,u55,u56,u57,u58,u59,u60,u61,u62,u63,u64,u65,u66,u67,u68,u69,u70,u71,u72,u73,u74,u75,u76,u77,u78,u79,u80,u81,u82,u83,u84,u85,u86,u87,u88,u89,u90,u91,u92,u93,u94,u95,u96,u97,u98,u99,u100,u101,u102,u103,u104,u105,u106,u107,u108,u109,u110,u111,u112,u113,u114,u115,u116,u117,u118,u119,u120,u121,u122,u123,u124,u125,u126,u127,u128,u129,u130,u131,u132,u133,u134,u135,u136,u137,u138,u139,u140,u141,u142,u143,u144,u145,u146,u147,u148,u149,u150,u151,u152,u153,u154,u155,u156,u157,u158,u159,u160,u161,u162,u163,u164,u165,u166,u167,u168,u169,u170,u171,u172,u173,u174,u175,u176,u177,u178,u179,u180,u181,u182,u183,u184,u185,u186,u187,u188,u189,u190,u191,u192,u193,u194,u195,u196,u197,u198,u199,u200,u201,u202,u203,u204,u205,u206,u207,u208,u209,u210,u211,u212,u213,u214,u215,u216,u217,u218,u219,u220,u221],defers := [] } ∧ Tq base x (.slice (some ⟨g,0,none⟩) l.length cap) l y ∧ Mv x (.slice (some ⟨g,0,none⟩) l.length cap) (.slice (some ⟨g,0,none⟩) l.length cap) z y
set_option maxRecDepth 100000 in
set_option maxHeartbeats 4000000 in
theorem run_go {base x g cap j : Nat} {l : List Nd} {b : Nd} {z : World} (h : Tq base x (.slice (some ⟨g,0,none⟩) l.length cap) l z) (hb : l[j]? = some b) (b1 : 0 ≤ b.pass ∧ b.pass ≤ 1099511627776) (u1 u2 u3 u4 u5 u7 u8 u9 u10 u11 u12 u13 u14 u15 u16 u17 u18 u19 u20 u21 u22 u23 u24 u25 u26 u27 u28 u29 u30 u31 u32 u33 u34 u35 u36 u37 u38 u39 u40 u41 u42 u43 u44 u45 u46 u47 u48 u49 u50 u51 u52 u53 u54 u55 u56 u57 u58 u59 u60 u61 u62 u63 u64 u65 u66 u67 u68 u69 u70 u71 u72 u73 u74 u75 u76 u77 u78 u79 u80 u81 u82 u83 u84 u85 u86 u87 u88 u89 u90 u91 u92 u93 u94 u95 u96 u97 u98 u99 u100 u101 u102 u103 u104 u105 u106 u107 u108 u109 u110 u111 u112 u113 u114 u115 u116 u117 u118 u119 u120 u121 u122 u123 u124 u125 u126 u127 u128 u129 u130 u131 u132 u133 u134 u135 u136 u137 u138 u139 u140 u141 u142 u143 u144 u145 u146 u147 u148 u149 u150 u151 u152 u153 u154 u155 u156 u157 u158 u159 u160 u161 u162 u163 u164 u165 u166 u167 u168 u169 u170 u171 u172 u173 u174 u175 u176 u177 u178 u179 u180 u181 u182 u183 u184 u185 u186 u187 u188 u189 u190 u191 u192 u193 u194 u195 u196 u197 u198 u199 u200 u201 u202 u203 u204 u205 u206 u207 u208 u209 u210 u211 u212 u213 u214 u215 u216 u217 u218 u219 u220 u221 : Value) :
    (bodyAt Tryz.f26 [1,1,1,1,1,0,2,2,1,2,1,1,1,0]).wp Tryz.prog (Ends (GoPost base x g cap j (l.set j (goF b)) z u1 u2 u3 u4 u5 u7 u8 u9 u10 u11 u12 u13 u14 u15 u16 u17 u18 u19 u20 u21 u22 u23 u24 u25 u26 u27 u28 u29 u30 u31 u32 u33 u34 u35 u36 u37 u38 u39 u40 u41 u42 u43 u44 u45 u46 u47 u48 u49 u50 u51 u52 u53 u54 u55 u56 u57 u58 u59 u60 u61 u62 u63 u64 u65 u66 u67 u68 u69 u70 u71 u72 u73 u74 u75 u76 u77 u78 u79 u80 u81 u82 u83 u84 u85 u86 u87 u88 u89 u90 u91 u92 u93 u94 u95 u96 u97 u98 u99 u100 u128 u129 u130 u131 u132 u133 u134 u135 u136 u137 u138 u139 u140 u141 u142 u143 u144 u145 u146 u147 u148 u149 u150 u151 u152 u153 u154 u155 u156 u157 u158 u159 u160 u161 u162 u163 u164 u165 u166 u167 u168 u169 u170 u171 u172 u173 u174 u175 u176 u177 u178 u179 u180 u181 u182 u183 u184 u185 u186 u187 u188 u189 u190 u191 u192 u193 u194 u195 u196 u197 u198 u199 u200 u201 u202 u203 u204 u205 u206 u207 u208 u209 u210 u211 u212 u213 u214 u215 u216 u217 u218 u219 u220 u221)) ({ tmps := #[.pointer (some ⟨x,0,none⟩),u1,u2,u3,u4,u5,.int .i64 j,u7,u8,u9,u10,u11,u12,u13,u14,u15,u16,u17,u18,u19,u20,u21,u22,u23,u24,u25,u26,u27,u28,u29,u30,u31,u32,u33,u34,u35,u36,u37,u38,u39,u40,u41,u42,u43,u44,u45,u46,u47,u48,u49,u50,u51,u52,u53,u54,u55,u56,u57,u58,u59,u60,u61,u62,u63,u64,u65,u66,u67,u68,u69,u70,u71,u72,u73,u74,u75,u76,u77,u78,u79,u80,u81,u82,u83,u84,u85,u86,u87,u88,u89,u90,u91,u92,u93,u94,u95,u96,u97,u98,u99,u100,u101,u102,u103,u104,u105,u106,u107,u108,u109,u110,u111,u112,u113,u114,u115,u116,u117,u118,u119,u120,u121,u122,u123,u124,u125,u126,u127,u128,u129,u130,u131,u132,u133,u134,u135,u136,u137,u138,u139,u140,u141,u142,u143,u144,u145,u146,u147,u148,u149,u150,u151,u152,u153,u154,u155,u156,u157,u158,u159,u160,u161,u162,u163,u164,u165,u166,u167,u168,u169,u170,u171,u172,u173,u174,u175,u176,u177,u178,u179,u180,u181,u182,u183,u184,u185,u186,u187,u188,u189,u190,u191,u192,u193,u194,u195,u196,u197,u198,u199,u200,u201,u202,u203,u204,u205,u206,u207,u208,u209,u210,u211,u212,u213,u214,u215,u216,u217,u218,u219,u220,u221],defers := [] }) z := by
  have i2 : (j : Int) < l.length := by have := (List.getElem?_eq_some_iff.1 hb).1; omega
  unfold bodyAt Tryz.f26
  simp only [codeAt]
  refine wp_region_T 27 1 (fun u => u.cell? ⟨x,0,none⟩ = some (.slice (some ⟨g,0,none⟩) l.length cap) ∧ u.cell? ⟨g,j * 7 + 3,none⟩ = some (.int .i64 b.pass) ∧ u.cell? ⟨g,j * 7 + 2,none⟩ = some (.int .i64 b.wt)) (by kernel_rfl) (by kernel_rfl) ?_
  have HT := hid (h.ext (Ext.drew (Ext.refl z)))
  have HX0 := hid (Ext.drew (Ext.refl z))
  have HP := hid hb
  have HG := hid b1
  clear h hb b1
  generalize z.drew = z0 at *
  have HSF : Hid (∀ u,Ext z0 u → u.cell? ⟨x,0,none⟩ = some (.slice (some ⟨g,0,none⟩) l.length cap) ∧ u.cell? ⟨g,j * 7 + 3,none⟩ = some (.int .i64 b.pass) ∧ u.cell? ⟨g,j * 7 + 2,none⟩ = some (.int .i64 b.wt)) :=
    fun u hu => ⟨hu.cell HT.out.cell,hu.cell (node_cells HT.out HP.out).2.2.2.1,hu.cell (node_cells HT.out HP.out).2.2.1⟩
  have HSS := HSF.out z0 (Ext.refl _)
  refine wpT_tk 0 HSS ?_; (try simp only [nrm])
  refine wpT_tk 1 HSS ?_; (try simp only [nrm])
  refine wpT_tk 2 HSS ?_; (try simp only [nrm])
  refine wpT_tk 3 HSS ?_; (try simp only [nrm])
  refine wpT_tk 4 HSS ?_; (try simp only [nrm])
  refine wpT_tk 5 HSS ?_; (try simp only [nrm])
  refine wpT_tk 6 HSS ?_; (try simp only [nrm])
  refine wpT_tk 7 HSS ?_; (try simp only [nrm])
  refine wpT_tk 8 HSS ?_; (try simp only [nrm])
  refine wpT_tk 9 HSS ?_; (try simp only [nrm])
  refine wpT_tk 10 HSS ?_; (try simp only [nrm])
  refine wpT_tk 11 HSS ?_; (try simp only [nrm])
  refine wpT_tk 12 HSS ?_; (try simp only [nrm])
  refine wpT_tk 13 HSS ?_; (try simp only [nrm])
  refine wpT_tk 14 HSS ?_; (try simp only [nrm])
  refine wpT_tk 15 HSS ?_; (try simp only [nrm])
  refine wpT_tk 16 HSS ?_; (try simp only [nrm])
  refine wpT_tk 17 HSS ?_; (try simp only [nrm])
  refine wpT_tk 18 HSS ?_; (try simp only [nrm])
  refine wpT_tk 19 HSS ?_; (try simp only [nrm])
  refine wpT_tk 20 HSS ?_; (try simp only [nrm])
  refine wpT_tk 21 HSS ?_; (try simp only [nrm])
  refine wpT_tk 22 HSS ?_; (try simp only [nrm])
  refine wpT_on 23 (fun K' hK => ?_)
  go_simp
  refine (rnextW_any _ _ (by have := HG.out; omega) (by have := HG.out; omega) _).mono ?_
  rintro e v1 ⟨rfl,hx1⟩
  have HX1 := hid hx1
  clear hx1
  refine hK.out _ _ (HSF.out _ HX1.out) ?_
  clear hK K' HSS
  have HSS := HSF.out _ HX1.out
  (try simp only [nrm])
  refine wpT_tk 24 HSS ?_; (try simp only [nrm])
  refine wpT_tk 25 HSS ?_; (try simp only [nrm])
  refine wpT_tk 26 HSS ?_; (try simp only [nrm])
  refine wpT_done (by kernel_rfl) ?_
  refine wpAny_on 27 (fun K' hK => ?_)
  have HT1 := hid (HT.out.ext HX1.out)
  have g0 := HSS.2.1
  have f0 : v1.frozen? ⟨g,j * 7 + 3,none⟩ = false := HT1.out.row.free
  clear HSS
  go_simp
  refine hK.out _ _ ?_
  (try simp only [nrm])
  refine wpAny_done (by kernel_rfl) ?_ _
  have ht := HT1.out.setAt (n' := goF b) (j := 3) (u := .int .i64 (b.pass + ofW b.wt)) HP.out (by omega) rfl
  have hm := (Mv.of_ext (x := x) (v := (.slice (some ⟨g,0,none⟩) l.length cap)) (HX0.out.trans HX1.out)).setG (g := g) rfl (j * 7 + 3) (.int .i64 (b.pass + ofW b.wt))
  exact ⟨rfl,_,_,_,_,_,_,_,_,_,_,_,_,_,_,_,_,_,_,_,_,_,_,_,_,_,_,_,rfl,by simpa using ht,by simpa using hm⟩
def ShPost (base x g cap : Nat) (now : Int) (j : Nat) (l : List Nd) (z : World) (u1 u2 u3 u4 u5 u6 u7 u8 u9 u12 u13 u14 u15 u16 u17 u18 u19 u20 u21 u22 u23 u24 u25 u26 u27 u28 u29 u30 u31 u32 u33 u34 u35 u36 u37 u38 u39 u40 u41 u42 u43 u44 u45 u46 u47 u48 u49 u50 u51 u52 u53 u54 u55 u56 u57 u58 u59 u60 u61 u62 u63 u64 u65 u66 u67 u68 u69 u70 u71 u72 u73 u74 u75 u76 u77 u78 u79 u80 u81 u82 u83 u84 u85 u86 u87 u88 u89 u90 u91 u92 u93 u94 u95 u96 u97 u98 u99 u100 u101 u102 u103 u104 u105 u106 u107 u108 u109 u110 u111 u112 u113 u114 u115 u116 u117 u118 u119 u120 u121 u122 u123 u124 u125 u126 u127 u128 u129 u130 u131 u132 u133 u134 u135 u136 u137 u138 u139 u140 u141 u142 u143 u144 u145 u146 u147 u148 u149 u150 u151 u152 u153 u154 u155 u156 u157 u158 u159 u160 u161 u162 u163 u164 u165 u166 u167 u168 u169 u170 u171 u172 u173 u174 u175 u176 u177 u178 u179 u180 u181 u182 u203 u204 u205 u206 u207 u208 u209 u210 u211 u212 u213 u214 u215 u216 u217 u218 u219 u220 u221 : Value) (a' : Act) (y : World) : Prop :=
  ∃ (u183 u184 u185 u186 u187 u188 u189 u190 u191 u192 u193 u194 u195 u196 u197 u198 u199 u200 u201 u202 : Value),a' = { tmps := #[.pointer (some ⟨x,0,none⟩),u1,u2,u3,u4,u5,u6,u7,u8,u9,.int .i64 now,.int .i64 j,u12,u13,u14,u15,u16,u17,u18,u19,u20,u21,u22,u23,u24,u25,u26,u27,u28,u29,u30,u31,u32,u33,u34,u35,u36,u37,u38,u39,u40,u41,u42,u43,u44,u45,u46,u47,u48,u49,u50,u51,u52,u53,u54,u55,u56,u57,u58,u59,u60,u61,u62,u63,u64,u65,u66,u67,u68,u69,u70,u71,u72,u73,u74,u75,u76,u77,u78,u79,u80,u81,u82,u83,u84,u85,u86,u87,u88,u89,u90,u91,u92,u93,u94,u95,u96,u97,u98,u99,u100,u101,u102,u103,u104,u105,u106,u107,u108,u109,u110,u111,u112,u113,u114,u115,u116,u117,u118,u119,u120,u121,u122,u123,u124,u125,u126,u127,u128,u129,u130,u131,u132,u133,u134,u135,u136,u137,u138,u139,u140,u141,u142,u143,u144,u145,u146,u147,u148,u149,u150,u151,u152,u153,u154,u155,u156,u157,u158,u159,u160,u161,u162,u163,u164,u165,u166,u167,u168,u169,u170,u171,u172,u173,u174,u175,u176,u177,u178,u179,u180,u181,u182,u183,u184,u185,u186,u187,u188,u189,u190,u191,u192,u193,u194,u195,u196,u197,u198,u199,u200,u201,u202,u203,u204,u205,u206,u207,u208,u209,u210,u211,u212,u213,u214,u215,u216,u217,u218,u219,u220,u221],defers := [] } ∧ Tq base x (.slice (some ⟨g,0,none⟩) l.length cap) l y ∧ Mv x (.slice (some ⟨g,0,none⟩) l.length cap) (.slice (some ⟨g,0,none⟩) l.length cap) z y
set_option maxRecDepth 100000 in
set_option maxHeartbeats 4000000 in
theorem run_sh {base x g cap j : Nat} {now : Int} {l : List Nd} {m : Nd} {z : World} (h : Tq base x (.slice (some ⟨g,0,none⟩) l.length cap) l z) (hb : l[j]? = some m) (b1 : 0 ≤ m.pass) (b2 : m.pass ≤ 1099511627776) (b3 : 0 ≤ now) (b4 : now ≤ 1099511627776) (u1 u2 u3 u4 u5 u6 u7 u8 u9 u12 u13 u14 u15 u16 u17 u18 u19 u20 u21 u22 u23 u24 u25 u26 u27 u28 u29 u30 u31 u32 u33 u34 u35 u36 u37 u38 u39 u40 u41 u42 u43 u44 u45 u46 u47 u48 u49 u50 u51 u52 u53 u54 u55 u56 u57 u58 u59 u60 u61 u62 u63 u64 u65 u66 u67 u68 u69 u70 u71 u72 u73 u74 u75 u76 u77 u78 u79 u80 u81 u82 u83 u84 u85 u86 u87 u88 u89 u90 u91 u92 u93 u94 u95 u96 u97 u98 u99 u100 u101 u102 u103 u104 u105 u106 u107 u108 u109 u110 u111 u112 u113 u114 u115 u116 u117 u118 u119 u120 u121 u122 u123 u124 u125 u126 u127 u128 u129 u130 u131 u132 u133 u134 u135 u136 u137 u138 u139 u140 u141 u142 u143 u144 u145 u146 u147 u148 u149 u150 u151 u152 u153 u154 u155 u156 u157 u158 u159 u160 u161 u162 u163 u164 u165 u166 u167 u168 u169 u170 u171 u172 u173 u174 u175 u176 u177 u178 u179 u180 u181 u182 u183 u184 u185 u186 u187 u188 u189 u190 u191 u192 u193 u194 u195 u196 u197 u198 u199 u200 u201 u202 u203 u204 u205 u206 u207 u208 u209 u210 u211 u212 u213 u214 u215 u216 u217 u218 u219 u220 u221 : Value) :
    (bodyAt Tryz.f26 [1,1,1,1,1,1,0,1,2,2,1,0,2,1,1,0,0,1,2,2,1,0,2,1,0]).wp Tryz.prog (Ends (ShPost base x g cap now j (l.set j (shF now m)) z u1 u2 u3 u4 u5 u6 u7 u8 u9 u12 u13 u14 u15 u16 u17 u18 u19 u20 u21 u22 u23 u24 u25 u26 u27 u28 u29 u30 u31 u32 u33 u34 u35 u36 u37 u38 u39 u40 u41 u42 u43 u44 u45 u46 u47 u48 u49 u50 u51 u52 u53 u54 u55 u56 u57 u58 u59 u60 u61 u62 u63 u64 u65 u66 u67 u68 u69 u70 u71 u72 u73 u74 u75 u76 u77 u78 u79 u80 u81 u82 u83 u84 u85 u86 u87 u88 u89 u90 u91 u92 u93 u94 u95 u96 u97 u98 u99 u100 u101 u102 u103 u104 u105 u106 u107 u108 u109 u110 u111 u112 u113 u114 u115 u116 u117 u118 u119 u120 u121 u122 u123 u124 u125 u126 u127 u128 u129 u130 u131 u132 u133 u134 u135 u136 u137 u138 u139 u140 u141 u142 u143 u144 u145 u146 u147 u148 u149 u150 u151 u152 u153 u154 u155 u156 u157 u158 u159 u160 u161 u162 u163 u164 u165 u166 u167 u168 u169 u170 u171 u172 u173 u174 u175 u176 u177 u178 u179 u180 u181 u182 u203 u204 u205 u206 u207 u208 u209 u210 u211 u212 u213 u214 u215 u216 u217 u218 u219 u220 u221)) ({ tmps := #[.pointer (some ⟨x,0,none⟩),u1,u2,u3,u4,u5,u6,u7,u8,u9,.int .i64 now,.int .i64 j,u12,u13,u14,u15,u16,u17,u18,u19,u20,u21,u22,u23,u24,u25,u26,u27,u28,u29,u30,u31,u32,u33,u34,u35,u36,u37,u38,u39,u40,u41,u42,u43,u44,u45,u46,u47,u48,u49,u50,u51,u52,u53,u54,u55,u56,u57,u58,u59,u60,u61,u62,u63,u64,u65,u66,u67,u68,u69,u70,u71,u72,u73,u74,u75,u76,u77,u78,u79,u80,u81,u82,u83,u84,u85,u86,u87,u88,u89,u90,u91,u92,u93,u94,u95,u96,u97,u98,u99,u100,u101,u102,u103,u104,u105,u106,u107,u108,u109,u110,u111,u112,u113,u114,u115,u116,u117,u118,u119,u120,u121,u122,u123,u124,u125,u126,u127,u128,u129,u130,u131,u132,u133,u134,u135,u136,u137,u138,u139,u140,u141,u142,u143,u144,u145,u146,u147,u148,u149,u150,u151,u152,u153,u154,u155,u156,u157,u158,u159,u160,u161,u162,u163,u164,u165,u166,u167,u168,u169,u170,u171,u172,u173,u174,u175,u176,u177,u178,u179,u180,u181,u182,u183,u184,u185,u186,u187,u188,u189,u190,u191,u192,u193,u194,u195,u196,u197,u198,u199,u200,u201,u202,u203,u204,u205,u206,u207,u208,u209,u210,u211,u212,u213,u214,u215,u216,u217,u218,u219,u220,u221],defers := [] }) z := by
  have i2 : (j : Int) < l.length := by have := (List.getElem?_eq_some_iff.1 hb).1; omega
  unfold bodyAt Tryz.f26
  simp only [codeAt]
  refine wp_region_T 20 1 (fun u => u.cell? ⟨x,0,none⟩ = some (.slice (some ⟨g,0,none⟩) l.length cap) ∧ u.cell? ⟨g,j * 7 + 3,none⟩ = some (.int .i64 m.pass)) (by kernel_rfl) (by kernel_rfl) ?_
  have HT := hid (h.ext (Ext.drew (Ext.refl z)))
  have HM : Hid (Mv x (.slice (some ⟨g,0,none⟩) l.length cap) (.slice (some ⟨g,0,none⟩) l.length cap) z z.drew) := Mv.of_ext (Ext.drew (Ext.refl z))
  have HP := hid hb
  clear h hb
  generalize z.drew = z0 at *
  have HSS : z0.cell? ⟨x,0,none⟩ = some (.slice (some ⟨g,0,none⟩) l.length cap) ∧ z0.cell? ⟨g,j * 7 + 3,none⟩ = some (.int .i64 m.pass) := ⟨HT.out.cell,(node_cells HT.out HP.out).2.2.2.1⟩
  refine wpT_tk 0 HSS ?_; (try simp only [nrm])
  refine wpT_tk 1 HSS ?_; (try simp only [nrm])
  refine wpT_tk 2 HSS ?_; (try simp only [nrm])
  refine wpT_tk 3 HSS ?_; (try simp only [nrm])
  refine wpT_tk 4 HSS ?_; (try simp only [nrm])
  refine wpT_tk 5 HSS ?_; (try simp only [nrm])
  refine wpT_tk 6 HSS ?_; (try simp only [nrm])
  refine wpT_tk 7 HSS ?_; (try simp only [nrm])
  refine wpT_tk 8 HSS ?_; (try simp only [nrm])
  refine wpT_tk 9 HSS ?_; (try simp only [nrm])
  refine wpT_tk 10 HSS ?_; (try simp only [nrm])
  refine wpT_tk 11 HSS ?_; (try simp only [nrm])
  refine wpT_tk 12 HSS ?_; (try simp only [nrm])
  refine wpT_tk 13 HSS ?_; (try simp only [nrm])
  refine wpT_tk 14 HSS ?_; (try simp only [nrm])
  refine wpT_tk 15 HSS ?_; (try simp only [nrm])
  refine wpT_tk 16 HSS ?_; (try simp only [nrm])
  refine wpT_tk 17 HSS ?_; (try simp only [nrm])
  refine wpT_tk 18 HSS ?_; (try simp only [nrm])
  refine wpT_tk 19 HSS ?_; (try simp only [nrm])
  refine wpT_done (by kernel_rfl) ?_
  refine wpAny_on 20 (fun K' hK => ?_)
  have g0 := HSS.2
  have f0 : z0.frozen? ⟨g,j * 7 + 3,none⟩ = false := HT.out.row.free
  clear HSS
  go_simp
  refine hK.out _ _ ?_
  (try simp only [nrm])
  refine wpAny_done (by kernel_rfl) ?_ _
  have ht := HT.out.setAt (n' := shF now m) (j := 3) (u := .int .i64 (max 0 (m.pass - now))) HP.out (by omega) rfl
  have hm := HM.out.setG (g := g) rfl (j * 7 + 3) (.int .i64 (max 0 (m.pass - now)))
  have qw : IntKind.i64.wrap (m.pass - now) = m.pass - now := IntWalk.i64_in _ (by omega)
  have hmx : (if (0 : Int) < m.pass - now then m.pass - now else 0) = max 0 (m.pass - now) := by split <;> omega
  rw [qw,hmx]
  exact ⟨rfl,_,_,_,_,_,_,_,_,_,_,_,_,_,_,_,_,_,_,_,_,rfl,by simpa using ht,by simpa using hm⟩
def ZeroPost (base x g cap wg wn wc i : Nat) (l : List Nd) (z : World) (u1 u2 u3 u4 u6 u7 u8 u10 u11 u12 u13 u14 u15 u16 u17 u18 u19 u20 u21 u22 u23 u24 u25 u26 u27 u28 u29 u30 u31 u32 u33 u34 u35 u36 u37 u38 u39 u40 u41 u42 u43 u44 u45 u46 u47 u48 u49 u50 u51 u52 u53 u54 u55 u56 u57 u58 u59 u60 u61 u62 u63 u64 u65 u66 u67 u68 u69 u70 u71 u72 u73 u74 u75 u76 u77 u78 u79 u80 u81 u82 u83 u84 u85 u86 u87 u88 u89 u90 u91 u92 u93 u94 u95 u96 u97 u98 u99 u100 u101 u102 u103 u104 u105 u106 u107 u108 u109 u110 u111 u112 u113 u114 u115 u116 u117 u118 u119 u120 u121 u122 u123 u124 u125 u126 u127 u128 u129 u130 u131 u132 u133 u134 u135 u136 u137 u138 u139 u140 u141 u142 u143 u144 u145 u146 u147 u148 u149 u150 u151 u152 u153 u154 u155 u156 u157 u158 u159 u160 u161 u162 u163 u164 u165 u166 u167 u168 u169 u170 u171 u172 u173 u174 u175 u176 u177 u178 u179 u180 u181 u182 u183 u184 u185 u186 u187 u188 u189 u190 u191 u192 u193 u194 u195 u196 u197 u198 u199 u200 u201 u202 u213 u214 u215 u216 u217 u218 u219 u220 u221 : Value) (a' : Act) (y : World) : Prop :=
  ∃ (u203 u204 u205 u206 u207 u208 u209 u210 u211 u212 : Value),a' = { tmps := #[.pointer (some ⟨x,0,none⟩),u1,u2,u3,u4,.slice (some ⟨wg,0,none⟩) wn wc,u6,u7,u8,.int .i64 i,u10,u11,u12,u13,u14,u15,u16,u17,u18,u19,u20,u21,u22,u23,u24,u25,u26,u27,u28,u29,u30,u31,u32,u33,u34,u35,u36,u37,u38,u39,u40,u41,u42,u43,u44,u45,u46,u47,u48,u49,u50,u51,u52,u53,u54,u55,u56,u57,u58,u59,u60,u61,u62,u63,u64,u65,u66,u67,u68,u69,u70,u71,u72,u73,u74,u75,u76,u77,u78,u79,u80,u81,u82,u83,u84,u85,u86,u87,u88,u89,u90,u91,u92,u93,u94,u95,u96,u97,u98,u99,u100,u101,u102,u103,u104,u105,u106,u107,u108,u109,u110,u111,u112,u113,u114,u115,u116,u117,u118,u119,u120,u121,u122,u123,u124,u125,u126,u127,u128,u129,u130,u131,u132,u133,u134,u135,u136,u137,u138,u139,u140,u141,u142,u143,u144,u145,u146,u147,u148,u149,u150,u151,u152,u153,u154,u155,u156,u157,u158,u159,u160,u161,u162,u163,u164,u165,u166,u167,u168,u169,u170,u171,u172,u173,u174,u175,u176,u177,u178,u179,u180,u181,u182,u183,u184,u185,u186,u187,u188,u189,u190,u191,u192,u193,u194,u195,u196,u197,u198,u199,u200,u201,u202,u203,u204,u205,u206,u207,u208,u209,u210,u211,u212,u213,u214,u215,u216,u217,u218,u219,u220,u221],defers := [] } ∧ Tq base x (.slice (some ⟨g,0,none⟩) l.length cap) l y ∧ Mv x (.slice (some ⟨g,0,none⟩) l.length cap) (.slice (some ⟨g,0,none⟩) l.length cap) z y
set_option maxRecDepth 100000 in
set_option maxHeartbeats 4000000 in
theorem run_zero {base x g cap wg wn wc i k : Nat} {l : List Nd} {n : Nd} {z : World} (h : Tq base x (.slice (some ⟨g,0,none⟩) l.length cap) l z) (hk : l[k]? = some n) (hw : z.cell? ⟨wg,i,none⟩ = some (.int .i64 k)) (i1 : (i : Int) < wn) (u1 u2 u3 u4 u6 u7 u8 u10 u11 u12 u13 u14 u15 u16 u17 u18 u19 u20 u21 u22 u23 u24 u25 u26 u27 u28 u29 u30 u31 u32 u33 u34 u35 u36 u37 u38 u39 u40 u41 u42 u43 u44 u45 u46 u47 u48 u49 u50 u51 u52 u53 u54 u55 u56 u57 u58 u59 u60 u61 u62 u63 u64 u65 u66 u67 u68 u69 u70 u71 u72 u73 u74 u75 u76 u77 u78 u79 u80 u81 u82 u83 u84 u85 u86 u87 u88 u89 u90 u91 u92 u93 u94 u95 u96 u97 u98 u99 u100 u101 u102 u103 u104 u105 u106 u107 u108 u109 u110 u111 u112 u113 u114 u115 u116 u117 u118 u119 u120 u121 u122 u123 u124 u125 u126 u127 u128 u129 u130 u131 u132 u133 u134 u135 u136 u137 u138 u139 u140 u141 u142 u143 u144 u145 u146 u147 u148 u149 u150 u151 u152 u153 u154 u155 u156 u157 u158 u159 u160 u161 u162 u163 u164 u165 u166 u167 u168 u169 u170 u171 u172 u173 u174 u175 u176 u177 u178 u179 u180 u181 u182 u183 u184 u185 u186 u187 u188 u189 u190 u191 u192 u193 u194 u195 u196 u197 u198 u199 u200 u201 u202 u203 u204 u205 u206 u207 u208 u209 u210 u211 u212 u213 u214 u215 u216 u217 u218 u219 u220 u221 : Value) :
    (bodyAt Tryz.f26 [1,1,1,1,1,1,0,1,2,2,1,0,2,1,1,0,1]).wp Tryz.prog (Ends (ZeroPost base x g cap wg wn wc i (l.set k (nowF 0 n)) z u1 u2 u3 u4 u6 u7 u8 u10 u11 u12 u13 u14 u15 u16 u17 u18 u19 u20 u21 u22 u23 u24 u25 u26 u27 u28 u29 u30 u31 u32 u33 u34 u35 u36 u37 u38 u39 u40 u41 u42 u43 u44 u45 u46 u47 u48 u49 u50 u51 u52 u53 u54 u55 u56 u57 u58 u59 u60 u61 u62 u63 u64 u65 u66 u67 u68 u69 u70 u71 u72 u73 u74 u75 u76 u77 u78 u79 u80 u81 u82 u83 u84 u85 u86 u87 u88 u89 u90 u91 u92 u93 u94 u95 u96 u97 u98 u99 u100 u101 u102 u103 u104 u105 u106 u107 u108 u109 u110 u111 u112 u113 u114 u115 u116 u117 u118 u119 u120 u121 u122 u123 u124 u125 u126 u127 u128 u129 u130 u131 u132 u133 u134 u135 u136 u137 u138 u139 u140 u141 u142 u143 u144 u145 u146 u147 u148 u149 u150 u151 u152 u153 u154 u155 u156 u157 u158 u159 u160 u161 u162 u163 u164 u165 u166 u167 u168 u169 u170 u171 u172 u173 u174 u175 u176 u177 u178 u179 u180 u181 u182 u183 u184 u185 u186 u187 u188 u189 u190 u191 u192 u193 u194 u195 u196 u197 u198 u199 u200 u201 u202 u213 u214 u215 u216 u217 u218 u219 u220 u221)) ({ tmps := #[.pointer (some ⟨x,0,none⟩),u1,u2,u3,u4,.slice (some ⟨wg,0,none⟩) wn wc,u6,u7,u8,.int .i64 i,u10,u11,u12,u13,u14,u15,u16,u17,u18,u19,u20,u21,u22,u23,u24,u25,u26,u27,u28,u29,u30,u31,u32,u33,u34,u35,u36,u37,u38,u39,u40,u41,u42,u43,u44,u45,u46,u47,u48,u49,u50,u51,u52,u53,u54,u55,u56,u57,u58,u59,u60,u61,u62,u63,u64,u65,u66,u67,u68,u69,u70,u71,u72,u73,u74,u75,u76,u77,u78,u79,u80,u81,u82,u83,u84,u85,u86,u87,u88,u89,u90,u91,u92,u93,u94,u95,u96,u97,u98,u99,u100,u101,u102,u103,u104,u105,u106,u107,u108,u109,u110,u111,u112,u113,u114,u115,u116,u117,u118,u119,u120,u121,u122,u123,u124,u125,u126,u127,u128,u129,u130,u131,u132,u133,u134,u135,u136,u137,u138,u139,u140,u141,u142,u143,u144,u145,u146,u147,u148,u149,u150,u151,u152,u153,u154,u155,u156,u157,u158,u159,u160,u161,u162,u163,u164,u165,u166,u167,u168,u169,u170,u171,u172,u173,u174,u175,u176,u177,u178,u179,u180,u181,u182,u183,u184,u185,u186,u187,u188,u189,u190,u191,u192,u193,u194,u195,u196,u197,u198,u199,u200,u201,u202,u203,u204,u205,u206,u207,u208,u209,u210,u211,u212,u213,u214,u215,u216,u217,u218,u219,u220,u221],defers := [] }) z := by
  have i2 : (k : Int) < l.length := by have := (List.getElem?_eq_some_iff.1 hk).1; omega
  unfold bodyAt Tryz.f26
  simp only [codeAt]
  refine wp_region_T 10 1 (fun u => u.cell? ⟨x,0,none⟩ = some (.slice (some ⟨g,0,none⟩) l.length cap) ∧ u.cell? ⟨wg,i,none⟩ = some (.int .i64 k)) (by kernel_rfl) (by kernel_rfl) ?_
  have HT := hid (h.ext (Ext.drew (Ext.refl z)))
  have HM : Hid (Mv x (.slice (some ⟨g,0,none⟩) l.length cap) (.slice (some ⟨g,0,none⟩) l.length cap) z z.drew) := Mv.of_ext (Ext.drew (Ext.refl z))
  have HK := hid hk
  have hw0 : z.drew.cell? ⟨wg,i,none⟩ = some (.int .i64 k) := hw
  clear h hk hw
  generalize z.drew = z0 at *
  have HSS : z0.cell? ⟨x,0,none⟩ = some (.slice (some ⟨g,0,none⟩) l.length cap) ∧ z0.cell? ⟨wg,i,none⟩ = some (.int .i64 k) := ⟨HT.out.cell,hw0⟩
  clear hw0
  refine wpT_tk 0 HSS ?_; (try simp only [nrm])
  refine wpT_tk 1 HSS ?_; (try simp only [nrm])
  refine wpT_tk 2 HSS ?_; (try simp only [nrm])
  refine wpT_tk 3 HSS ?_; (try simp only [nrm])
  refine wpT_tk 4 HSS ?_; (try simp only [nrm])
  refine wpT_tk 5 HSS ?_; (try simp only [nrm])
  refine wpT_tk 6 HSS ?_; (try simp only [nrm])
  refine wpT_tk 7 HSS ?_; (try simp only [nrm])
  refine wpT_tk 8 HSS ?_; (try simp only [nrm])
  refine wpT_tk 9 HSS ?_; (try simp only [nrm])
  refine wpT_done (by kernel_rfl) ?_
  refine wpAny_on 10 (fun K' hK => ?_)
  have g0 := (node_cells HT.out HK.out).2.2.2.2.2.2
  have f0 : z0.frozen? ⟨g,k * 7 + 6,none⟩ = false := HT.out.row.free
  clear HSS
  go_simp
  refine hK.out _ _ ?_
  (try simp only [nrm])
  refine wpAny_done (by kernel_rfl) ?_ _
  have ht := HT.out.setAt (n' := nowF 0 n) (j := 6) (u := .int .i64 0) HK.out (by omega) rfl
  have hm := HM.out.setG (g := g) rfl (k * 7 + 6) (.int .i64 0)
  exact ⟨rfl,_,_,_,_,_,_,_,_,_,_,rfl,by simpa using ht,by simpa using hm⟩
end Go.Proofs.YtocicffmajbecaaGreatDoor
namespace Go.Proofs.YtocicffmajbecaaGreatDoor
open Go.RowKit
set_option linter.unusedSimpArgs false
def shN (g now : Int) (m : Nd) : Nd := if m.par = g then shF now m else m
def shL (l : List Nd) (g now : Int) (j : Nat) : List Nd := (l.take j).map (shN g now) ++ l.drop j
theorem shL_length (l : List Nd) (g now : Int) (j : Nat) : (shL l g now j).length = l.length := by
  unfold shL; rw [List.length_append,List.length_map,List.length_take,List.length_drop]; omega
theorem shL_zero (l : List Nd) (g now : Int) : shL l g now 0 = l := by simp [shL]
theorem shL_full (l : List Nd) (g now : Int) : shL l g now l.length = l.map (shN g now) := by simp [shL]
theorem shL_get (l : List Nd) (g now : Int) (j i : Nat) : (shL l g now j)[i]? = (l[i]?).map fun m => if i < j then shN g now m else m := by
  unfold shL
  by_cases hi : i < j
  · by_cases hl : i < l.length
    · rw [List.getElem?_append_left (by simp; omega),List.getElem?_map,List.getElem?_take,if_pos hi]
      simp [hi]
    · rw [List.getElem?_eq_none (by simp; omega),List.getElem?_eq_none (by omega)]; rfl
  · by_cases hl : j ≤ l.length
    · rw [List.getElem?_append_right (by simp; omega),List.length_map,List.length_take,List.getElem?_drop]
      rw [show j + (i - min j l.length) = i by omega]
      simp [hi]
    · rw [List.getElem?_eq_none (by simp; omega),List.getElem?_eq_none (by omega)]; rfl
theorem shL_succ (l : List Nd) (g now : Int) {j : Nat} {m : Nd} (hm : l[j]? = some m) : (shL l g now j).set j (shN g now m) = shL l g now (j + 1) := by
  apply List.ext_getElem?
  intro i
  have hlt := (List.getElem?_eq_some_iff.1 hm).1
  rw [List.getElem?_set,shL_get,shL_get,shL_length]
  by_cases e : j = i
  · subst e
    rw [if_pos rfl,if_pos hlt,hm]
    simp
  · rw [if_neg e]
    by_cases h : i < j
    · have h2 : i < j + 1 := by omega
      simp only [h,h2,if_true]
    · have h2 : ¬ i < j + 1 := by omega
      simp only [h,h2,if_false]
theorem set_self {l : List Nd} {k : Nat} {n : Nd} (h : l[k]? = some n) : l.set k n = l := by
  apply List.ext_getElem?
  intro i
  rw [List.getElem?_set]
  by_cases e : k = i
  · subst e; rw [if_pos rfl,if_pos (List.getElem?_eq_some_iff.1 h).1,h]
  · rw [if_neg e]
theorem shL_skip (l : List Nd) (g now : Int) {j : Nat} {m : Nd} (hm : l[j]? = some m) (hp : m.par ≠ g) : shL l g now j = shL l g now (j + 1) := by
  rw [← shL_succ l g now hm,show shN g now m = m from if_neg hp]
  refine (set_self ?_).symm
  rw [shL_get,hm]; simp
theorem rebC_set {l : List Nd} (hs : Ids l) {k : Nat} {n : Nd} (hk : l[k]? = some n) (hlt : 16777216 < n.now) : (l.map (shN n.id n.now)).set k (nowF 0 (shN n.id n.now n)) = rebC l n.id := by
  obtain ⟨hkl,hke⟩ := List.getElem?_eq_some_iff.1 hk
  have hn : n ∈ l := by rw [← hke]; exact List.getElem_mem hkl
  have hnow := nowU_of hs hn
  unfold rebC
  rw [hnow,if_pos hlt,reb_map hs,hnow]
  apply List.ext_getElem?
  intro i
  rw [List.getElem?_set,List.getElem?_map,List.getElem?_map,List.length_map]
  by_cases e : k = i
  · subst e
    rw [if_pos rfl,if_pos hkl,hk]
    simp only [Option.map_some,Option.some.injEq,rebN,shN,if_true]
  · rw [if_neg e]
    cases hi : l[i]? with
    | none => rfl
    | some m =>
      obtain ⟨hi2,hie⟩ := List.getElem?_eq_some_iff.1 hi
      have hne : ¬ m.id = n.id := fun e2 => by
        rw [← hie,← hke] at e2
        rcases Nat.lt_or_gt_of_ne e with h | h
        · have := ids_get hs hkl hi2 h; omega
        · have := ids_get hs hi2 hkl h; omega
      simp only [Option.map_some,Option.some.injEq,rebN,shN,if_neg hne]
theorem rebC_no {l : List Nd} (hs : Ids l) {k : Nat} {n : Nd} (hk : l[k]? = some n) (hlt : ¬ 16777216 < n.now) : rebC l n.id = l := by
  obtain ⟨hkl,hke⟩ := List.getElem?_eq_some_iff.1 hk
  have hn : n ∈ l := by rw [← hke]; exact List.getElem_mem hkl
  unfold rebC
  rw [nowU_of hs hn,if_neg hlt]
theorem rebC_length (l : List Nd) (g : Int) : (rebC l g).length = l.length := by
  unfold rebC; split
  · exact reb_length g
  · rfl
def RebPost (base x g cap wg wn wc i : Nat) (l : List Nd) (z : World) (u1 u2 u3 u4 u6 u7 u8 u12 u13 u14 u15 u16 u17 u18 u19 u20 u21 u22 u23 u24 u25 u26 u27 u28 u29 u30 u31 u32 u33 u34 u35 u36 u37 u38 u39 u40 u41 u42 u43 u44 u45 u46 u47 u48 u49 u50 u51 u52 u53 u54 u55 u56 u57 u58 u59 u60 u61 u62 u63 u64 u65 u66 u67 u68 u69 u70 u71 u72 u73 u74 u75 u76 u77 u78 u79 u80 u81 u82 u83 u84 u85 u86 u87 u88 u89 u90 u91 u92 u93 u94 u95 u96 u97 u98 u99 u100 u101 u102 u103 u104 u105 u106 u107 u108 u109 u110 u111 u112 u113 u114 u115 u116 u117 u118 u119 u120 u121 u122 u123 u124 u125 u126 u127 u128 u129 u130 u131 u132 u133 u134 u135 u136 u137 u138 u213 u214 u215 u216 u217 u218 u219 u220 u221 : Value) (a' : Act) (y : World) : Prop :=
  ∃ (u10 u11 u139 u140 u141 u142 u143 u144 u145 u146 u147 u148 u149 u150 u151 u152 u153 u154 u155 u156 u157 u158 u159 u160 u161 u162 u163 u164 u165 u166 u167 u168 u169 u170 u171 u172 u173 u174 u175 u176 u177 u178 u179 u180 u181 u182 u183 u184 u185 u186 u187 u188 u189 u190 u191 u192 u193 u194 u195 u196 u197 u198 u199 u200 u201 u202 u203 u204 u205 u206 u207 u208 u209 u210 u211 u212 : Value),a' = { tmps := #[.pointer (some ⟨x,0,none⟩),u1,u2,u3,u4,.slice (some ⟨wg,0,none⟩) wn wc,u6,u7,u8,.int .i64 i,u10,u11,u12,u13,u14,u15,u16,u17,u18,u19,u20,u21,u22,u23,u24,u25,u26,u27,u28,u29,u30,u31,u32,u33,u34,u35,u36,u37,u38,u39,u40,u41,u42,u43,u44,u45,u46,u47,u48,u49,u50,u51,u52,u53,u54,u55,u56,u57,u58,u59,u60,u61,u62,u63,u64,u65,u66,u67,u68,u69,u70,u71,u72,u73,u74,u75,u76,u77,u78,u79,u80,u81,u82,u83,u84,u85,u86,u87,u88,u89,u90,u91,u92,u93,u94,u95,u96,u97,u98,u99,u100,u101,u102,u103,u104,u105,u106,u107,u108,u109,u110,u111,u112,u113,u114,u115,u116,u117,u118,u119,u120,u121,u122,u123,u124,u125,u126,u127,u128,u129,u130,u131,u132,u133,u134,u135,u136,u137,u138,u139,u140,u141,u142,u143,u144,u145,u146,u147,u148,u149,u150,u151,u152,u153,u154,u155,u156,u157,u158,u159,u160,u161,u162,u163,u164,u165,u166,u167,u168,u169,u170,u171,u172,u173,u174,u175,u176,u177,u178,u179,u180,u181,u182,u183,u184,u185,u186,u187,u188,u189,u190,u191,u192,u193,u194,u195,u196,u197,u198,u199,u200,u201,u202,u203,u204,u205,u206,u207,u208,u209,u210,u211,u212,u213,u214,u215,u216,u217,u218,u219,u220,u221],defers := [] } ∧ Tq base x (.slice (some ⟨g,0,none⟩) l.length cap) l y ∧ Mv x (.slice (some ⟨g,0,none⟩) l.length cap) (.slice (some ⟨g,0,none⟩) l.length cap) z y
set_option maxRecDepth 100000 in
set_option maxHeartbeats 8000000 in
theorem run_reb {base x g cap wg wn wc i k : Nat} {l : List Nd} {n : Nd} {z : World} (h : Tq base x (.slice (some ⟨g,0,none⟩) l.length cap) l z) (hs : Ids l) (hb : BdM 1099511627776 l) (hl : l.length ≤ 1000) (hk : l[k]? = some n) (hw : z.cell? ⟨wg,i,none⟩ = some (.int .i64 k)) (hwb : ¬ wg = x ∧ ¬ wg = g) (i1 : (i : Int) < wn) (u1 u2 u3 u4 u6 u7 u8 u10 u11 u12 u13 u14 u15 u16 u17 u18 u19 u20 u21 u22 u23 u24 u25 u26 u27 u28 u29 u30 u31 u32 u33 u34 u35 u36 u37 u38 u39 u40 u41 u42 u43 u44 u45 u46 u47 u48 u49 u50 u51 u52 u53 u54 u55 u56 u57 u58 u59 u60 u61 u62 u63 u64 u65 u66 u67 u68 u69 u70 u71 u72 u73 u74 u75 u76 u77 u78 u79 u80 u81 u82 u83 u84 u85 u86 u87 u88 u89 u90 u91 u92 u93 u94 u95 u96 u97 u98 u99 u100 u101 u102 u103 u104 u105 u106 u107 u108 u109 u110 u111 u112 u113 u114 u115 u116 u117 u118 u119 u120 u121 u122 u123 u124 u125 u126 u127 u128 u129 u130 u131 u132 u133 u134 u135 u136 u137 u138 u139 u140 u141 u142 u143 u144 u145 u146 u147 u148 u149 u150 u151 u152 u153 u154 u155 u156 u157 u158 u159 u160 u161 u162 u163 u164 u165 u166 u167 u168 u169 u170 u171 u172 u173 u174 u175 u176 u177 u178 u179 u180 u181 u182 u183 u184 u185 u186 u187 u188 u189 u190 u191 u192 u193 u194 u195 u196 u197 u198 u199 u200 u201 u202 u203 u204 u205 u206 u207 u208 u209 u210 u211 u212 u213 u214 u215 u216 u217 u218 u219 u220 u221 : Value) :
    (bodyAt Tryz.f26 [1,1,1,1,1,1,0,1,2,2,1,0]).wp Tryz.prog (Ends (RebPost base x g cap wg wn wc i (rebC l n.id) z u1 u2 u3 u4 u6 u7 u8 u12 u13 u14 u15 u16 u17 u18 u19 u20 u21 u22 u23 u24 u25 u26 u27 u28 u29 u30 u31 u32 u33 u34 u35 u36 u37 u38 u39 u40 u41 u42 u43 u44 u45 u46 u47 u48 u49 u50 u51 u52 u53 u54 u55 u56 u57 u58 u59 u60 u61 u62 u63 u64 u65 u66 u67 u68 u69 u70 u71 u72 u73 u74 u75 u76 u77 u78 u79 u80 u81 u82 u83 u84 u85 u86 u87 u88 u89 u90 u91 u92 u93 u94 u95 u96 u97 u98 u99 u100 u101 u102 u103 u104 u105 u106 u107 u108 u109 u110 u111 u112 u113 u114 u115 u116 u117 u118 u119 u120 u121 u122 u123 u124 u125 u126 u127 u128 u129 u130 u131 u132 u133 u134 u135 u136 u137 u138 u213 u214 u215 u216 u217 u218 u219 u220 u221)) ({ tmps := #[.pointer (some ⟨x,0,none⟩),u1,u2,u3,u4,.slice (some ⟨wg,0,none⟩) wn wc,u6,u7,u8,.int .i64 i,u10,u11,u12,u13,u14,u15,u16,u17,u18,u19,u20,u21,u22,u23,u24,u25,u26,u27,u28,u29,u30,u31,u32,u33,u34,u35,u36,u37,u38,u39,u40,u41,u42,u43,u44,u45,u46,u47,u48,u49,u50,u51,u52,u53,u54,u55,u56,u57,u58,u59,u60,u61,u62,u63,u64,u65,u66,u67,u68,u69,u70,u71,u72,u73,u74,u75,u76,u77,u78,u79,u80,u81,u82,u83,u84,u85,u86,u87,u88,u89,u90,u91,u92,u93,u94,u95,u96,u97,u98,u99,u100,u101,u102,u103,u104,u105,u106,u107,u108,u109,u110,u111,u112,u113,u114,u115,u116,u117,u118,u119,u120,u121,u122,u123,u124,u125,u126,u127,u128,u129,u130,u131,u132,u133,u134,u135,u136,u137,u138,u139,u140,u141,u142,u143,u144,u145,u146,u147,u148,u149,u150,u151,u152,u153,u154,u155,u156,u157,u158,u159,u160,u161,u162,u163,u164,u165,u166,u167,u168,u169,u170,u171,u172,u173,u174,u175,u176,u177,u178,u179,u180,u181,u182,u183,u184,u185,u186,u187,u188,u189,u190,u191,u192,u193,u194,u195,u196,u197,u198,u199,u200,u201,u202,u203,u204,u205,u206,u207,u208,u209,u210,u211,u212,u213,u214,u215,u216,u217,u218,u219,u220,u221],defers := [] }) z := by
  have hcap : l.length ≤ cap ∧ cap ≤ 9223372036854775807 := by obtain ⟨p,c,e,h1,h2,-⟩ := h.row.slice; injection e with _ _ e; unfold maxLen at h2; omega
  obtain ⟨hc1,hc2⟩ := hcap
  have i2 : (k : Int) < l.length := by have := (List.getElem?_eq_some_iff.1 hk).1; omega
  have hnb : BdM 1099511627776 l := hb
  obtain ⟨-,m1,m2⟩ := hb n (by obtain ⟨h1,h2⟩ := List.getElem?_eq_some_iff.1 hk; rw [← h2]; exact List.getElem_mem h1)
  have c0 := more_cell h.cell
  have ck := more_cell (node_cells h hk).2.2.2.2.2.2
  have cw := more_cell hw
  have H := hid h
  have HS := hid hs
  have HB := hid hnb
  have HK := hid hk
  have HW := hid hw
  have HWB := hid hwb
  clear h hs hb hk hw hwb hnb
  unfold bodyAt Tryz.f26
  simp only [codeAt]
  by_cases hlt : 16777216 < n.now
  case neg =>
    have HE := hid (rebC_no HS.out HK.out hlt)
    go_wp2
    ((first | refine wp_region_more (by kernel_rfl) (by kernel_rfl) ?_ | refine wp_region_ext (by kernel_rfl) (by kernel_rfl) ?_); (try dsimp only [append_cons',append_nil']); (repeat (go_big_quiet_step ((fail)))); refine wpQuiet_nil ?_; rintro _ ⟨pq,rfl⟩)
    go_wp2
    refine ⟨rfl,_,_,_,_,_,_,_,_,_,_,_,_,_,_,_,_,_,_,_,_,_,_,_,_,_,_,_,_,_,_,_,_,_,_,_,_,_,_,_,_,_,_,_,_,_,_,_,_,_,_,_,_,_,_,_,_,_,_,_,_,_,_,_,_,_,_,_,_,_,_,_,_,_,_,_,_,rfl,?_,?_⟩
    · rw [HE.out]; exact H.out.ext (ext_more _ _)
    · rw [HE.out]; exact Mv.of_ext (ext_more _ _)
  go_wp2
  ((first | refine wp_region_more (by kernel_rfl) (by kernel_rfl) ?_ | refine wp_region_ext (by kernel_rfl) (by kernel_rfl) ?_); (try dsimp only [append_cons',append_nil']); (repeat (go_big_quiet_step ((fail)))); refine wpQuiet_nil ?_; rintro _ ⟨pq,rfl⟩)
  go_wp2
  have START : Hid (∀ w',Ext z w' → Tq base x (.slice (some ⟨g,0,none⟩) (shL l n.id n.now 0).length cap) (shL l n.id n.now 0) w' ∧ Mv x (.slice (some ⟨g,0,none⟩) l.length cap) (.slice (some ⟨g,0,none⟩) l.length cap) z w') := fun w' hx => by
    rw [shL_zero]; exact ⟨H.out.ext hx,Mv.of_ext hx⟩
  clear c0 ck cw
  go_loopg [11] l.length (fun gg s11 wr => ∃ j : Nat,s11 = .int .i64 j ∧ j ≤ l.length ∧ l.length - j ≤ gg ∧ Hid (Tq base x (.slice (some ⟨g,0,none⟩) (shL l n.id n.now j).length cap) (shL l n.id n.now j) wr ∧ Mv x (.slice (some ⟨g,0,none⟩) l.length cap) (.slice (some ⟨g,0,none⟩) l.length cap) z wr))
  case atStart => exact ⟨0,rfl,by omega,by omega,START.out _ (ext_more _ _)⟩
  case round =>
    obtain ⟨j,rfl,hj,hgg,HI⟩ := hrel
    clear START
    have c0 := HI.out.1.cell
    rw [shL_length] at c0
    have hxl := World.block_lt_of_cell? _ _ c0
    simp only at hxl
    have hwl := World.block_lt_of_cell? _ _ HW.out
    simp only at hwl
    have hwh : wr.heap[wg]? = z.heap[wg]? := HI.out.2.block wg hwl HWB.out.1 (by simp only [Value.ownBlock,ne_eq,Option.some.injEq]; exact fun e => HWB.out.2 e.symm)
    have cw : wr.cell? ⟨wg,i,none⟩ = some (.int .i64 k) := by rw [← HW.out]; simp [World.cell?,hwh]
    have hgk : (shL l n.id n.now j)[k]? = some (if k < j then shN n.id n.now n else n) := by rw [shL_get,HK.out]; rfl
    have HGK := hid hgk
    have hid0 : (if k < j then shN n.id n.now n else n).id = n.id := by
      split
      · unfold shN; split <;> rfl
      · rfl
    have ck := (node_cells HI.out.1 hgk).1
    rw [hid0] at ck
    have hgl := World.block_lt_of_cell? _ _ ck
    simp only at hgl
    clear hwh hwl hgk hid0
    by_cases hjl : j < l.length
    · have j1 : (j : Int) < l.length := by omega
      have HJ : Hid (l[j]? = some l[j]) := List.getElem?_eq_getElem hjl
      have hgj : (shL l n.id n.now j)[j]? = some l[j] := by rw [shL_get,HJ.out]; simp
      have HGJ := hid hgj
      have cj := (node_cells HI.out.1 hgj).2.1
      have bm := HB.out l[j] (List.getElem_mem hjl)
      clear hgj
      generalize l[j] = m at *
      have c0' := more_cell c0
      have cw' := more_cell cw
      have ck' := more_cell ck
      have cj' := more_cell cj
      by_cases hp : m.par = n.id
      case neg =>
        have q1 : (m.par == n.id) = false := by simp [hp]
        have HE := hid (shL_skip l n.id n.now HJ.out hp)
        have HN : Hid (∀ w',Ext wr w' → Tq base x (.slice (some ⟨g,0,none⟩) (shL l n.id n.now (j + 1)).length cap) (shL l n.id n.now (j + 1)) w' ∧ Mv x (.slice (some ⟨g,0,none⟩) l.length cap) (.slice (some ⟨g,0,none⟩) l.length cap) z w') := fun w' hx => by
          rw [← HE.out]; exact ⟨HI.out.1.ext hx,HI.out.2.ext hx⟩
        clear hp cw ck cj
        generalize n.id = gi at *
        generalize m.par = mp at *
        go_wp2
        ((first | refine wp_region_more (by kernel_rfl) (by kernel_rfl) ?_ | refine wp_region_ext (by kernel_rfl) (by kernel_rfl) ?_); (try dsimp only [append_cons',append_nil']); (repeat (go_big_quiet_step ((fail)))); refine wpQuiet_nil ?_; rintro _ ⟨pq,rfl⟩)
        go_wp2
        go_roundg (l.length - (j + 1))
        case measure => omega
        case rel => exact ⟨j + 1,by go_num,by omega,by omega,HN.out _ (ext_more _ _)⟩
      · have q1 : (m.par == n.id) = true := by simp [hp]
        have HSU : Hid ((shL l n.id n.now j).set j (shF n.now m) = shL l n.id n.now (j + 1)) := by
          have := shL_succ l n.id n.now HJ.out
          rwa [show shN n.id n.now m = shF n.now m from if_pos hp] at this
        clear hp cw ck cj
        generalize hgi : n.id = gi at *
        generalize m.par = mp at *
        go_upto_region 26 with fail
        ((first | refine wp_region_more (by kernel_rfl) (by kernel_rfl) ?_ | refine wp_region_ext (by kernel_rfl) (by kernel_rfl) ?_); (try dsimp only [append_cons',append_nil']); (repeat (go_big_quiet_step ((fail)))); refine wpQuiet_nil ?_; rintro _ ⟨pq,rfl⟩)
        go_upto_region 27 with fail
        rename_i pp
        refine wp_meet (ShPost base x g cap n.now j _ _ _ _ _ _ _ _ _ _ _ _ _ _ _ _ _ _ _ _ _ _ _ _ _ _ _ _ _ _ _ _ _ _ _ _ _ _ _ _ _ _ _ _ _ _ _ _ _ _ _ _ _ _ _ _ _ _ _ _ _ _ _ _ _ _ _ _ _ _ _ _ _ _ _ _ _ _ _ _ _ _ _ _ _ _ _ _ _ _ _ _ _ _ _ _ _ _ _ _ _ _ _ _ _ _ _ _ _ _ _ _ _ _ _ _ _ _ _ _ _ _ _ _ _ _ _ _ _ _ _ _ _ _ _ _ _ _ _ _ _ _ _ _ _ _ _ _ _ _ _ _ _ _ _ _ _ _ _ _ _ _ _ _ _ _ _ _ _ _ _ _ _ _ _ _ _ _ _ _ _ _ _ _ _ _ _ _ _ _ _ _ _ _ _ _ _ _ _ _ _) (run_sh (HI.out.1.ext (ext_more wr _)) HGJ.out bm.1.1 bm.1.2 m1 m2 _ _ _ _ _ _ _ _ _ _ _ _ _ _ _ _ _ _ _ _ _ _ _ _ _ _ _ _ _ _ _ _ _ _ _ _ _ _ _ _ _ _ _ _ _ _ _ _ _ _ _ _ _ _ _ _ _ _ _ _ _ _ _ _ _ _ _ _ _ _ _ _ _ _ _ _ _ _ _ _ _ _ _ _ _ _ _ _ _ _ _ _ _ _ _ _ _ _ _ _ _ _ _ _ _ _ _ _ _ _ _ _ _ _ _ _ _ _ _ _ _ _ _ _ _ _ _ _ _ _ _ _ _ _ _ _ _ _ _ _ _ _ _ _ _ _ _ _ _ _ _ _ _ _ _ _ _ _ _ _ _ _ _ _ _ _ _ _ _ _ _ _ _ _ _ _ _ _ _ _ _ _ _ _ _ _ _ _ _ _ _ _ _ _ _ _ _ _ _ _ _ _ _ _ _ _ _ _ _ _ _ _ _ _ _ _ _ _ _) ?_
        refine fun a' y => ex8 fun u183 u184 u185 u186 u187 u188 u189 u190 => ex8 fun u191 u192 u193 u194 u195 u196 u197 u198 => ex4 fun u199 u200 u201 u202 => ?_
        rintro ⟨rfl,ht,hm⟩
        rw [HSU.out] at ht hm
        rw [shL_length] at hm
        have HN := hid (And.intro ht ((HI.out.2.ext (ext_more wr _)).trans hm))
        clear ht hm
        go_wp2
        go_roundg (l.length - (j + 1))
        case measure => omega
        case rel => exact ⟨j + 1,by go_num,by omega,by omega,HN.out⟩
    · obtain rfl : j = l.length := by omega
      have hgn : k < l.length := by omega
      rw [if_pos hgn] at HGK
      have HRE : Hid ((shL l n.id n.now l.length).set k (nowF 0 (shN n.id n.now n)) = rebC l n.id) := by
        have := rebC_set HS.out HK.out hlt
        rwa [← shL_full] at this
      go_upto_region 28 with fail
      refine wp_meet (ZeroPost base x g cap wg wn wc i _ _ _ _ _ _ _ _ _ _ _ _ _ _ _ _ _ _ _ _ _ _ _ _ _ _ _ _ _ _ _ _ _ _ _ _ _ _ _ _ _ _ _ _ _ _ _ _ _ _ _ _ _ _ _ _ _ _ _ _ _ _ _ _ _ _ _ _ _ _ _ _ _ _ _ _ _ _ _ _ _ _ _ _ _ _ _ _ _ _ _ _ _ _ _ _ _ _ _ _ _ _ _ _ _ _ _ _ _ _ _ _ _ _ _ _ _ _ _ _ _ _ _ _ _ _ _ _ _ _ _ _ _ _ _ _ _ _ _ _ _ _ _ _ _ _ _ _ _ _ _ _ _ _ _ _ _ _ _ _ _ _ _ _ _ _ _ _ _ _ _ _ _ _ _ _ _ _ _ _ _ _ _ _ _ _ _ _ _ _ _ _ _ _ _ _ _ _ _ _ _ _ _ _ _ _ _ _ _ _ _) (run_zero HI.out.1 HGK.out cw i1 _ _ _ _ _ _ _ _ _ _ _ _ _ _ _ _ _ _ _ _ _ _ _ _ _ _ _ _ _ _ _ _ _ _ _ _ _ _ _ _ _ _ _ _ _ _ _ _ _ _ _ _ _ _ _ _ _ _ _ _ _ _ _ _ _ _ _ _ _ _ _ _ _ _ _ _ _ _ _ _ _ _ _ _ _ _ _ _ _ _ _ _ _ _ _ _ _ _ _ _ _ _ _ _ _ _ _ _ _ _ _ _ _ _ _ _ _ _ _ _ _ _ _ _ _ _ _ _ _ _ _ _ _ _ _ _ _ _ _ _ _ _ _ _ _ _ _ _ _ _ _ _ _ _ _ _ _ _ _ _ _ _ _ _ _ _ _ _ _ _ _ _ _ _ _ _ _ _ _ _ _ _ _ _ _ _ _ _ _ _ _ _ _ _ _ _ _ _ _ _ _ _ _ _ _ _ _ _ _ _ _ _ _ _ _ _ _ _ _) ?_
      refine fun a' y => ex8 fun u203 u204 u205 u206 u207 u208 u209 u210 => ex2 fun u211 u212 => ?_
      rintro ⟨rfl,ht,hm⟩
      rw [HRE.out] at ht hm
      rw [rebC_length] at hm
      have HN := hid (And.intro ht (HI.out.2.trans hm))
      clear ht hm
      go_wp2
      exact ⟨rfl,_,_,_,_,_,_,_,_,_,_,_,_,_,_,_,_,_,_,_,_,_,_,_,_,_,_,_,_,_,_,_,_,_,_,_,_,_,_,_,_,_,_,_,_,_,_,_,_,_,_,_,_,_,_,_,_,_,_,_,_,_,_,_,_,_,_,_,_,_,_,_,_,_,_,_,_,rfl,HN.out.1,by rw [rebC_length]; exact HN.out.2⟩
end Go.Proofs.YtocicffmajbecaaGreatDoor
namespace Go.Proofs.YtocicffmajbecaaGreatDoor
open Go.RowKit
theorem wp_push_row {P : Program} {o : Oper} {a : Act} {w : World} {K : Act → World → Prop} {Q : Exit → Act → World → Prop} (s x : Operand) (t T : TypeId) (z : Value) (by' : Nat)
    (ho : o.op = .call { callee := .builtin .append,args := #[s,x],argTypes := #[t,t] }) (ht : P.underlying t = some (.slice T)) (hi : (P.info? T).map (fun i => (i.zero,i.size,i.bytes)) = some (some z,1,by')) (hz : z.cells.size = 1)
    {base m k : Nat} {v : Value} {xs news : List Value} (hown : w.ownsRow base T 1 v m xs) (hnl : news.length = k) (h1 : ∀ u ∈ news,u.oneCell' = true) (b1 : m + k ≤ maxLen) (b2 : (m + k) * by' ≤ 140737488355328) (hbase : base ≤ w.heap.size)
    (hs : a.eval s = v) {nb : Nat} (hx : a.eval x = .slice (some ⟨nb,0,none⟩) k k) (hnb : nb = w.heap.size) (hk : 0 < k)
    (hK : ∀ (p : Option Addr) (c : Nat) w1,w1.ownsRow base T 1 (.slice p (m + k) c) (m + k) (xs ++ news) → Below base w w1 → (∀ b o,w.heap[b]? = some o → some b ≠ v.ownBlock → w1.heap[b]? = some o) → K (a.put o.dst (.slice p (m + k) c)) w1) :
    o.wp P a (w.alloc (.cells news.toArray T)) K Q := by
  subst hnb
  obtain ⟨i0,hi,hz0,hz1,hz2⟩ := info_parts hi
  refine wp_append_own _ s x t ho base T i0 z 1 by' ht hi hz0 hz1 hz2 hz (by omega) v m xs hs (World.ownsRow.alloc hown _) ⟨w.heap.size,0,none⟩ k k news hx (by rw [hnl]; omega) ?_ h1 b1 b2 (by simp; omega) ?_
  · intro j u hj
    rw [add_add,Nat.zero_add]
    have hb : (w.alloc (.cells news.toArray T)).heap[w.heap.size]? = some (.cells news.toArray T (0,0)) := heap_alloc_new w _
    rw [cell_of_row _ _ j _ T (0,0) hb]
    simpa using hj
  · intro v' w1 ho' hg _
    obtain ⟨p,c,rfl⟩ : ∃ p c,v' = .slice p (m + k) c := by
      rcases ho'.2 with ⟨rfl,h0⟩ | ⟨g,cap,cur,rfl,_⟩
      · omega
      · exact ⟨_,_,rfl⟩
    refine hK p c w1 ho' (Below.grown (Below.alloc (Below.refl _ _) hbase _) hg (by simp; omega) fun k hk => (hown.lt k hk).1) fun b ob hb hne => ?_
    have hlt : b < w.heap.size := by
      apply Decidable.byContradiction
      intro hn
      rw [Array.getElem?_eq_none (by omega)] at hb; cases hb
    have h2 := hg.block b (by simp; omega) hne
    rw [h2]
    exact block_ext' (Ext.alloc (Ext.refl _) _) hb
theorem wpList_push_row {P : Program} {ops : Array Oper} {rest : List Oper} {o : Oper} {a : Act} {w : World} {Q : Exit → Act → World → Prop} (hgd : o.guard = none) (s x : Operand) (t T : TypeId) (z : Value) (by' : Nat)
    (ho : o.op = .call { callee := .builtin .append,args := #[s,x],argTypes := #[t,t] }) (ht : P.underlying t = some (.slice T)) (hi : (P.info? T).map (fun i => (i.zero,i.size,i.bytes)) = some (some z,1,by')) (hz : z.cells.size = 1)
    {base m k : Nat} {v : Value} {xs news : List Value} (hown : w.ownsRow base T 1 v m xs) (hnl : news.length = k) (h1 : ∀ u ∈ news,u.oneCell' = true) (b1 : m + k ≤ maxLen) (b2 : (m + k) * by' ≤ 140737488355328) (hbase : base ≤ w.heap.size)
    (hs : a.eval s = v) {nb : Nat} (hx : a.eval x = .slice (some ⟨nb,0,none⟩) k k) (hnb : nb = w.heap.size) (hk : 0 < k)
    (hK : ∀ (p : Option Addr) (c : Nat) w1,w1.ownsRow base T 1 (.slice p (m + k) c) (m + k) (xs ++ news) → Below base w w1 → (∀ b o,w.heap[b]? = some o → some b ≠ v.ownBlock → w1.heap[b]? = some o) → wpList P ops Q rest (a.put o.dst (.slice p (m + k) c)) w1) :
    wpList P ops Q (o :: rest) a (w.alloc (.cells news.toArray T)) :=
  wpList_plain hgd fun _ hK' => wp_push_row s x t T z by' ho ht hi hz hown hnl h1 b1 b2 hbase hs hx hnb hk fun p c w1 h2 h3 h4 => hK' _ _ (hK p c w1 h2 h3 h4)
end Go.Proofs.YtocicffmajbecaaGreatDoor
namespace Go.Proofs.YtocicffmajbecaaGreatDoor
open Go.RowKit
theorem simS_get {l m : List Nd} (h : SimS l m) (i : Nat) : (m[i]?).map keyS = (l[i]?).map keyS := by
  have := congrArg (fun x => x[i]?) h
  simpa [SimS] using this
theorem simS_at {l m : List Nd} (h : SimS l m) {i : Nat} {n : Nd} (hi : l[i]? = some n) : ∃ n',m[i]? = some n' ∧ keyS n' = keyS n := by
  have := simS_get h i
  rw [hi] at this
  cases hm : m[i]? with
  | none => rw [hm] at this; cases this
  | some n' => rw [hm] at this; exact ⟨n',rfl,by simpa using this⟩
structure RunS (l : List Nd) (R : Int × List Nd) (lc : List Nd) (n : Nd) (k f : Nat) (ws : List Nat) (gs : List Int) : Prop where
  at' : lc[k]? = some n
  ids : Ids lc
  pos : ∀ m ∈ lc,0 ≤ m.id
  sim : SimS l lc
  run : runU f lc n.id = some R
  fuel : f + gs.length = 6
  bd : BdM (20000000 + gs.length * 720720) lc
  way : Way l gs n.id
  len : ws.length = gs.length
  idx : ∀ (i k' : Nat),ws[i]? = some k' → ∃ m,l[k']? = some m ∧ gs[i]? = some m.id
theorem RunS.start {l : List Nd} {R : Int × List Nd} (hs : Ids l) (hp : ∀ m ∈ l,0 ≤ m.id) (hb : BdM 20000000 l) (hR : runU 6 l 0 = some R) {k : Nat} {r : Nd} (hr : l[k]? = some r) (hr0 : r.id = 0) (hrp : r.par < 0) : RunS l R l r k 6 [] [] where
  at' := hr
  ids := hs
  pos := hp
  sim := SimS.refl l
  run := by rw [hr0]; exact hR
  fuel := rfl
  bd := by simpa using hb
  way := by
    obtain ⟨h1,h2⟩ := List.getElem?_eq_some_iff.1 hr
    exact way_root (by rw [← h2]; exact List.getElem_mem h1) hrp
  len := rfl
  idx := fun i k' h => by simp at h
theorem RunS.thr {l : List Nd} {R : Int × List Nd} {lc : List Nd} {n : Nd} {k f : Nat} {ws : List Nat} {gs : List Int} (h : RunS l R lc n k f ws gs) (ht : n.thr = true) : R = (n.id,lc) := by
  obtain ⟨h1,h2⟩ := List.getElem?_eq_some_iff.1 h.at'
  have hn : n ∈ lc := by rw [← h2]; exact List.getElem_mem h1
  have hr := h.run
  cases f with
  | zero => cases hr
  | succ f =>
    rw [runU_thr h.ids hn ht] at hr
    exact (Option.some.inj hr).symm
theorem RunS.best {l : List Nd} {R : Int × List Nd} {lc : List Nd} {n : Nd} {k f : Nat} {ws : List Nat} {gs : List Int} (h : RunS l R lc n k f ws gs) (ht : n.thr = false) : ∃ b f',bestU lc n.id = some b ∧ f = f' + 1 := by
  obtain ⟨h1,h2⟩ := List.getElem?_eq_some_iff.1 h.at'
  have hn : n ∈ lc := by rw [← h2]; exact List.getElem_mem h1
  have hr := h.run
  cases f with
  | zero => cases hr
  | succ f =>
    cases hb : bestU lc n.id with
    | none => rw [runU_none h.ids hn ht hb] at hr; cases hr
    | some b => exact ⟨b,f,rfl,rfl⟩
theorem RunS.next {l : List Nd} {R : Int × List Nd} {lc : List Nd} {n b : Nd} {k j f : Nat} {ws : List Nat} {gs : List Int} (h : RunS l R lc n k (f + 1) ws gs) (ht : n.thr = false) (hb : bestU lc n.id = some b) (hj : lc[j]? = some b) :
    ∃ b1,(lc.set k (nowF b.pass n))[j]? = some b1 ∧ (0 ≤ b1.pass ∧ b1.pass ≤ 1099511627776) ∧ RunS l R ((lc.set k (nowF b.pass n)).set j (goF b1)) (goF b1) j f (ws ++ [k]) (gs ++ [n.id]) := by
  obtain ⟨h1,h2⟩ := List.getElem?_eq_some_iff.1 h.at'
  have hn : n ∈ lc := by rw [← h2]; exact List.getElem_mem h1
  obtain ⟨hb1,hb2,-,-⟩ := bestU_spec h.ids hb
  have e1 : lc.set k (nowF b.pass n) = upd n.id (nowF b.pass) lc := set_upd h.ids h.at' (nowF b.pass)
  have hs1 : Ids (upd n.id (nowF b.pass) lc) := ids_upd (fun _ => rfl) h.ids
  obtain ⟨b1,hb1',hbk,hbp⟩ : ∃ b1,(upd n.id (nowF b.pass) lc)[j]? = some b1 ∧ keyS b1 = keyS b ∧ b1.pass = b.pass := by
    rw [upd_get,hj]
    exact ⟨_,rfl,by simp only; split <;> rfl,by simp only; split <;> rfl⟩
  obtain ⟨q1,q2,q3,q4⟩ := keyS_eq hbk
  have e2 : (upd n.id (nowF b.pass) lc).set j (goF b1) = upd b.id goF (upd n.id (nowF b.pass) lc) := by rw [set_upd hs1 hb1' goF,q1]
  have hbb := h.bd b hb1
  have how := ofW_bounds b.wt
  have hglen : gs.length ≤ 6 := by have := h.fuel; omega
  rw [e1]
  refine ⟨b1,hb1',by rw [hbp]; omega,?_⟩
  rw [e2]
  have hsim1 : SimS lc (upd b.id goF (upd n.id (nowF b.pass) lc)) := (SimS.upd lc _ (f := nowF _) fun _ => rfl).trans (SimS.upd _ _ (f := goF) fun _ => rfl)
  have hrun := h.run
  rw [runU_on h.ids hn ht hb] at hrun
  refine ⟨?_,ids_of_sim hsim1 h.ids,fun m hm => ?_,h.sim.trans hsim1,?_,?_,fun m hm => ?_,?_,?_,fun i k' hi => ?_⟩
  · rw [← e2,List.getElem?_set,if_pos rfl,if_pos (List.getElem?_eq_some_iff.1 hb1').1]
  · obtain ⟨m0,hm0,ek⟩ := hsim1.back hm
    rw [← (keyS_eq ek).1]; exact h.pos m0 hm0
  · show runU f _ b1.id = _
    rw [q1]; exact hrun
  · have := h.fuel; rw [List.length_append,List.length_singleton]; omega
  · rw [List.length_append,List.length_singleton]
    obtain ⟨m1,hm1,rfl⟩ := mem_upd.1 hm
    obtain ⟨m0,hm0,rfl⟩ := mem_upd.1 hm1
    have h0 := h.bd m0 hm0
    have ho := ofW_bounds m0.wt
    split <;> split <;> (first | (simp only [goF,nowF]; omega) | (simp only [nowF]; omega) | (simp only [goF]; omega) | omega)
  · show Way l (gs ++ [n.id]) b1.id
    obtain ⟨b0,hb0,ek⟩ := h.sim.back hb1
    obtain ⟨k1,k2,-⟩ := keyS_eq ek
    rw [q1,← k1]
    exact h.way.next hb0 (k2.trans hb2) (h.pos n hn)
  · rw [List.length_append,List.length_append,h.len]; rfl
  · by_cases hlt : i < ws.length
    · rw [List.getElem?_append_left hlt] at hi
      rw [List.getElem?_append_left (by rw [← h.len]; exact hlt)]
      exact h.idx i k' hi
    · rw [List.getElem?_append_right (by omega)] at hi
      obtain ⟨e3,e4⟩ : i - ws.length = 0 ∧ k = k' := by
        cases hc : i - ws.length with
        | zero => rw [hc] at hi; exact ⟨rfl,by simpa using hi⟩
        | succ q => rw [hc] at hi; simp at hi
      subst e4
      rw [List.getElem?_append_right (by rw [← h.len]; omega),← h.len,e3]
      obtain ⟨m,hm,ek⟩ := simS_at (Eq.symm h.sim : SimS lc l) h.at'
      exact ⟨m,hm,by rw [(keyS_eq ek).1]; rfl⟩
theorem rebC_bd {M : Int} {l : List Nd} (hb : BdM M l) (hs : Ids l) (g : Int) : BdM M (rebC l g) := by
  unfold rebC; split
  · rename_i h
    cases hg : getU l g with
    | none => simp [nowU,hg] at h
    | some p =>
      obtain ⟨hp,rfl⟩ := getU_mem hg
      exact reb_bdM hb hs hp
  · exact hb
theorem rebC_sim (l : List Nd) (g : Int) : SimS l (rebC l g) := by
  unfold rebC; split
  · exact (reb_sim l g).s
  · exact SimS.refl l
def rebG (lc : List Nd) (gs : List Int) (i : Nat) : List Nd := (gs.take i).foldl rebC lc
theorem rebG_succ {lc : List Nd} {gs : List Int} {i : Nat} {g : Int} (h : gs[i]? = some g) : rebG lc gs (i + 1) = rebC (rebG lc gs i) g := by
  obtain ⟨h1,h2⟩ := List.getElem?_eq_some_iff.1 h
  unfold rebG
  rw [List.take_succ_eq_append_getElem h1,List.foldl_append,h2]; rfl
theorem rebG_facts {lc : List Nd} (hs : Ids lc) {M : Int} (hb : BdM M lc) (gs : List Int) : ∀ i,i ≤ gs.length → Ids (rebG lc gs i) ∧ BdM M (rebG lc gs i) ∧ SimS lc (rebG lc gs i)
  | 0,_ => ⟨hs,hb,SimS.refl lc⟩
  | i + 1,hi => by
    obtain ⟨h1,h2,h3⟩ := rebG_facts hs hb gs i (by omega)
    rw [rebG_succ (List.getElem?_eq_getElem (by omega : i < gs.length))]
    exact ⟨rebC_ids h1 _,rebC_bd h2 h1 _,h3.trans (rebC_sim _ _)⟩
theorem RunS.up {l : List Nd} {R : Int × List Nd} {lc : List Nd} {n : Nd} {k f : Nat} {ws : List Nat} {gs : List Int} (h : RunS l R lc n k f ws gs) (ht : n.thr = true) : rebG lc gs gs.length = upR 6 R.2 R.1 := by
  rw [h.thr ht]
  show _ = upR 6 lc n.id
  rw [h.way lc h.sim h.ids 6 (by have := h.fuel; omega),foldl_rev gs h.ids]
  unfold rebG
  rw [List.take_length]
end Go.Proofs.YtocicffmajbecaaGreatDoor
namespace Go.Proofs.YtocicffmajbecaaGreatDoor
open Go.RowKit
set_option linter.unusedSimpArgs false
theorem infoI5 : (Tryz.prog.info? 3).map (fun i => (i.zero,i.size,i.bytes)) = some (some (.int .i64 0),1,8) := by kernel_rfl
theorem Tq.stay {base x : Nat} {v : Value} {l : List Nd} {w w' : World} (h : Tq base x v l w) (k0 : w'.heap[x]? = w.heap[x]?) (k : ∀ g,v.ownBlock = some g → w'.heap[g]? = w.heap[g]?) : Tq base x v l w' := ⟨by rw [k0]; exact h.blk,h.row.keep k⟩
theorem Mv.more {x : Nat} {v v1 : Value} {w w1 w2 : World} (h : Mv x v v1 w w1) (k : Below w.heap.size w1 w2) : Mv x v v1 w w2 :=
  ⟨k.os.trans h.os,k.tape.trans h.tape,k.output.trans h.output,Nat.le_trans h.size k.size,fun i hi hx hv => (k.block i hi).trans (h.block i hi hx hv),h.own⟩
def wyc (ws : List Nat) : List Value := ws.map fun (k : Nat) => Value.int .i64 (k : Int)
theorem way_far {w : World} {base n m T : Nat} {v : Value} {xs : List Value} (h : w.ownsRow base T n v m xs) {g : Nat} (hg : v.ownBlock = some g) : ∃ cur,w.heap[g]? = some (.cells cur T (0,0)) := by
  rcases h.2 with ⟨rfl,_⟩ | ⟨g',cap,cur,rfl,e2,e3,r⟩
  · cases hg
  · simp only [Value.ownBlock,Option.some.injEq] at hg
    subst hg
    exact ⟨cur,e3⟩
theorem way_shape {w : World} {base n m T : Nat} {v : Value} {xs : List Value} (h : w.ownsRow base T n v m xs) : ∃ p c,v = .slice p m c := by
  rcases h.2 with ⟨rfl,e⟩ | ⟨g',cap,cur,rfl,-⟩
  · exact ⟨none,0,by rw [e]⟩
  · exact ⟨_,_,rfl⟩
theorem root_first {l : List Nd} (hs : Ids l) (hp : ∀ m ∈ l,0 ≤ m.id) {r : Nd} (hr : r ∈ l) (hr0 : r.id = 0) : l[0]? = some r := by
  obtain ⟨i,hi,rfl⟩ := List.mem_iff_getElem.1 hr
  cases i with
  | zero => exact List.getElem?_eq_getElem hi
  | succ i =>
    have h1 := ids_get hs (by omega : 0 < l.length) hi (by omega)
    have h2 := hp l[0] (List.getElem_mem _)
    omega
theorem way_at {w : World} {base m : Nat} {v : Value} {ws : List Nat} (h : w.ownsRow base 3 1 v m (wyc ws)) (hm : m = ws.length) (hpos : 0 < ws.length) : ∃ wg c cur,v = .slice (some ⟨wg,0,none⟩) ws.length c ∧ base ≤ wg ∧ ws.length ≤ c ∧ c ≤ maxLen ∧ w.heap[wg]? = some (.cells cur 3 (0,0)) ∧ ∀ (i k : Nat),ws[i]? = some k → w.cell? ⟨wg,i,none⟩ = some (.int .i64 k) := by
  rcases h.2 with ⟨_,h0⟩ | ⟨g,cap,cur,e1,e2,e3,e4,e5,e6,e7⟩
  · omega
  · subst e1
    refine ⟨g,cap,cur,by rw [hm],e2,by omega,e5,e3,fun i k hi => ?_⟩
    have hlt := (List.getElem?_eq_some_iff.1 hi).1
    have f0 : (wyc ws)[i]? = some (.int .i64 k) := by simp [wyc,hi]
    rw [← e7,List.getElem?_take,if_pos (by omega)] at f0
    simp only [World.cell?,e3]
    simpa using f0
set_option maxRecDepth 100000 in
set_option maxHeartbeats 2000000 in
theorem trun_none {base x : Nat} {v : Value} {l : List Nd} {w : World} (h : Tq base x v l w) (hsm : someT l 0 = false) : Calls Tryz.prog 26 #[.pointer (some ⟨x,0,none⟩)] w (Yields w (.tuple #[.int .i64 0,.bool false])) := by
  have H := hid h
  have HSM := hid hsm
  clear h hsm
  go_enter Tryz.func26,Tryz.ntmps26
  go_wp2_with (go_at_call 71; (with_reducible refine (tsome_to HSM.out (H.out.ext ext_by)).yields ?_); intro q1)
  refine bodyPost_ret (v := .tuple #[.int .i64 0,.bool false]) (by simp [results,Tryz.results26,go_sem]) rfl ⟨rfl,ext_by⟩
set_option maxRecDepth 100000 in
set_option maxHeartbeats 20000000 in
theorem trun_some {base x : Nat} {v : Value} {l : List Nd} {w : World} (h : Tq base x v l w) (hb : base ≤ w.heap.size) (hs : Ids l) (hp : ∀ m ∈ l,0 ≤ m.id) (hbd : BdM 20000000 l) (hl : l.length ≤ 60) {r : Nd} (hr : r ∈ l) (hr0 : r.id = 0) (hrp : r.par < 0) (hsm : someT l 0 = true) {R : Int × List Nd} (hR : runU 6 l 0 = some R) :
    Calls Tryz.prog 26 #[.pointer (some ⟨x,0,none⟩)] w fun e w' => e = .returned (.tuple #[.int .i64 R.1,.bool true]) ∧ ∃ v',Tq base x v' (upR 6 R.2 R.1) w' ∧ Mv x v v' w w' := by
  have hn0 := root_first hs hp hr hr0
  obtain ⟨p,cap,rfl,hc1,hc2,hp0,hp1⟩ := h.row.slice
  obtain ⟨a,rfl⟩ : ∃ a,p = some a := by
    cases p with
    | none => have e := (hp0 rfl).1; rw [e] at hn0; simp at hn0
    | some a => exact ⟨a,rfl⟩
  obtain ⟨g,rfl,hg,hgl⟩ := hp1 a rfl
  unfold maxLen at hc2
  have hl0 : 0 < l.length := (List.getElem?_eq_some_iff.1 hn0).1
  have hx := h.lt
  have c0 := h.cell
  clear hp0 hp1
  have HST := hid (RunS.start hs hp hbd hR hn0 hr0 hrp)
  have H := hid h
  have HB := hid hb
  have HSM := hid hsm
  have HL := hid hl
  have HSR := hid (fun (W : World) (hX : Ext w W) => NRow.src (h.ext hX).row 0 l [] (by simp))
  clear h hb hs hp hbd hr hr0 hrp hsm hR hn0
  go_enter Tryz.func26,Tryz.ntmps26
  go_upto_block 0 with (first
    | (go_at_call 71; (with_reducible refine (tsome_to HSM.out (H.out.ext ext_by)).yields ?_); intro q1)
    | (at_builtin; refine wpList_append_sl rfl (.const (.slice none 0 0)) (.tmp 19) 109 113 (.agg #[.int .i64 0,.int .i64 0,.int .i64 0,.int .i64 0,.bool false,.bool false,.int .i64 0]) 7 48 rfl Tryz.underlying109 infoNd rfl (by decide) (World.ownsRow_nil (more w q1) (more w q1).heap.size _ _) (news := l.flatMap ndc) rfl rfl (flat_length ndc_length l) (by intro j u hj; have := HSR.out (more w q1) (ext_more w q1) j u hj; simpa using this) (ndc_oneAll _) (by unfold maxLen; omega) (by omega) (Nat.le_refl _) ?_; intro p1 cc1 w1 ho1 hb1; have d0 : w1.cell? ⟨x,0,none⟩ = some (.slice (some ⟨g,0,none⟩) l.length cap) := Ext.cell ⟨hb1⟩ (more_cell c0 q1); have f0 : w1.frozen? ⟨x,0,none⟩ = false := ((H.out.ext (ext_more w q1)).ext ⟨hb1⟩).free; have hxl : x < w1.heap.size := World.block_lt_of_cell? _ _ d0; have HO1 := hid ho1; have HB1 := hid hb1; clear ho1 hb1))
  obtain ⟨g2,hp1,hT2,hM2⟩ := (H.out.ext (ext_more w q1)).copied (by have := (ext_more w q1).size; have := HB.out; omega) HO1.out HB1.out hl0
  subst hp1
  have HT2 := hid hT2
  have HM2 := hid ((Mv.of_ext (x := x) (v := (.slice (some ⟨g,0,none⟩) l.length cap)) (ext_more w q1)).trans hM2)
  clear hT2 hM2 d0 f0 hxl HO1 HB1 c0 hx hg hgl hc1 hc2
  (try rw [Nat.zero_add])
  (try simp only [Nat.zero_add])
  generalize w1.setCell ⟨x,0,none⟩ (.slice (some ⟨g2,0,none⟩) l.length cc1) = v2 at *
  clear w1 q1
  have HC2 : Hid (cc1 ≤ 9223372036854775807) := by obtain ⟨p,c,e,-,h1,-⟩ := HT2.out.row.slice; injection e with _ _ e; unfold maxLen at h1; unfold Hid; omega
  go_wp2_with fail
  go_loopg [4,5] 6 (fun gg s4 s5 wr => ∃ (f k : Nat) (lc : List Nd) (n : Nd) (ws : List Nat) (gs : List Int) (vw : Value),f = gg ∧ s4 = .int .i64 k ∧ vw = s5 ∧ k < lc.length ∧ lc.length = l.length ∧ Hid (RunS l R lc n k f ws gs) ∧ Hid (Tq base x (.slice (some ⟨g2,0,none⟩) lc.length cc1) lc wr ∧ Mv x (.slice (some ⟨g,0,none⟩) l.length cap) (.slice (some ⟨g2,0,none⟩) lc.length cc1) w wr ∧ wr.ownsRow w.heap.size 3 1 vw ws.length (wyc ws)))
  case atStart => exact ⟨6,0,l,r,[],[],.slice none 0 0,rfl,rfl,rfl,hl0,rfl,HST,HT2.out,HM2.out,by have := World.ownsRow_nil v2 w.heap.size 3 1; simpa [wyc] using this⟩
  case round =>
    obtain ⟨f,k,lc,n,ws,gs,vw,hfg,rfl,rfl,hkl,hlen,HS,HW⟩ := hrel
    clear HT2 HM2 HST HSR
    have c0 := HW.out.1.cell
    have hxl := World.block_lt_of_cell? _ _ c0
    simp only at hxl
    have ck := (node_cells HW.out.1 HS.out.at').2.2.2.2.1
    have hgl := World.block_lt_of_cell? _ _ ck
    simp only at hgl
    have k1 : (k : Int) < lc.length := by omega
    cases ht : n.thr with
    | false =>
      rw [ht] at ck
      go_upto_block 2 with fail
      refine wp_meet (BestPost x lc k n.id wr _ _ _ _ _ _ _ _ _ _ _ _ _ _ _ _ _ _ _ _ _ _ _ _ _ _ _ _ _ _ _ _ _ _ _ _ _ _ _ _ _ _ _ _ _ _ _ _ _ _ _ _ _ _ _ _ _ _ _ _ _ _ _ _ _ _ _ _ _ _ _ _ _ _ _ _ _ _ _ _ _ _ _ _ _ _ _ _ _ _ _ _ _ _ _ _ _ _ _ _ _ _ _ _ _ _ _ _ _ _ _ _ _ _ _ _ _ _ _ _ _ _ _ _ _ _ _ _ _ _ _ _ _ _ _ _ _ _ _ _ _ _ _ _ _ _ _ _ _ _ _ _ _ _ _ _ _ _ _ _ _ _ _ _ _) (run_best HW.out.1 HS.out.at' _ _ _ _ _ _ _ _ _ _ _ _ _ _ _ _ _ _ _ _ _ _ _ _ _ _ _ _ _ _ _ _ _ _ _ _ _ _ _ _ _ _ _ _ _ _ _ _ _ _ _ _ _ _ _ _ _ _ _ _ _ _ _ _ _ _ _ _ _ _ _ _ _ _ _ _ _ _ _ _ _ _ _ _ _ _ _ _ _ _ _ _ _ _ _ _ _ _ _ _ _ _ _ _ _ _ _ _ _ _ _ _ _ _ _ _ _ _ _ _ _ _ _ _ _ _ _ _ _ _ _ _ _ _ _ _ _ _ _ _ _ _ _ _ _ _ _ _ _ _ _ _ _ _ _ _ _ _ _ _ _ _ _ _ _ _ _ _ _ _ _ _ _ _ _ _ _ _ _ _ _ _ _ _ _ _ _ _ _ _ _ _ _ _ _ _ _ _ _ _ _ _ _ _ _ _ _ _ _ _ _ _ _ _ _ _ _ _) ?_
      refine fun a' y => ex_elim fun p => ex8 fun u7 u8 u33 u34 u35 u36 u37 u38 => ex8 fun u39 u40 u41 u42 u43 u44 u45 u46 => ex8 fun u47 u48 u49 u50 u51 u52 u53 u54 => ex8 fun u55 u56 u57 u58 u59 u60 u61 u62 => ex8 fun u63 u64 u65 u66 u67 u68 u69 u70 => ex8 fun u71 u72 u73 u74 u75 u76 u77 u78 => ex4 fun u79 u80 u81 u82 => ex2 fun u83 u84 => ?_
      rintro ⟨rfl,hB,hX⟩
      obtain ⟨b,f',hbest,hff⟩ := HS.out.best ht
      obtain ⟨j,rfl,hj⟩ := hB.done hbest
      subst hff
      obtain ⟨b1,hj1,hb1,hS2⟩ := HS.out.next ht hbest hj
      have HS2 := hid hS2
      have HJ1 := hid hj1
      have HJ := hid hj
      have HB1 := hid hb1
      have HY := hid hX
      have j1 : (j : Int) < lc.length := by have := (List.getElem?_eq_some_iff.1 hj).1; omega
      have hlt2 : j < lc.length := by omega
      clear hB hbest hj hj1 hb1 hS2 hX c0 ck hxl hgl
      go_upto_region 14 with fail
      refine wp_meet (NowPost base x g2 cc1 k j _ y _ _ _ _ _ _ _ _ _ _ _ _ _ _ _ _ _ _ _ _ _ _ _ _ _ _ _ _ _ _ _ _ _ _ _ _ _ _ _ _ _ _ _ _ _ _ _ _ _ _ _ _ _ _ _ _ _ _ _ _ _ _ _ _ _ _ _ _ _ _ _ _ _ _ _ _ _ _ _ _ _ _ _ _ _ _ _ _ _ _ _ _ _ _ _ _ _ _ _ _ _ _ _ _ _ _ _ _ _ _ _ _ _ _ _ _ _ _ _ _ _ _ _ _ _ _ _ _ _ _ _ _ _ _ _ _ _ _ _ _ _ _ _ _ _ _ _ _ _ _ _ _ _ _ _ _ _ _ _ _ _ _ _ _ _ _ _ _ _ _ _ _ _ _ _ _ _ _ _ _ _ _ _ _ _ _ _ _ _ _ _ _ _ _ _ _ _ _ _ _ _ _ _) (run_now (HW.out.1.ext HY.out) HS.out.at' HJ.out _ _ _ _ _ _ _ _ _ _ _ _ _ _ _ _ _ _ _ _ _ _ _ _ _ _ _ _ _ _ _ _ _ _ _ _ _ _ _ _ _ _ _ _ _ _ _ _ _ _ _ _ _ _ _ _ _ _ _ _ _ _ _ _ _ _ _ _ _ _ _ _ _ _ _ _ _ _ _ _ _ _ _ _ _ _ _ _ _ _ _ _ _ _ _ _ _ _ _ _ _ _ _ _ _ _ _ _ _ _ _ _ _ _ _ _ _ _ _ _ _ _ _ _ _ _ _ _ _ _ _ _ _ _ _ _ _ _ _ _ _ _ _ _ _ _ _ _ _ _ _ _ _ _ _ _ _ _ _ _ _ _ _ _ _ _ _ _ _ _ _ _ _ _ _ _ _ _ _ _ _ _ _ _ _ _ _ _ _ _ _ _ _ _ _ _ _ _ _ _ _ _ _ _ _ _ _ _ _ _ _ _ _ _ _ _ _ _ _) ?_
      refine fun a' y2 => ex8 fun u85 u86 u87 u88 u89 u90 u91 u92 => ex8 fun u93 u94 u95 u96 u97 u98 u99 u100 => ?_
      rintro ⟨rfl,hT2,hM2⟩
      have HT2 := hid hT2
      have HM2 := hid hM2
      clear hT2 hM2
      go_upto_region 15 with fail
      refine wp_meet (GoPost base x g2 cc1 j _ y2 _ _ _ _ _ _ _ _ _ _ _ _ _ _ _ _ _ _ _ _ _ _ _ _ _ _ _ _ _ _ _ _ _ _ _ _ _ _ _ _ _ _ _ _ _ _ _ _ _ _ _ _ _ _ _ _ _ _ _ _ _ _ _ _ _ _ _ _ _ _ _ _ _ _ _ _ _ _ _ _ _ _ _ _ _ _ _ _ _ _ _ _ _ _ _ _ _ _ _ _ _ _ _ _ _ _ _ _ _ _ _ _ _ _ _ _ _ _ _ _ _ _ _ _ _ _ _ _ _ _ _ _ _ _ _ _ _ _ _ _ _ _ _ _ _ _ _ _ _ _ _ _ _ _ _ _ _ _ _ _ _ _ _ _ _ _ _ _ _ _ _ _ _ _ _ _ _ _ _ _ _ _ _ _ _ _ _ _ _ _ _ _ _) (run_go HT2.out HJ1.out HB1.out _ _ _ _ _ _ _ _ _ _ _ _ _ _ _ _ _ _ _ _ _ _ _ _ _ _ _ _ _ _ _ _ _ _ _ _ _ _ _ _ _ _ _ _ _ _ _ _ _ _ _ _ _ _ _ _ _ _ _ _ _ _ _ _ _ _ _ _ _ _ _ _ _ _ _ _ _ _ _ _ _ _ _ _ _ _ _ _ _ _ _ _ _ _ _ _ _ _ _ _ _ _ _ _ _ _ _ _ _ _ _ _ _ _ _ _ _ _ _ _ _ _ _ _ _ _ _ _ _ _ _ _ _ _ _ _ _ _ _ _ _ _ _ _ _ _ _ _ _ _ _ _ _ _ _ _ _ _ _ _ _ _ _ _ _ _ _ _ _ _ _ _ _ _ _ _ _ _ _ _ _ _ _ _ _ _ _ _ _ _ _ _ _ _ _ _ _ _ _ _ _ _ _ _ _ _ _ _ _ _ _ _ _ _ _ _ _ _ _ _) ?_
      refine fun a' y3 => ex8 fun u101 u102 u103 u104 u105 u106 u107 u108 => ex8 fun u109 u110 u111 u112 u113 u114 u115 u116 => ex8 fun u117 u118 u119 u120 u121 u122 u123 u124 => ex2 fun u125 u126 => ex_elim fun u127 => ?_
      rintro ⟨rfl,hT3,hM3⟩
      have HT3 := hid hT3
      have HM3 : Hid (Mv x (.slice (some ⟨g2,0,none⟩) lc.length cc1) (.slice (some ⟨g2,0,none⟩) ((lc.set k (nowF b.pass n)).set j (goF b1)).length cc1) y y3) := by
        have h1 := HM2.out
        have h2 := hM3
        simp only [List.length_set] at h1 h2 ⊢
        exact h1.trans h2
      have HOW : Hid (y3.ownsRow w.heap.size 3 1 vw ws.length (wyc ws)) := by
        refine owns_keep (owns_ext HW.out.2.2 HY.out) fun gw hgw => HM3.out.block gw ((owns_ext HW.out.2.2 HY.out).lt gw hgw).2 (fun e => ?_) (fun e => ?_)
        · subst e; exact owns_ne (owns_ext HW.out.2.2 HY.out) (HW.out.1.ext HY.out).blk (by decide) hgw
        · simp only [Value.ownBlock,Option.some.injEq] at e
          subst e
          obtain ⟨cur,hcur⟩ := way_far (owns_ext HW.out.2.2 HY.out) hgw
          exact (HW.out.1.ext HY.out).row.far hcur (by decide) rfl
      have HMV : Hid (Mv x (.slice (some ⟨g,0,none⟩) l.length cap) (.slice (some ⟨g2,0,none⟩) ((lc.set k (nowF b.pass n)).set j (goF b1)).length cc1) w y3) := (HW.out.2.1.ext HY.out).trans HM3.out
      have HBS : Hid (w.heap.size ≤ y3.heap.size) := HMV.out.size
      have HXB : Hid (vw.ownBlock ≠ some x) := owns_ne HOW.out HT3.out.blk (by decide)
      have HGB : Hid (vw.ownBlock ≠ some g2) := fun e => by
        obtain ⟨cur,hcur⟩ := way_far HOW.out e
        exact HT3.out.row.far hcur (by decide) rfl
      have hws : ws.length ≤ 6 := by have := HS2.out.len; have := HS2.out.fuel; simp only [List.length_append,List.length_singleton] at *; omega
      have HG2 : Hid (∃ o,y3.heap[g2]? = some o) := by
        have := HT3.out.row.lt g2 rfl
        exact ⟨_,Array.getElem?_eq_getElem this.2⟩
      clear hT3 hM3 HT2 HM2 HM3 HJ HJ1 HB1 HY HS HW
      go_wp2_with (at_builtin; refine wpList_push_row (w := y3) (by rfl) (.tmp 128) (.tmp 130) 50 3 (.int .i64 0) 8 (by rfl) Tryz.underlying50 infoI5 (by rfl) HOW.out (news := [.int .i64 k]) (k := 1) (by rfl) (by intro u hu; obtain rfl := List.mem_singleton.1 hu; rfl) (by unfold maxLen; omega) (by omega) HBS.out (by rfl) (by rfl) (by rfl) (by decide) ?_; intro p c w4 ho4 hb4 hf4)
      have HT4 : Hid (Tq base x (.slice (some ⟨g2,0,none⟩) ((lc.set k (nowF b.pass n)).set j (goF b1)).length cc1) ((lc.set k (nowF b.pass n)).set j (goF b1)) w4) := by
        refine HT3.out.stay ?_ fun gq hq => ?_
        · rw [hf4 x _ HT3.out.blk (Ne.symm HXB.out),HT3.out.blk]
        · simp only [Value.ownBlock,Option.some.injEq] at hq
          subst hq
          obtain ⟨o,ho⟩ := HG2.out
          rw [hf4 _ _ ho (Ne.symm HGB.out),ho]
      have HM4 := hid (HMV.out.more hb4)
      have HO4 : Hid (w4.ownsRow w.heap.size 3 1 (.slice p (ws.length + 1) c) (ws ++ [k]).length (wyc (ws ++ [k]))) := by unfold Hid; simpa [wyc] using ho4
      clear ho4 hb4 hf4 HT3 HMV HOW
      go_wp2
      go_roundg f'
      case measure => omega
      case rel => exact ⟨f',j,_,goF b1,ws ++ [k],gs ++ [n.id],_,rfl,by go_num,rfl,by simp only [List.length_set]; omega,by simp only [List.length_set]; omega,HS2,HT4.out,HM4.out,HO4.out⟩
    | true =>
      rw [ht] at ck
      obtain ⟨p,c,rfl⟩ := way_shape HW.out.2.2
      have hws : ws.length ≤ 6 := by have := HS.out.len; have := HS.out.fuel; omega
      have HUP := hid (HS.out.up ht)
      have HR1 : Hid (R.1 = n.id) := by rw [HS.out.thr ht]; rfl
      have START : Hid (Tq base x (.slice (some ⟨g2,0,none⟩) (rebG lc gs 0).length cc1) (rebG lc gs 0) wr) := HW.out.1
      go_wp2_with fail
      go_loopg [9] ws.length (fun gg s9 w5 => ∃ i : Nat,s9 = .int .i64 i ∧ i ≤ ws.length ∧ ws.length - i ≤ gg ∧ Hid (Tq base x (.slice (some ⟨g2,0,none⟩) (rebG lc gs i).length cc1) (rebG lc gs i) w5) ∧ Hid (Mv x (.slice (some ⟨g,0,none⟩) l.length cap) (.slice (some ⟨g2,0,none⟩) lc.length cc1) w w5) ∧ Hid (w5.ownsRow w.heap.size 3 1 (.slice p ws.length c) ws.length (wyc ws)))
      case atStart => exact ⟨0,rfl,by omega,by omega,START,HW.out.2.1,HW.out.2.2⟩
      case round =>
        obtain ⟨i,rfl,hi,hgi,HT,HM,HO⟩ := hrel
        clear START
        have HFA := hid (rebG_facts HS.out.ids HS.out.bd gs i (by rw [← HS.out.len]; exact hi))
        have hln : (rebG lc gs i).length = lc.length := HFA.out.2.2.len
        by_cases hlt : i < ws.length
        · have i1 : (i : Int) < (ws.length : Int) := by omega
          obtain ⟨wg,c',cur,hv,hwb,hwc,hwm,hcur,hat⟩ := way_at HO.out rfl (by omega)
          injection hv with hv1 hv2 hv3
          subst hv1 hv3
          obtain ⟨m,hm,hgm⟩ := HS.out.idx i _ (List.getElem?_eq_getElem hlt)
          obtain ⟨n',hn',ek⟩ := simS_at (HS.out.sim.trans HFA.out.2.2) hm
          have hcw := hat i _ (List.getElem?_eq_getElem hlt)
          have HSU : Hid (rebC (rebG lc gs i) n'.id = rebG lc gs (i + 1)) := by
            rw [(keyS_eq ek).1]; exact (rebG_succ hgm).symm
          have hwx : ¬ wg = x ∧ ¬ wg = g2 := ⟨fun e => by
            subst e
            exact owns_ne HO.out HT.out.blk (by decide) rfl,fun e => by
            subst e
            exact HT.out.row.far hcur (by decide) rfl⟩
          have HWX := hid hwx
          have hgl2 : gs.length ≤ 6 := by have := HS.out.fuel; omega
          go_upto_block 5 with fail
          refine wp_meet (RebPost base x g2 cc1 wg ws.length c i _ wr _ _ _ _ _ _ _ _ _ _ _ _ _ _ _ _ _ _ _ _ _ _ _ _ _ _ _ _ _ _ _ _ _ _ _ _ _ _ _ _ _ _ _ _ _ _ _ _ _ _ _ _ _ _ _ _ _ _ _ _ _ _ _ _ _ _ _ _ _ _ _ _ _ _ _ _ _ _ _ _ _ _ _ _ _ _ _ _ _ _ _ _ _ _ _ _ _ _ _ _ _ _ _ _ _ _ _ _ _ _ _ _ _ _ _ _ _ _ _ _ _ _ _ _ _ _ _ _ _ _ _ _ _ _ _ _ _ _ _ _ _ _ _) (run_reb HT.out HFA.out.1 (HFA.out.2.1.mono (by omega)) (by omega) hn' hcw HWX.out i1 _ _ _ _ _ _ _ _ _ _ _ _ _ _ _ _ _ _ _ _ _ _ _ _ _ _ _ _ _ _ _ _ _ _ _ _ _ _ _ _ _ _ _ _ _ _ _ _ _ _ _ _ _ _ _ _ _ _ _ _ _ _ _ _ _ _ _ _ _ _ _ _ _ _ _ _ _ _ _ _ _ _ _ _ _ _ _ _ _ _ _ _ _ _ _ _ _ _ _ _ _ _ _ _ _ _ _ _ _ _ _ _ _ _ _ _ _ _ _ _ _ _ _ _ _ _ _ _ _ _ _ _ _ _ _ _ _ _ _ _ _ _ _ _ _ _ _ _ _ _ _ _ _ _ _ _ _ _ _ _ _ _ _ _ _ _ _ _ _ _ _ _ _ _ _ _ _ _ _ _ _ _ _ _ _ _ _ _ _ _ _ _ _ _ _ _ _ _ _ _ _ _ _ _ _ _ _ _ _ _ _ _ _ _ _ _ _ _ _) ?_
          refine fun a' y => ex8 fun u10 u11 u139 u140 u141 u142 u143 u144 => ex8 fun u145 u146 u147 u148 u149 u150 u151 u152 => ex8 fun u153 u154 u155 u156 u157 u158 u159 u160 => ex8 fun u161 u162 u163 u164 u165 u166 u167 u168 => ex8 fun u169 u170 u171 u172 u173 u174 u175 u176 => ex8 fun u177 u178 u179 u180 u181 u182 u183 u184 => ex8 fun u185 u186 u187 u188 u189 u190 u191 u192 => ex8 fun u193 u194 u195 u196 u197 u198 u199 u200 => ex8 fun u201 u202 u203 u204 u205 u206 u207 u208 => ex4 fun u209 u210 u211 u212 => ?_
          rintro ⟨rfl,hT2,hM2⟩
          rw [HSU.out] at hT2 hM2
          have hl3 : (rebG lc gs (i + 1)).length = lc.length := by rw [← HSU.out,rebC_length,hln]
          have HM2 : Hid (Mv x (.slice (some ⟨g2,0,none⟩) lc.length cc1) (.slice (some ⟨g2,0,none⟩) lc.length cc1) wr y) := by rw [hl3] at hM2; exact hM2
          have HO2 : Hid (y.ownsRow w.heap.size 3 1 (.slice (some ⟨wg,0,none⟩) ws.length c) ws.length (wyc ws)) := by
            refine owns_keep HO.out fun gw hgw => ?_
            simp only [Value.ownBlock,Option.some.injEq] at hgw
            subst hgw
            exact HM2.out.block _ (lt_blk hcur) HWX.out.1 (by simp only [Value.ownBlock,ne_eq,Option.some.injEq]; exact fun e => HWX.out.2 e.symm)
          have HT2 := hid hT2
          have HM3 := hid (HM.out.trans HM2.out)
          clear hT2 hM2 hm hn' hcw hcur hat hgm
          go_wp2
          go_roundg (ws.length - (i + 1))
          case measure => omega
          case rel => exact ⟨i + 1,by go_num,by omega,by omega,HT2,HM3,HO2⟩
        · obtain rfl : i = ws.length := by omega
          have d0 := HT.out.cell
          have hxl2 := World.block_lt_of_cell? _ _ d0
          simp only at hxl2
          obtain ⟨nk,hnk,ek⟩ := simS_at HFA.out.2.2 HS.out.at'
          have dk := (node_cells HT.out hnk).1
          rw [(keyS_eq ek).1,← HR1.out] at dk
          have hgl2 := World.block_lt_of_cell? _ _ dk
          simp only at hgl2
          have k2 : (k : Int) < ((rebG lc gs ws.length).length : Int) := by rw [hln]; exact k1
          have HEND : Hid (∃ v',Tq base x v' (upR 6 R.2 R.1) wr ∧ Mv x (.slice (some ⟨g,0,none⟩) l.length cap) v' w wr) := by
            refine ⟨(.slice (some ⟨g2,0,none⟩) (rebG lc gs ws.length).length cc1),?_,?_⟩
            · rw [← HUP.out,← HS.out.len]; exact HT.out
            · rw [hln]; exact HM.out
          clear hnk ek
          go_wp2
          refine bodyPost_ret (v := .tuple #[.int .i64 R.1,.bool true]) (by simp [results,Tryz.results26,go_sem]) rfl ⟨rfl,HEND.out⟩
end Go.Proofs.YtocicffmajbecaaGreatDoor
namespace Go.Proofs.YtocicffmajbecaaGreatDoor
open Go.RowKit
set_option linter.unusedSimpArgs false
section
variable {l : List Nd}
theorem atV_at (hs : Ids l) {k : Nat} {n : Nd} (hk : l[k]? = some n) : atV l n.id = (k : Int) := by
  obtain ⟨h1,h2⟩ := List.getElem?_eq_some_iff.1 hk
  have : idxT l n.id = k := idxT_is h1 (by rw [h2]) fun i hi e => by
    have := ids_get hs (by omega : i < l.length) h1 hi
    rw [h2,e] at this; omega
  unfold atV
  rw [this,if_pos h1]
theorem atV_mem (hs : Ids l) {n : Nd} (hn : n ∈ l) : ∃ k : Nat,atV l n.id = (k : Int) ∧ l[k]? = some n ∧ k = placeT l n.id := by
  obtain ⟨h1,h2⟩ := place_get hs hn
  have hk : l[placeT l n.id]? = some n := by rw [List.getElem?_eq_getElem h1,h2]
  exact ⟨_,atV_at hs hk,hk,rfl⟩
theorem atV_no {id : Int} (h : getU l id = none) : atV l id = -1 := by
  have : ¬ idxT l id < l.length := idxT_none fun i hi => getU_none.1 h l[i] (List.getElem_mem hi)
  unfold atV
  rw [if_neg this]
theorem steps_up (hs : Ids l) : ∀ (n : Nat) (id : Int),Up l n id → TSteps l n (atV l id)
  | 0,id,h => by
    show atV l id < 0
    rw [atV_no h]; omega
  | n + 1,id,h => by
    obtain ⟨m,hm,rfl,h⟩ := h
    obtain ⟨k,h1,h2,-⟩ := atV_mem hs hm
    rw [h1]
    refine ⟨by omega,?_⟩
    have : parAt l (k : Int) = m.par := by simp [parAt,h2]
    rw [this]
    exact steps_up hs n _ h
theorem wake_fuel : ∀ (n : Nat) {l : List Nd} {id : Int},Ids l → Up l n id → ∀ f,n ≤ f → wakeU f l id = wakeU n l id
  | 0,l,id,hs,h,f,_ => by
    have hg : getU l id = none := h
    cases f with
    | zero => rfl
    | succ f => simp only [wakeU,hg]
  | n + 1,l,id,hs,h,f,hf => by
    obtain ⟨m,hm,rfl,h⟩ := h
    obtain ⟨f,rfl⟩ : ∃ f',f = f' + 1 := ⟨f - 1,by omega⟩
    simp only [wakeU,getU_of hs hm]
    split
    · rfl
    · split
      · rfl
      · exact wake_fuel n (ids_upd (f := rdyF (nowU l m.par)) (fun _ => rfl) hs) (Up.map (ite_same (rdyF_same _)) _ _ h) f (by omega)
theorem rest_fuel : ∀ (n : Nat) {l : List Nd} {id : Int},Ids l → Up l n id → ∀ f,n ≤ f → restU f l id = restU n l id
  | 0,l,id,hs,h,f,_ => by
    have hg : getU l id = none := h
    cases f with
    | zero => rfl
    | succ f => simp only [restU,hg]
  | n + 1,l,id,hs,h,f,hf => by
    obtain ⟨m,hm,rfl,h⟩ := h
    obtain ⟨f,rfl⟩ : ∃ f',f = f' + 1 := ⟨f - 1,by omega⟩
    simp only [restU,getU_of hs hm]
    split
    · rfl
    · split
      · rfl
      · exact rest_fuel n (ids_upd (f := offF) (fun _ => rfl) hs) (Up.map (ite_same offF_same) _ _ h) f (by omega)
theorem at_upd (hs : Ids l) {id : Int} {f : Nd → Nd} (hf : ∀ m,(f m).id = m.id) {p : Nd} (hp : p ∈ l) : ∃ k : Nat,atV l p.id = (k : Int) ∧ ∃ p',(upd id f l)[k]? = some p' ∧ p'.id = p.id := by
  obtain ⟨k,h1,h2,-⟩ := atV_mem hs hp
  refine ⟨k,h1,_,by rw [upd_get,h2]; rfl,?_⟩
  simp only
  split
  · exact hf p
  · rfl
theorem goT_wake : ∀ (f : Nat) {l : List Nd} {k : Nat} {nd : Nd},Ids l → Clo l → l[k]? = some nd → goT true f l (k : Int) = wakeU f l nd.id
  | 0,_,_,_,_,_,_ => rfl
  | f + 1,l,k,nd,hs,hc,hk => by
    obtain ⟨h1,h2⟩ := List.getElem?_eq_some_iff.1 hk
    have hn : nd ∈ l := by rw [← h2]; exact List.getElem_mem h1
    by_cases hr : nd.rdy = true
    · rw [goT_same hk hr,wakeU_rdy hs hn hr]
    · by_cases h0 : nd.par < 0
      · have hat : atV l nd.par = -1 := atV_no (getU_none.2 fun m hm e => by have := (hc m hm).1; omega)
        rw [goT_end hk hr (.inl (by rw [hat]; omega)),wakeU_top hs hn h0]
        have e : rdyN l nd true = onF nd := by unfold rdyN; rw [hat]; simp [onF]
        rw [e,set_upd hs hk onF]
      · obtain ⟨p,hp,he,hpt⟩ := (hc nd hn).2.2 (by omega)
        obtain ⟨kp,hkp,hkp2,-⟩ := atV_mem hs hp
        have hnow : nowAt l (kp : Int) = p.now := by simp [nowAt,hkp2]
        have e : rdyN l nd true = rdyF p.now nd := by
          unfold rdyN rdyF
          rw [← he,hkp,hnow]
          simp
        have hr' : nd.rdy = false := by simpa using hr
        rw [goT_on hk hr (by rw [← he,hkp]; simp),e,set_upd hs hk (rdyF p.now),wakeU_on hs hn hr' (by omega) hp he]
        obtain ⟨k2,h3,p',h4,h5⟩ := at_upd (id := nd.id) (f := rdyF p.now) hs (fun _ => rfl) hp
        rw [← he,h3,← h5]
        exact goT_wake f (ids_upd (fun _ => rfl) hs) (Clo.upd hc (rdyF_same _)) h4
theorem goT_rest : ∀ (f : Nat) {l : List Nd} {k : Nat} {nd : Nd},Ids l → Clo l → l[k]? = some nd → goT false f l (k : Int) = restU f l nd.id
  | 0,_,_,_,_,_,_ => rfl
  | f + 1,l,k,nd,hs,hc,hk => by
    obtain ⟨h1,h2⟩ := List.getElem?_eq_some_iff.1 hk
    have hn : nd ∈ l := by rw [← h2]; exact List.getElem_mem h1
    have e : rdyN l nd false = offF nd := by unfold rdyN; simp [offF]
    by_cases hr : nd.rdy = false
    · rw [goT_same hk hr,restU_no hs hn hr]
    · by_cases h0 : nd.par < 0
      · have hat : atV l nd.par = -1 := atV_no (getU_none.2 fun m hm e => by have := (hc m hm).1; omega)
        rw [goT_end hk hr (.inl (by rw [hat]; omega)),restU_top hs hn h0,e,set_upd hs hk offF]
      · obtain ⟨p,hp,he,hpt⟩ := (hc nd hn).2.2 (by omega)
        obtain ⟨kp,hkp,hkp2,-⟩ := atV_mem hs hp
        have hid : idAt' l (kp : Int) = nd.par := by rw [← he]; simp [idAt',hkp2]
        have hr' : nd.rdy = true := by simpa using hr
        cases hst : someT (upd nd.id offF l) nd.par with
        | true =>
          rw [goT_end hk hr (.inr ⟨rfl,by rw [e,set_upd hs hk offF,← he,hkp,hid]; exact hst⟩),restU_stop hs hn hr' hst,e,set_upd hs hk offF]
        | false =>
          rw [goT_on hk hr (by
            rw [e,set_upd hs hk offF,← he,hkp,hid,hst]
            simp),e,set_upd hs hk offF,restU_on hs hn hr' (by omega) hst]
          obtain ⟨k2,h3,p',h4,h5⟩ := at_upd (id := nd.id) (f := offF) hs (fun _ => rfl) hp
          rw [← he,h3,← h5]
          exact goT_rest f (ids_upd (fun _ => rfl) hs) (Clo.upd hc offF_same) h4
theorem dropT_del (hs : Ids l) {k : Nat} {n : Nd} (hk : l[k]? = some n) : dropT k l = delU l n.id := by
  obtain ⟨h1,h2⟩ := List.getElem?_eq_some_iff.1 hk
  have hn : n ∈ l := by rw [← h2]; exact List.getElem_mem h1
  obtain ⟨k',e1,e2,e3⟩ := atV_mem hs hn
  have e4 := atV_at hs hk
  have : k = placeT l n.id := by omega
  unfold dropT delU
  rw [List.eraseIdx_eq_take_drop_succ,← this]
theorem childB_kids (l : List Nd) (id : Int) : childB l id = !(kidsU l id).isEmpty := by
  unfold childB kidsU
  induction l with
  | nil => rfl
  | cons a l ih =>
    rw [List.any_cons,List.filter_cons,ih]
    by_cases h : a.par = id
    · simp [h]
    · simp [h]
end
section
variable {base x : Nat} {v : Value} {l : List Nd} {w : World}
theorem q_deep (h : Tq base x v l w) (hw : Wf l) (id : Int) : Calls Tryz.prog 48 #[.pointer (some ⟨x,0,none⟩),.int .i64 id] w (Yields w (.int .i64 (dnU 6 l id))) :=
  tdeep_any h id _ (by have := (hw.dn id).2; omega) (steps_up hw.sk.ids _ _ (hw.dn id).1)
theorem q_rdy (h : Tq base x v l w) (hb : base ≤ w.heap.size) (hw : Wf l) (id : Int) (r : Bool) :
    Calls Tryz.prog 41 #[.pointer (some ⟨x,0,none⟩),.int .i64 id,.bool r] w (TGoes base x v (rdyK l id) (rdyL l id r) w) := by
  have hl := hw.sk.len
  cases hg : getU l id with
  | none =>
    have hk : rdyK l id = 13 := by simp [rdyK,hg]
    rw [rdyL,hk,if_neg (by decide)]
    exact tready13 h id r (atV_no hg)
  | some n =>
    obtain ⟨hn,rfl⟩ := getU_mem hg
    obtain ⟨k,h1,h2,-⟩ := atV_mem hw.sk.ids hn
    cases ht : n.thr with
    | false =>
      have hk : rdyK l n.id = 13 := by simp [rdyK,hg,ht]
      rw [rdyL,hk,if_neg (by decide)]
      exact tready13g h n.id r h1 h2 ht
    | true =>
      have hk : rdyK l n.id = 0 := by simp [rdyK,hg,ht]
      obtain ⟨hu,hd⟩ := hw.dn n.id
      have hst := steps_up hw.sk.ids _ _ hu
      rw [h1] at hst
      rw [rdyL,hk,if_pos rfl]
      cases r with
      | true =>
        have := tready_true h hb n.id h1 h2 ht _ hst (by omega)
        rwa [goT_wake _ hw.sk.ids hw.sk.clo h2,← wake_fuel _ hw.sk.ids hu 5 hd] at this
      | false =>
        have := tready_false h hb n.id h1 h2 ht _ hst (by omega)
        rwa [goT_rest _ hw.sk.ids hw.sk.clo h2,← rest_fuel _ hw.sk.ids hu 5 hd] at this
theorem Wf.zero_top (hw : Wf l) {n : Nd} (hn : n ∈ l) : n.par < 0 ↔ n.id = 0 := by
  constructor
  · exact fun h => (hw.sk.only n hn h).1
  · intro h
    obtain ⟨r,hr,e1,e2⟩ := hw.sk.root
    rw [uniqU hw.sk.ids hn hr (h.trans e1.symm)]
    omega
theorem q_wt (h : Tq base x v l w) (hb : base ≤ w.heap.size) (hw : Wf l) (id wt : Int) :
    Calls Tryz.prog 21 #[.pointer (some ⟨x,0,none⟩),.int .i64 id,.int .i64 wt] w (TGoes base x v (wtK l id wt) (wtA l id wt) w) := by
  have hl := hw.sk.len
  cases hi : isW wt with
  | false =>
    have hk : wtK l id wt = 10 := by simp [wtK,hi]
    rw [wtA,hk,if_neg (by decide)]
    exact tweight10 h id wt hi
  | true =>
    cases hg : getU l id with
    | none =>
      have hk : wtK l id wt = 13 := by simp [wtK,hi,hg]
      rw [wtA,hk,if_neg (by decide)]
      exact tweight13 h id wt hi rfl (.inl (atV_no hg))
    | some n =>
      obtain ⟨hn,rfl⟩ := getU_mem hg
      obtain ⟨k,h1,h2,-⟩ := atV_mem hw.sk.ids hn
      by_cases h0 : n.par < 0
      · have hk : wtK l n.id wt = 13 := by simp [wtK,hi,hg,h0]
        rw [wtA,hk,if_neg (by decide)]
        exact tweight13 h n.id wt hi h1 (.inr ⟨by omega,(hw.zero_top hn).1 h0⟩)
      · have hk : wtK l n.id wt = 0 := by simp [wtK,hi,hg,h0]
        obtain ⟨p,hp,he,-⟩ := (hw.sk.clo n hn).2.2 (by omega)
        obtain ⟨kp,h3,h4,-⟩ := atV_mem hw.sk.ids hp
        have hpn : nowU l (parU l n.id) = p.now := by
          have : parU l n.id = n.par := by simp [parU,hg]
          rw [this,← he]; exact nowU_of hw.sk.ids hp
        have hb1 := hw.num.now p hp
        have hb2 := hw.bdM n hn
        rw [wtA,hk,if_pos rfl,hpn]
        have := tweight0 h hb n.id wt hi h1 h2 (fun e => h0 ((hw.zero_top hn).2 e)) (by omega) h4 (by rw [← he]; exact h3) (hw.num.wt n hn) (by omega) (by omega)
        rwa [show wtN n p.now wt = wtF p.now wt n from rfl,set_upd hw.sk.ids h2 (wtF p.now wt)] at this
theorem q_rem (h : Tq base x v l w) (hb : base ≤ w.heap.size) (hw : Wf l) (id : Int) :
    Calls Tryz.prog 56 #[.pointer (some ⟨x,0,none⟩),.int .i64 id] w (TGoes base x v (remK l id) (remL l id) w) := by
  have hl := hw.sk.len
  cases hg : getU l id with
  | none =>
    have hk : remK l id = 13 := by simp [remK,hg]
    rw [remL,hk,if_neg (by decide)]
    exact trem13 h id rfl (.inl (atV_no hg))
  | some n =>
    obtain ⟨hn,rfl⟩ := getU_mem hg
    obtain ⟨k,h1,h2,-⟩ := atV_mem hw.sk.ids hn
    by_cases h0 : n.par < 0
    · have hk : remK l n.id = 13 := by simp [remK,hg,h0]
      rw [remL,hk,if_neg (by decide)]
      exact trem13 h n.id h1 (.inr ⟨by omega,(hw.zero_top hn).1 h0⟩)
    · have hne : n.id ≠ 0 := fun e => h0 ((hw.zero_top hn).2 e)
      by_cases he : (kidsU l n.id).isEmpty = true
      · have hk : remK l n.id = 0 := by simp only [remK,hg]; rw [if_neg h0,if_pos he]
        obtain ⟨hu,hd⟩ := hw.dn n.id
        have hst := steps_up hw.sk.ids _ _ hu
        rw [h1] at hst
        rw [remL,hk,if_pos rfl]
        have := trem0 h hb n.id h1 h2 hne (by rw [childB_kids,he]; rfl) _ hst (by omega)
        have hkn := kids_nil.1 (List.isEmpty_iff.1 he)
        obtain ⟨hwr,-,-⟩ := hw.rested hn (by omega) hkn
        have e2 : (if n.thr = true then goT false (dnU 6 l n.id) l (k : Int) else l) = restU 5 l n.id := by
          by_cases ht : n.thr = true
          · rw [if_pos ht,goT_rest _ hw.sk.ids hw.sk.clo h2,← rest_fuel _ hw.sk.ids hu 5 hd]
          · rw [if_neg ht]
            have hr : n.rdy = false := by
              rw [hw.rd n hn (by simpa using ht),someT_not]
              exact fun m hm hp => absurd hp (hkn m hm)
            rw [restU_no hw.sk.ids hn hr]
        rw [e2] at this
        obtain ⟨n',hn',ek⟩ := simS_at (rest_sim 5 l n.id) h2
        have e3 := dropT_del hwr.sk.ids hn'
        rw [(keyS_eq ek).1] at e3
        rwa [e3] at this
      · have hk : remK l n.id = 10 := by simp only [remK,hg]; rw [if_neg h0,if_neg he]
        rw [remL,hk,if_neg (by decide)]
        exact trem10 h n.id h1 h2 hne (by rw [childB_kids]; simpa using he)
theorem q_add (h : Tq base x v l w) (hb : base ≤ w.heap.size) (hw : Wf l) (parent id wt : Int) (thr : Bool) :
    Calls Tryz.prog 40 #[.pointer (some ⟨x,0,none⟩),.int .i64 parent,.int .i64 id,.int .i64 wt,.bool thr] w (TGoes base x v (addK l parent id wt thr) (addL l parent id wt thr) w) := by
  obtain ⟨hu,hd⟩ := hw.dn parent
  have hst := steps_up hw.sk.ids _ _ hu
  unfold addL
  by_cases c1 : isW wt = false ∨ id ≤ 0
  · have hk : addK l parent id wt thr = 10 := by unfold addK addC; rw [if_pos c1]
    rw [hk,if_neg (by decide)]
    exact tadd10 h rfl (c1.imp (fun h => h) fun h => by omega)
  have hi : isW wt = true := by
    cases e : isW wt with
    | false => exact absurd (.inl e) c1
    | true => rfl
  have hid : 1 ≤ id := by
    apply Decidable.byContradiction
    intro e; exact c1 (.inr (by omega))
  cases hg : getU l parent with
  | none =>
    have hk : addK l parent id wt thr = 13 := by unfold addK addC; rw [if_neg c1,if_pos (by simp [grpU,hg])]
    rw [hk,if_neg (by decide)]
    exact tadd13a h hi hid (atV_no hg)
  | some p =>
    obtain ⟨hp,rfl⟩ := getU_mem hg
    obtain ⟨kp,h1,h2,-⟩ := atV_mem hw.sk.ids hp
    cases ht : p.thr with
    | true =>
      have hk : addK l p.id id wt thr = 13 := by unfold addK addC; rw [if_neg c1,if_pos (by simp [grpU,hg,ht])]
      rw [hk,if_neg (by decide)]
      exact tadd13b h hi hid h1 h2 ht
    | false =>
      have c2 : ¬ grpU l p.id = false := by simp [grpU,hg,ht]
      cases hgi : getU l id with
      | some n =>
        obtain ⟨hn,rfl⟩ := getU_mem hgi
        obtain ⟨kn,h3,-,-⟩ := atV_mem hw.sk.ids hn
        have hk : addK l p.id n.id wt thr = 20 := by unfold addK addC; rw [if_neg c1,if_neg c2,if_pos (by simp [hasU,hgi])]
        rw [hk,if_neg (by decide)]
        exact tadd20 h hi hid h1 h2 ht h3 (by omega)
      | none =>
        have c3 : ¬ hasU l id = true := by simp [hasU,hgi]
        have hat := atV_no hgi
        have hnow : newN l p.id id wt thr = ⟨id,p.id,wt,p.now,thr,false,0⟩ := by
          unfold newN; rw [nowU_of hw.sk.ids hp]
        cases thr with
        | false =>
          by_cases h4 : 4 ≤ dnU 6 l p.id
          · have hk : addK l p.id id wt false = 12 := by unfold addK addC; rw [if_neg c1,if_neg c2,if_neg c3,if_pos ⟨rfl,h4⟩]
            rw [hk,if_neg (by decide)]
            exact tadd12 h hi hid h1 h2 ht hat rfl (by omega) hst (by omega)
          · by_cases h5 : 60 ≤ l.length
            · have hk : addK l p.id id wt false = 14 := by unfold addK addC; rw [if_neg c1,if_neg c2,if_neg c3,if_neg (fun h => h4 h.2),if_pos h5]
              rw [hk,if_neg (by decide)]
              exact tadd14a h hi hid h1 h2 ht hat rfl (by omega) hst (by omega) h5
            · have hk : addK l p.id id wt false = 0 := by unfold addK addC; rw [if_neg c1,if_neg c2,if_neg c3,if_neg (fun h => h4 h.2),if_neg h5]
              rw [hk,if_pos rfl,hnow]
              exact tadd0a h hb hi hid h1 h2 ht hat rfl (by omega) hst (by omega) (by omega)
        | true =>
          by_cases h5 : 60 ≤ l.length
          · have hk : addK l p.id id wt true = 14 := by unfold addK addC; rw [if_neg c1,if_neg c2,if_neg c3,if_neg (fun h => by cases h.1),if_pos h5]
            rw [hk,if_neg (by decide)]
            exact tadd14b h hi hid h1 h2 ht hat rfl (by omega) hst h5
          · have hk : addK l p.id id wt true = 0 := by unfold addK addC; rw [if_neg c1,if_neg c2,if_neg c3,if_neg (fun h => by cases h.1),if_neg h5]
            rw [hk,if_pos rfl,hnow]
            exact tadd0b h hb hi hid h1 h2 ht hat rfl (by omega) hst (by omega)
theorem q_run (h : Tq base x v l w) (hb : base ≤ w.heap.size) (hw : Wf l) :
    Calls Tryz.prog 26 #[.pointer (some ⟨x,0,none⟩)] w fun e w' => e = .returned (.tuple #[.int .i64 (runK l).1,.bool (runK l).2]) ∧ ∃ v',Tq base x v' (runL l) w' ∧ Mv x v v' w w' := by
  obtain ⟨r,hr,hr0,hrp,hrt⟩ := hw.root
  have hsm := hw.rd r hr hrt
  rw [hr0] at hsm
  cases hrd : r.rdy with
  | false =>
    have hn := hw.run_none hr hr0 hrd
    have h1 : runK l = (0,false) := by simp [runK,hn]
    have h2 : runL l = l := by simp [runL,hn]
    rw [h1,h2]
    exact (trun_none h (by rw [← hsm]; exact hrd)).mono fun e w' ⟨a,b⟩ => ⟨a,v,h.ext b,Mv.of_ext b⟩
  | true =>
    obtain ⟨R,hR,-,-⟩ := hw.run hr hr0 hrd
    have h1 : runK l = (R.1,true) := by simp [runK,hR]
    have h2 : runL l = upR 6 R.2 R.1 := by simp [runL,hR]
    rw [h1,h2]
    exact trun_some h hb hw.sk.ids (fun m hm => (hw.sk.clo m hm).1) hw.bdM hw.sk.len hr hr0 (by omega) (by rw [← hsm]; exact hrd) hR
end
end Go.Proofs.YtocicffmajbecaaGreatDoor
