/- How long the bytes of a script are. No program is named here. -/
import Derived.Test.YtmpgeabfogcblaaGreatMath4b
namespace Go.Proofs.YtmpgeabfogcblaaGreat
open Go.RowKit

theorem flat_le {α : Type} {g : α → List UInt8} {k : Nat} : ∀ {l : List α} {n : Nat}, (∀ x ∈ l, (g x).length ≤ k) → l.length ≤ n → (l.flatMap g).length ≤ k * n
  | [], _, _, _ => by simp
  | x :: l, 0, _, hn => by simp at hn
  | x :: l, n + 1, h, hn => by
    have h1 := h x (List.mem_cons_self ..)
    have h2 := flat_le (l := l) (n := n) (fun y hy => h y (List.mem_cons_of_mem _ hy)) (by simpa using hn)
    rw [List.flatMap_cons, List.length_append, Nat.mul_succ]
    omega
theorem rowB_length {l : List Int} {n : Nat} (h : l.length ≤ n) : (rowB l).length ≤ 3 + 3 * n := by
  have h1 := numB_length l.length
  have h2 := flat_le (g := numB) (k := 3) (fun x (_ : x ∈ l) => numB_length x) h
  rw [rowB, List.length_append]
  omega
/-- A script that may be, no route of it longer than 20, has at most 40000 bytes. -/
theorem allBytes_length {s : Scr} (h : isScr s = 0) (hc : CnfIn s.conf) (hr : ∀ d ∈ s.conf.doms, ∀ r ∈ d.routes, r.length ≤ 20) : (allBytes s).length ≤ 40000 := by
  obtain ⟨_, _, h3, h4, h5, h6, _⟩ := isScr_parts h
  have hn := hc.doms
  have d1 : ∀ d ∈ s.conf.doms, (domBytes d).length ≤ 236 := fun d hd => by
    have hd' := hc.dom d hd
    have e1 := numB_length d.level
    have e2 := bitsB_length d.cats
    have e3 := numB_length d.routes.length
    have e4 := flat_le (g := rowB) (k := 63) (fun r hr' => rowB_length (hr d hd r hr')) hd'.routes
    have e5 := numB_length d.to
    have e6 := rowB_length hd'.release.1
    have e7 := numB_length d.threads
    have e8 := numB_length d.groups
    have e9 := numB_length d.ring
    have e10 := numB_length d.sends
    have e11 := numB_length d.box
    simp only [domBytes, List.length_append]
    omega
  have a1 := flat_le (g := domBytes) d1 hn
  have a2 := flat_le (g := fun p : List Int => p.flatMap numB) (k := 18) (fun p hp => flat_le (g := numB) (k := 3) (n := 6) (fun x (_ : x ∈ p) => numB_length x) (by rw [(hc.plan p hp).1]; exact hn)) hc.plans
  have a3 := flat_le (g := streamBytes) (k := 3603) (n := 6) (fun l hl => by
    have := h5 l hl
    simp only [streamB, Bool.and_eq_true, decide_eq_true_eq] at this
    have b1 := flat_le (g := axnBytes) (k := 9) (fun x (_ : x ∈ l) => by
      have := numB_length x.op
      have := numB_length x.a
      have := numB_length x.b
      simp only [axnBytes, List.length_append]
      omega) this.2
    have b2 := numB_length l.length
    simp only [streamBytes, List.length_append]
    omega) (by rw [h3]; exact hn)
  have a4 := flat_le (g := arrBytes) (k := 603) (n := 6) (fun l hl => by
    have b1 := flat_le (g := arvBytes) (k := 6) (fun x (_ : x ∈ l) => by
      have := numB_length x.tick
      have := numB_length x.obj
      simp only [arvBytes, List.length_append]
      omega) (h6 l hl)
    have b2 := numB_length l.length
    simp only [arrBytes, List.length_append]
    omega) (by rw [h4]; exact hn)
  have c1 := numB_length s.conf.frame
  have c2 := numB_length s.conf.epoch
  have c3 := numB_length s.conf.plans.length
  have c4 := numB_length s.conf.doms.length
  have c5 := numB_length s.horizon
  simp only [allBytes, confBytes, headBytes, plansBytes, List.length_append]
  omega
theorem allBytes_pos (s : Scr) : 1 ≤ (allBytes s).length := by
  have := numB_pos s.conf.frame
  simp only [allBytes, confBytes, headBytes, List.length_append]
  omega
end Go.Proofs.YtmpgeabfogcblaaGreat
