/- Whether a configuration may be, as plain data. No program is named here. -/
import Derived.Test.YtbnjfahjbemleaaMath1
namespace Go.Proofs.Ytbnjfahjbemleaa
open Go.RowKit

/-- A domain, a configuration, as plain data. -/
structure Dom where
  level : Int
  cats : Int
  routes : List (List Int)
  release : List Int
  to : Int
  threads : Int
  groups : Int
  ring : Int
  sends : Int
  box : Int
structure Cnf where
  frame : Int
  epoch : Int
  plans : List (List Int)
  doms : List Dom

def withB (n a b : Int) : Bool := decide (a ≤ n) && decide (n ≤ b)
theorem withB_iff {n a b : Int} : withB n a b = true ↔ a ≤ n ∧ n ≤ b := by simp [withB]

def planB (n : Nat) (p : List Int) : Bool := p.all (fun s => withB s 0 1000) && (p.length == n) && p.any (fun s => decide (0 < s))
def sharesB (c : Cnf) : Bool := withB c.plans.length 1 3 && c.plans.all (planB c.doms.length)
def Dom.lab (d : Dom) : Int × Int := (d.level, d.cats)
def formB (c : Cnf) : Bool := withB c.frame 1 64 && withB c.epoch 1 8 && withB c.doms.length 1 6 && c.doms.all (fun d => isB d.level)
def quotaB (d : Dom) : Bool := withB d.threads 1 8 && withB d.groups 0 4 && withB d.ring 1 16 && withB d.sends 0 8 && withB d.box 1 8

/-- The label at a place. -/
def labAt (ds : List Dom) (n : Int) : Int × Int := (ds[n.toNat]?.map Dom.lab).getD (0, 0)
def routeB (ds : List Dom) (own : Int × Int) (r : List Int) : Bool := !r.isEmpty && r.all (fun n => withB n 0 ((ds.length : Int) - 1)) && chainB (own :: r.map (labAt ds))
/-- What a domain gives away. -/
def giveB (ds : List Dom) (frame : Int) (i : Nat) (d : Dom) : Bool :=
  if d.to = -1 then d.release.isEmpty
  else withB d.to 0 ((ds.length : Int) - 1) && !(d.to == i) && withB d.release.length 1 4 && d.release.all (fun x => withB x 0 frame) &&
    leqB (labAt ds d.to).1 (labAt ds d.to).2 d.level d.cats && !(eqB (labAt ds d.to).1 (labAt ds d.to).2 d.level d.cats)
def domB (c : Cnf) (i : Nat) (d : Dom) : Bool := decide (d.routes.length ≤ 3) && d.routes.all (routeB c.doms d.lab) && giveB c.doms c.frame i d
/-- From place i on. -/
def domsB (c : Cnf) : Nat → List Dom → Bool
  | _, [] => true
  | i, d :: l => domB c i d && domsB c (i + 1) l
def isConf (c : Cnf) : Nat := if formB c = false then 10 else if sharesB c = false then 18 else if c.doms.all quotaB = false then 19 else if domsB c 0 c.doms = false then 17 else 0

def ticksN (c : Cnf) : Int := if isConf c = 0 then c.frame * c.epoch else 0
def sameD (x y : Dom) : Bool := eqB x.level x.cats y.level y.cats && decide (x.routes = y.routes) && decide (x.release = y.release) && x.to == y.to && x.threads == y.threads && x.groups == y.groups && x.ring == y.ring && x.sends == y.sends && x.box == y.box
def sameAll : List Dom → List Dom → Bool
  | [], [] => true
  | x :: l, y :: m => sameD x y && sameAll l m
  | _, _ => false
def sameC (a b : Cnf) : Bool := a.frame == b.frame && a.epoch == b.epoch && decide (a.plans = b.plans) && sameAll a.doms b.doms
theorem sameD_self (x : Dom) : sameD x x = true := by simp [sameD, eqB]
theorem sameAll_self : ∀ l : List Dom, sameAll l l = true
  | [] => rfl
  | x :: l => by simp [sameAll, sameD_self, sameAll_self l]
theorem sameC_self (a : Cnf) : sameC a a = true := by simp [sameC, sameAll_self]
end Go.Proofs.Ytbnjfahjbemleaa
