/- ConfLimits, what all parts use: what all parts use. -/
import Derived.Test.YtgcbkhbpbmmfhaaCKnown
import Derived.Deep.CutRange
import Derived.Deep.RegionHeld3
namespace Go.Proofs.Ytgcbkhbpbmmfhaa
open Go.RowKit

namespace confLimits
/-- A configuration that lies as Base's does, but for its two numbers. -/
structure KG (N : Nat) (fr ep : Int) (c : Cnf) (w : World) : Prop where
  v : ConfV w c (.slice (some ⟨N + 3, 0, none⟩) 2 2) (.slice (some ⟨N + 13, 0, none⟩) 4 4)
  f : c.frame = fr
  e : c.epoch = ep
theorem KG.val {N : Nat} {fr ep : Int} {c : Cnf} {w : World} (k : KG N fr ep c w) : confV c (.slice (some ⟨N + 3, 0, none⟩) 2 2) (.slice (some ⟨N + 13, 0, none⟩) 4 4) = .agg #[.int .i64 fr, .int .i64 ep, .slice (some ⟨N + 3, 0, none⟩) 2 2, .slice (some ⟨N + 13, 0, none⟩) 4 4] := by
  unfold confV
  rw [k.f, k.e]
theorem KG.ext {N : Nat} {fr ep : Int} {c : Cnf} {w w' : World} (h : Ext w w') (k : KG N fr ep c w) : KG N fr ep c w' := ⟨k.v.ext h, k.f, k.e⟩
theorem kg_conf {N : Nat} {os : List RO} {w : World} {fr ep : Int} (l : Lies N os w) {c : Cnf} (h : confOf os fr ep (.s 3 2) (.s 13 4) = some c) : KG N fr ep c w :=
  have := conf_lies l (RV.wf_of rfl) (RV.wf_of rfl) h
  ⟨this.2.2, this.1, this.2.1⟩
theorem gIs_ok {N : Nat} {fr ep : Int} {c : Cnf} (e : isConf c = 0) {w : World} (k : KG N fr ep c w) : Calls Try.prog 10 #[.agg #[.int .i64 fr, .int .i64 ep, .slice (some ⟨N + 3, 0, none⟩) 2 2, .slice (some ⟨N + 13, 0, none⟩) 4 4]] w (Yields w .nilIface) := k.val ▸ confIs_ok e w _ _ k.v
theorem gIs_bad {N : Nat} {fr ep : Int} {c : Cnf} {n : Nat} (x : Int) (e : isConf c = n) (h0 : n ≠ 0) (hk : (n : Int) = x) {w : World} (k : KG N fr ep c w) : Calls Try.prog 10 #[.agg #[.int .i64 fr, .int .i64 ep, .slice (some ⟨N + 3, 0, none⟩) 2 2, .slice (some ⟨N + 13, 0, none⟩) 4 4]] w (Yields w (.iface 31 (.int .i64 x))) := k.val ▸ confIs_bad x e h0 hk w _ _ k.v

end confLimits
end Go.Proofs.Ytgcbkhbpbmmfhaa
