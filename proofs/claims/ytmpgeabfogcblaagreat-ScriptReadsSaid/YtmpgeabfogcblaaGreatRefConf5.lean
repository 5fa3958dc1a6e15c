/- The document's own Ticks; how wide a configuration is. -/
import Derived.Test.YtmpgeabfogcblaaGreatRefConf4
namespace Go.Proofs.YtmpgeabfogcblaaGreat
open Go.RowKit

theorem isConf_0 {c : Cnf} (h : isConf c = 0) : formB c = true ∧ sharesB c = true ∧ c.doms.all quotaB = true ∧ domsB c 0 c.doms = true := by
  unfold isConf at h
  cases h1 : formB c <;> cases h2 : sharesB c <;> cases h3 : c.doms.all quotaB <;> cases h4 : domsB c 0 c.doms <;> simp [h1, h2, h3, h4] at h ⊢
theorem isConf_small {c : Cnf} (h : isConf c = 0) : 1 ≤ c.frame ∧ c.frame ≤ 64 ∧ 1 ≤ c.epoch ∧ c.epoch ≤ 8 := by
  have := (isConf_0 h).1
  simp only [formB, Bool.and_eq_true, withB_iff] at this
  omega
theorem isConf_to {c : Cnf} {n : Nat} (e : isConf c = n) (w : World) (pv dv : Value) (hc : ConfV w c pv dv) (hr : ∀ d ∈ c.doms, ∀ r ∈ d.routes, r.length ≤ 300) :
    Calls Tryz.prog 49 #[confV c pv dv] w (Yields w (.int .i64 n)) := e ▸ isConf_any w c pv dv hc hr

end Go.Proofs.YtmpgeabfogcblaaGreat
