/- The document's own Ticks; how wide a configuration is. -/
import Derived.Test.YtgcbkhbpbmmfhaaDoorRefConf4
namespace Go.Proofs.YtgcbkhbpbmmfhaaDoor
open Go.RowKit

theorem isConf_0 {c : Cnf} (h : isConf c = 0) : formB c = true ∧ sharesB c = true ∧ c.doms.all quotaB = true ∧ domsB c 0 c.doms = true := by
  unfold isConf at h
  cases h1 : formB c <;> cases h2 : sharesB c <;> cases h3 : c.doms.all quotaB <;> cases h4 : domsB c 0 c.doms <;> simp [h1, h2, h3, h4] at h ⊢
theorem isConf_small {c : Cnf} (h : isConf c = 0) : 1 ≤ c.frame ∧ c.frame ≤ 64 ∧ 1 ≤ c.epoch ∧ c.epoch ≤ 8 := by
  have := (isConf_0 h).1
  simp only [formB, Bool.and_eq_true, withB_iff] at this
  omega
theorem isConf_to {c : Cnf} {n : Nat} (e : isConf c = n) (w : World) (pv dv : Value) (hc : ConfV w c pv dv) (hr : ∀ d ∈ c.doms, ∀ r ∈ d.routes, r.length ≤ 300) :
    Calls Tryd.prog 8 #[confV c pv dv] w (Yields w (.int .i64 n)) := e ▸ isConf_any w c pv dv hc hr

set_option maxRecDepth 100000 in
set_option maxHeartbeats 1000000 in
theorem ticks_any (w : World) (c : Cnf) (pv dv : Value) (hc : ConfV w c pv dv) (hr : ∀ d ∈ c.doms, ∀ r ∈ d.routes, r.length ≤ 300) :
    Calls Tryd.prog 10 #[confV c pv dv] w (Yields w (.int .i64 (ticksN c))) := by
  have HC := hid hc
  have HR := hid hr
  have hb : ∀ T, Ext w (w.alloc (.cells #[.int .i64 c.frame, .int .i64 c.epoch, pv, dv] T (0, 0))) := fun T => Ext.alloc (Ext.refl _) _
  obtain ⟨pp, cp, rfl, -, -⟩ := hc.plans.shape
  obtain ⟨pd, cd, rfl, -, -⟩ := hc.doms.shape
  have HV := hid (hc.ext (hb 25))
  clear hc hr hb
  cases hn : isConf c with
  | zero =>
    obtain ⟨s1, s2, s3, s4⟩ := isConf_small hn
    have hm1 : (0 : Int) ≤ c.frame * c.epoch := Int.mul_nonneg (by omega) (by omega)
    have hm2 : c.frame * c.epoch ≤ 64 * 8 := Int.mul_le_mul s2 s4 (by omega) (by omega)
    have HN := hid hn
    clear hn
    go_enter Tryd.func10, Tryd.ntmps10
    go_wp2_with (go_at_call 8; refine (isConf_to HN.out _ _ _ HV.out HR.out).yields ?_; intro p0)
    go_returns
    exact ⟨by simp [ticksN, HN.out], (by repeat (first | exact Ext.refl _ | assumption | refine Ext.more ?_ _ | refine Ext.drew ?_ | refine Ext.drewN ?_ _ | refine Ext.alloc ?_ _ | refine Ext.setCell ?_ (by simp; try omega) _ | refine Ext.trans ?_ (by assumption)))⟩
  | succ m =>
    have HN := hid hn
    clear hn
    have hm : (((m + 1 : Nat) : Int) == 0) = false := by simp; omega
    have hm' : (((m + 1 : Nat) : Int) != 0) = true := by simp; omega
    go_enter Tryd.func10, Tryd.ntmps10
    go_wp2_with (go_at_call 8; refine (isConf_to HN.out _ _ _ HV.out HR.out).yields ?_; intro p0)
    go_returns
    exact ⟨by simp [ticksN, HN.out], (by repeat (first | exact Ext.refl _ | assumption | refine Ext.more ?_ _ | refine Ext.drew ?_ | refine Ext.drewN ?_ _ | refine Ext.alloc ?_ _ | refine Ext.setCell ?_ (by simp; try omega) _ | refine Ext.trans ?_ (by assumption)))⟩
end Go.Proofs.YtgcbkhbpbmmfhaaDoor
