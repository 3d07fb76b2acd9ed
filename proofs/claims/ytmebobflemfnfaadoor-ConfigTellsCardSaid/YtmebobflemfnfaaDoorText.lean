/- config.textOf of a number, and the closure that it defers. -/
import Derived.Test.YtmebobflemfnfaaDoorCfg
import Derived.Defers
import Derived.Recover
namespace Go.Proofs.YtmebobflemfnfaaDoor
open Go Go.RowKit

/- The deferred closure where nothing panics: recover finds nothing. -/
theorem textOf_idle (p : Addr) (w : World) :
    CallsD Tryd.prog 35 #[.pointer (some p)] .returning w fun e u' w' => e = .returned (.tuple #[]) ∧ u' = .returning ∧ w' = w := by
  refine callsD_of_wpS Tryd.func35 rfl fun c₀ cs hu => ?_
  apply wpS_seq
  apply wpS_region
  simp [wpOpsS, go_sem, recoverD, hu, Tryd.ntmps35, Exit.thenS]
  refine wpS_cond (t := false) (by simp [Act.eval, Array.replicate]) ?_
  simp only [Bool.false_eq_true, if_false]
  refine wpS_of_wp (wp_skip ?_)
  cases c₀
  simp_all [bodyPostS, results, Tryd.results35]

set_option maxRecDepth 100000 in
theorem textOf_errno (w : World) (c : Int) (h : c = 1 ∨ c = 2 ∨ c = 3) :
    Calls Tryd.prog 28 #[.iface 32 (.int .i64 c)] w fun e w' => e = .returned (.string (enText c)) ∧ w' = w.alloc (.cells #[.string (enText c)] 9) := by
  have hmf : ∀ (fn : Fn) (first cap : Array Value) (w : World), (Instr.makeFunc fn first cap).run Tryd.prog w = .ok (.func fn first cap) w := fun _ _ _ _ => rfl
  have hm : ∀ (v : Value) (w : World), (method 236 32 v "Error").run Tryd.prog w = .ok (18, v) w := fun _ _ => by kernel_rfl
  go_enter_defers Tryd.func28, Tryd.ntmps28
  go_wp2_with (go_at_call 18; refine (errno_text _ c h).mono ?_; rintro e w' ⟨rfl, rfl⟩)
  refine leaves_cons (f := 35) (args := #[.pointer (some ⟨w.heap.size, 0, none⟩)]) (by simp) (by simp [go_sem]) ?_
  refine (textOf_idle ⟨w.heap.size, 0, none⟩ _).mono ?_
  rintro e u' w'' ⟨rfl, rfl, rfl⟩
  simp [Leaves, settle, results, Tryd.results28, go_sem]
end Go.Proofs.YtmebobflemfnfaaDoor
