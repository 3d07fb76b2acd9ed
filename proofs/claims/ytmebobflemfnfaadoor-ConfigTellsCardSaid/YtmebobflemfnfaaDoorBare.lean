/- Code of a *Bad without an error: ErrForm. -/
import Derived.Test.YtmebobflemfnfaaDoorCode
namespace Go.Proofs.YtmebobflemfnfaaDoor
open Go Go.RowKit Go.Extern.Stop Go.Stop Go.Extern

set_option maxRecDepth 100000 in
set_option maxHeartbeats 4000000 in
theorem as_loop_bare (w : World) (a : Nat) (f : ByteArray) (n : Int) (t a1 : Addr) (hbad : BadAt w a f n .nilIface) :
    Calls Tryd.prog 39 #[.iface 38 (.pointer (some ⟨a, 0, none⟩)), .iface 72 (.pointer (some t)), (.agg #[(.pointer (some ⟨4, 72, none⟩)), .pointer (some a1), .int .u64 150]), (.iface 62 (.agg #[(.pointer (some ⟨4, 32, none⟩))]))] w fun e w' => e = .returned (.bool false) ∧ w' = (w.alloc (.cells #[(.pointer (some ⟨4, 72, none⟩)), .pointer (some a1), .int .u64 150] 78)) := by
  have h21 := @run_callFunc_extern Tryd.prog 21 _ ReflectliteType.typeOf Tryd.func21 (by kernel_rfl) (by kernel_rfl) (by kernel_rfl) (by kernel_rfl)
  have h74 := @run_callFunc_extern Tryd.prog 74 _ (ReflectliteType.relation "AssignableTo" ReflectliteType.assignableTo) Tryd.func74 (by kernel_rfl) (by kernel_rfl) (by kernel_rfl) (by kernel_rfl)
  have tB := typeOfB
  have mA := methAssignableTo
  have aBE := assignableBE
  have nA := noAsB
  have hU := hasUnwrapB
  have mU := methUnwrap
  have hc2 := (World.cell?_alloc_lt w (.cells #[(.pointer (some ⟨4, 72, none⟩)), .pointer (some a1), .int .u64 150] 78) ⟨a, 2, none⟩ hbad.lt).trans hbad.c2
  clear hbad
  go_enter Tryd.func39, Tryd.ntmps39
  go_wp2_with fail
  refine wp_loop_rounds 1 ?_
  rw [rounds_succ]
  go_wp2_with (go_at_call 19; refine (as_step _ a _ hc2).mono ?_; rintro e w' ⟨rfl, rfl⟩)
  go_ret
  exact ⟨rfl, rfl⟩

set_option maxRecDepth 100000 in
set_option maxHeartbeats 4000000 in
theorem asErrno_bare (w : World) (a : Nat) (f : ByteArray) (n : Int) (t : Addr) (hbad : BadAt w a f n .nilIface) (hg : w.cell? ⟨0, 0, none⟩ = some (.iface 62 (.agg #[(.pointer (some ⟨4, 24, none⟩))]))) :
    Calls Tryd.prog 31 #[.iface 38 (.pointer (some ⟨a, 0, none⟩)), .iface 72 (.pointer (some t))] w fun e w' => e = .returned (.bool false) ∧ w' = ((w.alloc (.cells #[.pointer (some t)] 72)).alloc (.cells #[(.pointer (some ⟨4, 72, none⟩)), .pointer (some ⟨w.heap.size, 0, none⟩), .int .u64 150] 78)).alloc (.cells #[(.pointer (some ⟨4, 72, none⟩)), .pointer (some ⟨w.heap.size, 0, none⟩), .int .u64 150] 78) := by
  have h36 := @run_callFunc_extern Tryd.prog 36 _ (fun args => ReflectliteValue.unpack (args.getD 0 (.tuple #[]))) Tryd.func36 (by kernel_rfl) (by kernel_rfl) (by kernel_rfl) (by kernel_rfl)
  have h37 := @run_callFunc_extern Tryd.prog 37 _ (ReflectliteValue.methodAny (ReflectliteValue.valueError "reflectlite.Value.Type" 0) (fun t _ _ _ => ReflectliteType.toType t)) Tryd.func37 (by kernel_rfl) (by kernel_rfl) (by kernel_rfl) (by kernel_rfl)
  have h38 := @run_callFunc_extern Tryd.prog 38 _ (ReflectliteValue.method (ReflectliteValue.valueError "reflectlite.Value.IsNil" 0) ReflectliteValue.isNil) Tryd.func38 (by kernel_rfl) (by kernel_rfl) (by kernel_rfl) (by kernel_rfl)
  have h69 := @run_callFunc_extern Tryd.prog 69 _ (ReflectliteType.abiMethod fun t => do pure (.int .u8 (← Rtype.kind t))) Tryd.func69 (by kernel_rfl) (by kernel_rfl) (by kernel_rfl) (by kernel_rfl)
  have h76 := @run_callFunc_extern Tryd.prog 76 _ (ReflectliteType.method ReflectliteType.elem) Tryd.func76 (by kernel_rfl) (by kernel_rfl) (by kernel_rfl) (by kernel_rfl)
  have h77 := @run_callFunc_extern Tryd.prog 77 _ (ReflectliteType.relation "Implements" ReflectliteType.implements_) Tryd.func77 (by kernel_rfl) (by kernel_rfl) (by kernel_rfl) (by kernel_rfl)
  have f6 := valueOfPE
  have f7 := typePE
  have mK := methKind
  have mE := methElem
  have mI := methImplements
  have kP := kindPE
  have kE := kindE
  have eP := elemPE
  have iE := implementsE
  have n8 := isNilPE ⟨w.heap.size, 0, none⟩ t ((w.alloc (.cells #[.pointer (some t)] 72)).alloc (.cells #[(.pointer (some ⟨4, 72, none⟩)), .pointer (some ⟨w.heap.size, 0, none⟩), .int .u64 150] 78)) (by simp)
  have hlt := lt_of_cell hg
  have hg2 : ((w.alloc (.cells #[.pointer (some t)] 72)).alloc (.cells #[(.pointer (some ⟨4, 72, none⟩)), .pointer (some ⟨w.heap.size, 0, none⟩), .int .u64 150] 78)).cell? ⟨0, 0, none⟩ = some (.iface 62 (.agg #[(.pointer (some ⟨4, 24, none⟩))])) := by
    rw [World.cell?_alloc_lt _ _ ⟨0, 0, none⟩ (by simp), World.cell?_alloc_lt _ _ ⟨0, 0, none⟩ hlt]; exact hg
  have HB2 := Lib.hid (hbad.below (((Below.refl w.heap.size w).alloc (Nat.le_refl _) (.cells #[.pointer (some t)] 72)).alloc (by simp) (.cells #[(.pointer (some ⟨4, 72, none⟩)), .pointer (some ⟨w.heap.size, 0, none⟩), .int .u64 150] 78)) hbad.lt)
  clear hbad
  go_enter Tryd.func31, Tryd.ntmps31
  go_wp2_with (go_at_call 39; refine (as_loop_bare _ a f n t ⟨w.heap.size, 0, none⟩ HB2.out).mono ?_; rintro e w' ⟨rfl, rfl⟩)
  go_wp2
  go_ret
  exact ⟨rfl, rfl⟩

set_option maxRecDepth 100000 in
set_option maxHeartbeats 4000000 in
theorem numberIn_bare (w : World) (a : Nat) (f : ByteArray) (n : Int) (hbad : BadAt w a f n .nilIface) (hg : ErrT w) :
    Calls Tryd.prog 23 #[.iface 38 (.pointer (some ⟨a, 0, none⟩))] w fun e w' => e = .returned (.tuple #[.int .i64 0, .bool false]) ∧ Below w.heap.size w w' := by
  have hmf : ∀ (fn : Fn) (first cap : Array Value) (w : World), (Instr.makeFunc fn first cap).run Tryd.prog w = .ok (.func fn first cap) w := fun _ _ _ _ => rfl
  have b0 := ((Below.refl w.heap.size w).alloc (Nat.le_refl _) (.cells #[.int .i64 0] 32)).alloc (by simp) (.cells #[.bool false] 4)
  have HC := Lib.hid (hbad.below b0 hbad.lt)
  have HG := Lib.hid (hg.below b0 hg.lt)
  clear hbad hg
  go_enter_defers Tryd.func23, Tryd.ntmps23
  go_wp2_with (go_at_call 31; refine (asErrno_bare _ a f n ⟨w.heap.size, 0, none⟩ HC.out HG.out).mono ?_; rintro e w' ⟨rfl, rfl⟩)
  go_region
  go_wp2
  refine leaves_cons (f := 30) (args := #[.pointer (some ⟨w.heap.size, 0, none⟩), .pointer (some ⟨w.heap.size + 1, 0, none⟩)]) (by simp) (by simp [go_sem]) ?_
  refine (number_idle ⟨w.heap.size, 0, none⟩ ⟨w.heap.size + 1, 0, none⟩ _).mono ?_
  rintro e u' w'' ⟨rfl, rfl, rfl⟩
  simp [Leaves, settle, results, Tryd.results23, go_sem]
  refine Below.drew ?_
  repeat (first | exact Below.refl _ _ | refine Below.alloc ?_ (by first | exact Nat.le_refl _ | (simp; done) | (simp; omega)) _)

set_option maxRecDepth 100000 in
theorem code_bare (w : World) (a : Nat) (f : ByteArray) (n : Int) (hbad : BadAt w a f n .nilIface) (hg : ErrT w) :
    Calls Tryd.prog 14 #[.iface 38 (.pointer (some ⟨a, 0, none⟩))] w fun e w' => e = .returned (.int .i64 3) ∧ Below w.heap.size w w' := by
  have HC := Lib.hid hbad
  have HG := Lib.hid hg
  clear hbad hg
  go_enter Tryd.func14, Tryd.ntmps14
  go_wp2_with fail
  refine (numberIn_bare _ a f n HC.out HG.out).mono ?_
  rintro e w' ⟨rfl, hb⟩
  go_wp2
  go_ret
  exact ⟨rfl, hb⟩

end Go.Proofs.YtmebobflemfnfaaDoor
