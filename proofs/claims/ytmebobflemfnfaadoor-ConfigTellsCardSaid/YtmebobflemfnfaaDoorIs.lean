/- errors.Is of a number within *Bad's one in another, against a number. -/
import Derived.Test.YtmebobflemfnfaaDoorAs
namespace Go.Proofs.YtmebobflemfnfaaDoor
open Go Go.RowKit Go.Extern.Stop Go.Stop Go.Extern

theorem compE : (Tryd.prog.info? 32).map (·.comparable) = some true := by kernel_rfl
/- Two errors of the type Errno are the same if the numbers are. -/
theorem eqlEE (w : World) (a b : Int) : (binOp .eql 24 (.iface 32 (.int .i64 a)) (.iface 32 (.int .i64 b))).run Tryd.prog w = .ok (.bool (a == b)) w := by
  obtain ⟨i, hi, hc⟩ := Option.map_eq_some_iff.1 compE
  have h : ∀ d : Nat, (Op.equalIn (d + 2) 24 (.iface 32 (.int .i64 a)) (.iface 32 (.int .i64 b))).run Tryd.prog w = .ok (a == b) w := fun d => by
    simp [Op.equalIn, run_underlying Tryd.underlying24, run_underlying Tryd.underlying32, typeInfo, hi, hc]
  simp only [binOp]
  simp [Op.equal, Op.maxDepth, h 9998]
theorem eqlBE (w : World) (a b : Value) : (binOp .eql 24 (.iface 38 a) (.iface 32 b)).run Tryd.prog w = .ok (.bool false) w := by
  have h : ∀ d : Nat, (Op.equalIn (d + 1) 24 (.iface 38 a) (.iface 32 b)).run Tryd.prog w = .ok false w := fun d => by
    simp [Op.equalIn, run_underlying Tryd.underlying24]
  simp only [binOp]
  simp [Op.equal, Op.maxDepth, h 9999]
theorem compE2 (w : World) : (ReflectliteType.method (fun t => do Rtype.noPackHeld "Comparable" t; (fun a => Value.bool a.comparable) <$> typeInfo t) #[.agg #[(.pointer (some ⟨4, 32, none⟩))]]).run Tryd.prog w = .ok (.bool true) w := by kernel_rfl
theorem noIsB (v : Value) (w : World) : (Instr.typeAssert (.iface 38 v) 24 64 true).run Tryd.prog w = .ok (.tuple #[.nilIface, .bool false]) w := run_typeAssert_lacksB Tryd.underlying64 (by kernel_rfl) (by kernel_rfl) v _ w
theorem noIsE (v : Value) (w : World) : (Instr.typeAssert (.iface 32 v) 24 64 true).run Tryd.prog w = .ok (.tuple #[.nilIface, .bool false]) w := run_typeAssert_lacksB Tryd.underlying64 (by kernel_rfl) (by kernel_rfl) v _ w
theorem noUnwrapE (v : Value) (w : World) : (Instr.typeAssert (.iface 32 v) 24 67 true).run Tryd.prog w = .ok (.tuple #[.nilIface, .bool false]) w := run_typeAssert_lacksB Tryd.underlying67 (by kernel_rfl) (by kernel_rfl) v _ w
theorem noUnwrapsE (v : Value) (w : World) : (Instr.typeAssert (.iface 32 v) 24 68 true).run Tryd.prog w = .ok (.tuple #[.nilIface, .bool false]) w := run_typeAssert_lacksB Tryd.underlying68 (by kernel_rfl) (by kernel_rfl) v _ w

set_option maxRecDepth 100000 in
set_option maxHeartbeats 4000000 in
theorem is_loop (w : World) (k : Nat) (v : Value) (c d : Int) (hch : Chain w c k v) (b : Bool) (hcd : (c == d) = b) :
    Calls Tryd.prog 22 #[v, .iface 32 (.int .i64 d), .bool true] w fun e w' => e = .returned (.bool b) ∧ w = w' := by
  have qE := eqlEE
  have qB := eqlBE
  have n1 := noIsB
  have n2 := noIsE
  have n3 := noUnwrapE
  have n4 := noUnwrapsE
  have hU := hasUnwrapB
  have mU := methUnwrap
  have HC := Lib.hid hch
  clear hch
  go_enter Tryd.func22, Tryd.ntmps22
  go_wp2_with fail
  go_loopg [0] k (fun k v wr => Chain w c k v ∧ w = wr)
  case atStart => exact ⟨HC.out, rfl⟩
  case round =>
    obtain ⟨hc, rfl⟩ := hrel
    cases gk with
    | zero =>
      obtain rfl : _ = _ := hc
      cases b
      all_goals
        go_wp2
        go_ret
        exact ⟨rfl, rfl⟩
    | succ k =>
      obtain ⟨a, f, n, e, rfl, hbad, hr⟩ := hc
      obtain ⟨T, x, rfl⟩ := hr.iface
      have hc2 := hbad.c2
      have HR := Lib.hid hr
      clear hr
      go_wp2_with (go_at_call 19; refine (as_step _ a _ hc2).mono ?_; rintro e w' ⟨rfl, rfl⟩)
      go_roundg k
      case measure => omega
      case rel => exact ⟨HR.out, rfl⟩

set_option maxRecDepth 100000 in
set_option maxHeartbeats 4000000 in
theorem is_chain (w : World) (k : Nat) (v : Value) (c d : Int) (hch : Chain w c k v) (b : Bool) (hcd : (c == d) = b) :
    Calls Tryd.prog 13 #[v, .iface 32 (.int .i64 d)] w fun e w' => e = .returned (.bool b) ∧ w = w' := by
  have h21 := @run_callFunc_extern Tryd.prog 21 _ ReflectliteType.typeOf Tryd.func21 (by kernel_rfl) (by kernel_rfl) (by kernel_rfl) (by kernel_rfl)
  have h75 := @run_callFunc_extern Tryd.prog 75 _ (ReflectliteType.method (fun t => do Rtype.noPackHeld "Comparable" t; pure (.bool (← typeInfo t).comparable))) Tryd.func75 (by kernel_rfl) (by kernel_rfl) (by kernel_rfl) (by kernel_rfl)
  have tE := typeOfE
  have mC := methComparable
  have cE := compE2
  have HC := Lib.hid hch
  have HD := Lib.hid hcd
  obtain ⟨T, x, rfl⟩ := hch.iface
  clear hch hcd
  go_enter Tryd.func13, Tryd.ntmps13
  go_wp2_with (go_at_call 22; refine (is_loop _ k _ c d HC.out b HD.out).mono ?_; rintro e w' ⟨rfl, rfl⟩)
  go_ret
  exact ⟨rfl, rfl⟩
end Go.Proofs.YtmebobflemfnfaaDoor
