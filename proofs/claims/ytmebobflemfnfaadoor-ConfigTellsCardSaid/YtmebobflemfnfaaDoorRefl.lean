/- errors.As and errors.Is at this seat's program: at the targets *api.Errno and **config.Bad, of a number, or of *Bad's one in another down to a number. Closed facts on the model's entries for internal/reflectlite, then the walks. -/
import Derived.Test.YtmebobflemfnfaaDoorCfg
import Derived.LaidEql
import Derived.Stop.Asserts
import Derived.RowKitTokens
import Derived.Deep.LoopGhost
namespace Go.Proofs.YtmebobflemfnfaaDoor
open Go Go.RowKit Go.Extern.Stop Go.Stop Go.Extern

theorem as_nil (t : Value) (w : World) :
    Calls Tryd.prog 31 #[.nilIface, t] w fun e w' => e = .returned (.bool false) ∧ w = w' := by
  go_enter Tryd.func31, Tryd.ntmps31
  go_wp2
  go_ret
  exact ⟨rfl, rfl⟩

theorem valueOfPE (t : Addr) (w : World) : (ReflectliteValue.unpack (.iface 72 (.pointer (some t)))).run Tryd.prog w = .ok (.agg #[(.pointer (some ⟨4, 72, none⟩)), .pointer (some ⟨w.heap.size, 0, none⟩), .int .u64 150]) (w.alloc (.cells #[.pointer (some t)] 72)) := by kernel_rfl
theorem typePE (a : Addr) (w : World) : (ReflectliteValue.methodAny (ReflectliteValue.valueError "reflectlite.Value.Type" 0) (fun t _ _ _ => ReflectliteType.toType t) #[(.agg #[(.pointer (some ⟨4, 72, none⟩)), .pointer (some a), .int .u64 150])]).run Tryd.prog w = .ok (.iface 62 (.agg #[(.pointer (some ⟨4, 72, none⟩))])) w := by kernel_rfl
theorem kindPE (w : World) : ((ReflectliteType.abiMethod fun t => (fun a : Nat => Value.int IntKind.u8 (a : Int)) <$> Rtype.kind t) #[(.pointer (some ⟨4, 72, none⟩))]).run Tryd.prog w = .ok (.int .u8 22) w := by kernel_rfl
theorem partsPE (a : Addr) (w : World) : (ReflectliteValue.parts (.agg #[(.pointer (some ⟨4, 72, none⟩)), .pointer (some a), .int .u64 150])).run Tryd.prog w = .ok (some (72, a, 150)) w := by kernel_rfl
theorem elemPE (w : World) : (ReflectliteType.method ReflectliteType.elem #[.agg #[(.pointer (some ⟨4, 72, none⟩))]]).run Tryd.prog w = .ok (.iface 62 (.agg #[(.pointer (some ⟨4, 32, none⟩))])) w := by kernel_rfl
theorem elemOfPE (w : World) : (Rtype.elem? 72).run Tryd.prog w = .ok (some 32) w := by kernel_rfl
theorem valueOfPB (t : Addr) (w : World) : (ReflectliteValue.unpack (.iface 73 (.pointer (some t)))).run Tryd.prog w = .ok (.agg #[(.pointer (some ⟨4, 73, none⟩)), .pointer (some ⟨w.heap.size, 0, none⟩), .int .u64 150]) (w.alloc (.cells #[.pointer (some t)] 73)) := by kernel_rfl
theorem typePB (a : Addr) (w : World) : (ReflectliteValue.methodAny (ReflectliteValue.valueError "reflectlite.Value.Type" 0) (fun t _ _ _ => ReflectliteType.toType t) #[(.agg #[(.pointer (some ⟨4, 73, none⟩)), .pointer (some a), .int .u64 150])]).run Tryd.prog w = .ok (.iface 62 (.agg #[(.pointer (some ⟨4, 73, none⟩))])) w := by kernel_rfl
theorem kindPB (w : World) : ((ReflectliteType.abiMethod fun t => (fun a : Nat => Value.int IntKind.u8 (a : Int)) <$> Rtype.kind t) #[(.pointer (some ⟨4, 73, none⟩))]).run Tryd.prog w = .ok (.int .u8 22) w := by kernel_rfl
theorem partsPB (a : Addr) (w : World) : (ReflectliteValue.parts (.agg #[(.pointer (some ⟨4, 73, none⟩)), .pointer (some a), .int .u64 150])).run Tryd.prog w = .ok (some (73, a, 150)) w := by kernel_rfl
theorem elemPB (w : World) : (ReflectliteType.method ReflectliteType.elem #[.agg #[(.pointer (some ⟨4, 73, none⟩))]]).run Tryd.prog w = .ok (.iface 62 (.agg #[(.pointer (some ⟨4, 38, none⟩))])) w := by kernel_rfl
theorem elemOfPB (w : World) : (Rtype.elem? 73).run Tryd.prog w = .ok (some 38) w := by kernel_rfl
theorem kindE (w : World) : ((ReflectliteType.abiMethod fun t => (fun a : Nat => Value.int IntKind.u8 (a : Int)) <$> Rtype.kind t) #[(.pointer (some ⟨4, 32, none⟩))]).run Tryd.prog w = .ok (.int .u8 2) w := by kernel_rfl
theorem implementsE (w : World) : (ReflectliteType.relation "Implements" ReflectliteType.implements_ #[.agg #[(.pointer (some ⟨4, 32, none⟩))], (.iface 62 (.agg #[(.pointer (some ⟨4, 24, none⟩))]))]).run Tryd.prog w = .ok (.bool true) w := by kernel_rfl
theorem typeOfE (v : Value) (w : World) : (ReflectliteType.typeOf #[.iface 32 v]).run Tryd.prog w = .ok (.iface 62 (.agg #[(.pointer (some ⟨4, 32, none⟩))])) w := by kernel_rfl
theorem assignableE (w : World) : (ReflectliteType.relation "AssignableTo" ReflectliteType.assignableTo #[.agg #[(.pointer (some ⟨4, 32, none⟩))], (.iface 62 (.agg #[(.pointer (some ⟨4, 32, none⟩))]))]).run Tryd.prog w = .ok (.bool true) w := by kernel_rfl
theorem mkE (p : Addr) (w : World) : (ReflectliteValue.mk 32 p ReflectliteValue.flagAddr).run Tryd.prog w = .ok (.agg #[(.pointer (some ⟨4, 32, none⟩)), .pointer (some p), .int .u64 386]) w := by kernel_rfl
theorem partsEa (a : Addr) (w : World) : (ReflectliteValue.parts (.agg #[(.pointer (some ⟨4, 32, none⟩)), .pointer (some a), .int .u64 386])).run Tryd.prog w = .ok (some (32, a, 386)) w := by kernel_rfl
theorem partsE (a : Addr) (w : World) : (ReflectliteValue.parts (.agg #[(.pointer (some ⟨4, 32, none⟩)), .pointer (some a), .int .u64 130])).run Tryd.prog w = .ok (some (32, a, 130)) w := by kernel_rfl
theorem directE (w : World) : (Rtype.directlyAssignable 32 32).run Tryd.prog w = .ok true w := by kernel_rfl
theorem comparableE (w : World) : (ReflectliteType.method (fun t => do Rtype.noPackHeld "Comparable" t; pure (.bool (← typeInfo t).comparable)) #[.agg #[(.pointer (some ⟨4, 32, none⟩))]]).run Tryd.prog w = .ok (.bool true) w := by kernel_rfl
theorem kindB (w : World) : ((ReflectliteType.abiMethod fun t => (fun a : Nat => Value.int IntKind.u8 (a : Int)) <$> Rtype.kind t) #[(.pointer (some ⟨4, 38, none⟩))]).run Tryd.prog w = .ok (.int .u8 22) w := by kernel_rfl
theorem implementsB (w : World) : (ReflectliteType.relation "Implements" ReflectliteType.implements_ #[.agg #[(.pointer (some ⟨4, 38, none⟩))], (.iface 62 (.agg #[(.pointer (some ⟨4, 24, none⟩))]))]).run Tryd.prog w = .ok (.bool true) w := by kernel_rfl
theorem typeOfB (v : Value) (w : World) : (ReflectliteType.typeOf #[.iface 38 v]).run Tryd.prog w = .ok (.iface 62 (.agg #[(.pointer (some ⟨4, 38, none⟩))])) w := by kernel_rfl
theorem assignableB (w : World) : (ReflectliteType.relation "AssignableTo" ReflectliteType.assignableTo #[.agg #[(.pointer (some ⟨4, 38, none⟩))], (.iface 62 (.agg #[(.pointer (some ⟨4, 38, none⟩))]))]).run Tryd.prog w = .ok (.bool true) w := by kernel_rfl
theorem mkB (p : Addr) (w : World) : (ReflectliteValue.mk 38 p ReflectliteValue.flagAddr).run Tryd.prog w = .ok (.agg #[(.pointer (some ⟨4, 38, none⟩)), .pointer (some p), .int .u64 406]) w := by kernel_rfl
theorem partsBa (a : Addr) (w : World) : (ReflectliteValue.parts (.agg #[(.pointer (some ⟨4, 38, none⟩)), .pointer (some a), .int .u64 406])).run Tryd.prog w = .ok (some (38, a, 406)) w := by kernel_rfl
theorem partsB (a : Addr) (w : World) : (ReflectliteValue.parts (.agg #[(.pointer (some ⟨4, 38, none⟩)), .pointer (some a), .int .u64 150])).run Tryd.prog w = .ok (some (38, a, 150)) w := by kernel_rfl
theorem directB (w : World) : (Rtype.directlyAssignable 38 38).run Tryd.prog w = .ok true w := by kernel_rfl
theorem comparableB (w : World) : (ReflectliteType.method (fun t => do Rtype.noPackHeld "Comparable" t; pure (.bool (← typeInfo t).comparable)) #[.agg #[(.pointer (some ⟨4, 38, none⟩))]]).run Tryd.prog w = .ok (.bool true) w := by kernel_rfl
theorem assignableBE (w : World) : (ReflectliteType.relation "AssignableTo" ReflectliteType.assignableTo #[.agg #[(.pointer (some ⟨4, 38, none⟩))], (.iface 62 (.agg #[(.pointer (some ⟨4, 32, none⟩))]))]).run Tryd.prog w = .ok (.bool false) w := by kernel_rfl
theorem valueOfE (c : Int) (w : World) : (ReflectliteValue.unpack (.iface 32 (.int .i64 c))).run Tryd.prog w = .ok (.agg #[(.pointer (some ⟨4, 32, none⟩)), .pointer (some ⟨w.heap.size, 0, none⟩), .int .u64 130]) (w.alloc (.cells #[.int .i64 c] 32)) := by kernel_rfl
theorem valueOfB (p : Addr) (w : World) : (ReflectliteValue.unpack (.iface 38 (.pointer (some p)))).run Tryd.prog w = .ok (.agg #[(.pointer (some ⟨4, 38, none⟩)), .pointer (some ⟨w.heap.size, 0, none⟩), .int .u64 150]) (w.alloc (.cells #[.pointer (some p)] 38)) := by kernel_rfl
theorem methElem (h : Value) (w : World) : (Go.method 236 62 (.agg #[h]) "Elem").run Tryd.prog w = .ok (76, .agg #[h]) w := by kernel_rfl
theorem methImplements (h : Value) (w : World) : (Go.method 236 62 (.agg #[h]) "Implements").run Tryd.prog w = .ok (77, .agg #[h]) w := by kernel_rfl
theorem methAssignableTo (h : Value) (w : World) : (Go.method 236 62 (.agg #[h]) "AssignableTo").run Tryd.prog w = .ok (74, .agg #[h]) w := by kernel_rfl
theorem methComparable (h : Value) (w : World) : (Go.method 236 62 (.agg #[h]) "Comparable").run Tryd.prog w = .ok (75, .agg #[h]) w := by kernel_rfl
theorem methKind (h : Value) (w : World) : (Go.method 236 62 (.agg #[h]) "Kind").run Tryd.prog w = .ok (69, h) w := by kernel_rfl
/- (Value).Set, as far as it is needed here: it asks for both Values' parts, loads, asks whether it may be assigned, and stores. -/
theorem set_form : ∃ (K : Option (TypeId × Addr × Nat) → Option (TypeId × Addr × Nat) → Sem Value) (R : TypeId → Addr → TypeId → Addr → Value → Sem Value),
    (∀ v x, ReflectliteValue.set #[v, x] = (do let p ← ReflectliteValue.parts v; let q ← ReflectliteValue.parts x; K p q)) ∧
    (∀ dst a src b g, K (some (dst, a, 386)) (some (src, b, g)) = (do let val ← loadVar src b; let d ← Rtype.directlyAssignable dst src; if d then (do storeVar dst a val; pure (.tuple #[])) else R dst a src b val)) ∧
    (∀ dst a src b g, K (some (dst, a, 406)) (some (src, b, g)) = (do let val ← loadVar src b; let d ← Rtype.directlyAssignable dst src; if d then (do storeVar dst a val; pure (.tuple #[])) else R dst a src b val)) :=
  ⟨_, _, fun _ _ => rfl, fun _ _ _ _ _ => rfl, fun _ _ _ _ _ => rfl⟩

theorem isNilPE_run (a : Addr) (W : World) : (ReflectliteValue.method (ReflectliteValue.valueError "reflectlite.Value.IsNil" 0) ReflectliteValue.isNil #[(.agg #[(.pointer (some ⟨4, 72, none⟩)), .pointer (some a), .int .u64 150])]).run Tryd.prog W = (ReflectliteValue.isNil 72 a 150 22).run Tryd.prog W := by kernel_rfl
theorem isNilPE (a p : Addr) (W : World) (ha : W.cell? a = some (.pointer (some p))) :
    (ReflectliteValue.method (ReflectliteValue.valueError "reflectlite.Value.IsNil" 0) ReflectliteValue.isNil #[(.agg #[(.pointer (some ⟨4, 72, none⟩)), .pointer (some a), .int .u64 150])]).run Tryd.prog W = .ok (.bool false) W := by
  rw [isNilPE_run]
  simp [ReflectliteValue.isNil, loadVar, isAgg, underlying, Tryd.underlying72, ha, Result.andThen]
theorem elemVPE_run (a : Addr) (W : World) : (ReflectliteValue.method (ReflectliteValue.valueError "reflectlite.Value.Elem" 0) ReflectliteValue.elem #[(.agg #[(.pointer (some ⟨4, 72, none⟩)), .pointer (some a), .int .u64 150])]).run Tryd.prog W = (ReflectliteValue.elem 72 a 150 22).run Tryd.prog W := by kernel_rfl
theorem elemVPE (a p : Addr) (W : World) (ha : W.cell? a = some (.pointer (some p))) :
    (ReflectliteValue.method (ReflectliteValue.valueError "reflectlite.Value.Elem" 0) ReflectliteValue.elem #[(.agg #[(.pointer (some ⟨4, 72, none⟩)), .pointer (some a), .int .u64 150])]).run Tryd.prog W = .ok (.agg #[(.pointer (some ⟨4, 32, none⟩)), .pointer (some p), .int .u64 386]) W := by
  rw [elemVPE_run]
  simp [ReflectliteValue.elem, loadVar, isAgg, underlying, Tryd.underlying72, ha, Result.andThen, elemOfPE, mkE]
theorem setE (ta b : Addr) (c : Int) (old : Value) (W : World) (hb : W.cell? b = some (.int .i64 c)) (ht : W.cell? ta = some old) (hf : W.frozen? ta = false) :
    (ReflectliteValue.set #[(.agg #[(.pointer (some ⟨4, 32, none⟩)), .pointer (some ta), .int .u64 386]), (.agg #[(.pointer (some ⟨4, 32, none⟩)), .pointer (some b), .int .u64 130])]).run Tryd.prog W = .ok (.tuple #[]) (W.setCell ta (.int .i64 c)) := by
  obtain ⟨K, R, h1, h2, h3⟩ := set_form
  rw [h1]
  simp only [Sem.run_bind, partsEa, partsE, Result.andThen]
  rw [h2]
  simp [loadVar, isAgg, underlying, Tryd.underlying32, hb, Result.andThen, directE, storeVar, Value.cells, storeCells, Addr.add]
  rw [run_store Tryd.prog W ta _ _ (by rfl)]
  simp [ht, hf]

theorem isNilPB_run (a : Addr) (W : World) : (ReflectliteValue.method (ReflectliteValue.valueError "reflectlite.Value.IsNil" 0) ReflectliteValue.isNil #[(.agg #[(.pointer (some ⟨4, 73, none⟩)), .pointer (some a), .int .u64 150])]).run Tryd.prog W = (ReflectliteValue.isNil 73 a 150 22).run Tryd.prog W := by kernel_rfl
theorem isNilPB (a p : Addr) (W : World) (ha : W.cell? a = some (.pointer (some p))) :
    (ReflectliteValue.method (ReflectliteValue.valueError "reflectlite.Value.IsNil" 0) ReflectliteValue.isNil #[(.agg #[(.pointer (some ⟨4, 73, none⟩)), .pointer (some a), .int .u64 150])]).run Tryd.prog W = .ok (.bool false) W := by
  rw [isNilPB_run]
  simp [ReflectliteValue.isNil, loadVar, isAgg, underlying, Tryd.underlying73, ha, Result.andThen]
theorem elemVPB_run (a : Addr) (W : World) : (ReflectliteValue.method (ReflectliteValue.valueError "reflectlite.Value.Elem" 0) ReflectliteValue.elem #[(.agg #[(.pointer (some ⟨4, 73, none⟩)), .pointer (some a), .int .u64 150])]).run Tryd.prog W = (ReflectliteValue.elem 73 a 150 22).run Tryd.prog W := by kernel_rfl
theorem elemVPB (a p : Addr) (W : World) (ha : W.cell? a = some (.pointer (some p))) :
    (ReflectliteValue.method (ReflectliteValue.valueError "reflectlite.Value.Elem" 0) ReflectliteValue.elem #[(.agg #[(.pointer (some ⟨4, 73, none⟩)), .pointer (some a), .int .u64 150])]).run Tryd.prog W = .ok (.agg #[(.pointer (some ⟨4, 38, none⟩)), .pointer (some p), .int .u64 406]) W := by
  rw [elemVPB_run]
  simp [ReflectliteValue.elem, loadVar, isAgg, underlying, Tryd.underlying73, ha, Result.andThen, elemOfPB, mkB]
theorem setB (ta b : Addr) (c : Addr) (old : Value) (W : World) (hb : W.cell? b = some (.pointer (some c))) (ht : W.cell? ta = some old) (hf : W.frozen? ta = false) :
    (ReflectliteValue.set #[(.agg #[(.pointer (some ⟨4, 38, none⟩)), .pointer (some ta), .int .u64 406]), (.agg #[(.pointer (some ⟨4, 38, none⟩)), .pointer (some b), .int .u64 150])]).run Tryd.prog W = .ok (.tuple #[]) (W.setCell ta (.pointer (some c))) := by
  obtain ⟨K, R, h1, h2, h3⟩ := set_form
  rw [h1]
  simp only [Sem.run_bind, partsBa, partsB, Result.andThen]
  rw [h3]
  simp [loadVar, isAgg, underlying, Tryd.underlying38, hb, Result.andThen, directB, storeVar, Value.cells, storeCells, Addr.add]
  rw [run_store Tryd.prog W ta _ _ (by rfl)]
  simp [ht, hf]

end Go.Proofs.YtmebobflemfnfaaDoor
