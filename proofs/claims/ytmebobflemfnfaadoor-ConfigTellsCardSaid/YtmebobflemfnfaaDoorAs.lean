/- errors.As: of a number within *Bad's one in another, at a *api.Errno; of a *Bad, at a **config.Bad. -/
import Derived.Test.YtmebobflemfnfaaDoorRefl
import Derived.Lib.Hide
namespace Go.Proofs.YtmebobflemfnfaaDoor
open Go Go.RowKit Go.Extern.Stop Go.Stop Go.Extern

/- v is the number c, within k *Bad's, one in another. -/
def Chain (w : World) (c : Int) : Nat → Value → Prop
  | 0, v => v = .iface 32 (.int .i64 c)
  | k + 1, v => ∃ (a : Nat) (f : ByteArray) (n : Int) (e : Value), v = .iface 38 (.pointer (some ⟨a, 0, none⟩)) ∧ BadAt w a f n e ∧ Chain w c k e

theorem Chain.iface {w : World} {c : Int} : ∀ {k : Nat} {v : Value}, Chain w c k v → ∃ T x, v = .iface T x
  | 0, _, h => ⟨_, _, h⟩
  | _ + 1, _, ⟨_, _, _, _, h, _⟩ => ⟨_, _, h⟩
theorem Chain.below {w w' : World} {c : Int} {B : Nat} (hb : Below B w w') (hB : B = w.heap.size) : ∀ {k : Nat} {v : Value}, Chain w c k v → Chain w' c k v
  | 0, _, h => h
  | _ + 1, _, ⟨a, f, n, e, h, hbad, hr⟩ => ⟨a, f, n, e, h, hbad.below hb (hB ▸ hbad.lt), Chain.below hb hB hr⟩

theorem noAsB (v : Value) (w : World) : (Instr.typeAssert (.iface 38 v) 24 89 true).run Tryd.prog w = .ok (.tuple #[.nilIface, .bool false]) w := run_typeAssert_lacksB Tryd.underlying89 (by kernel_rfl) (by kernel_rfl) v _ w
theorem hasUnwrapB (v : Value) (w : World) : (Instr.typeAssert (.iface 38 v) 24 67 true).run Tryd.prog w = .ok (.tuple #[.iface 38 v, .bool true]) w := by kernel_rfl
theorem methUnwrap (v : Value) (w : World) : (Go.method 236 38 v "Unwrap").run Tryd.prog w = .ok (19, v) w := by kernel_rfl

/- What the walk of 'as' needs of the model's entries. -/
theorem as_step (w : World) (a : Nat) (e : Value) (h : w.cell? ⟨a, 2, none⟩ = some e) : Calls Tryd.prog 19 #[.pointer (some ⟨a, 0, none⟩)] w fun x w' => x = .returned e ∧ w = w' := unwrap_bad w a e h

set_option maxRecDepth 100000 in
set_option maxHeartbeats 4000000 in
theorem as_loop (w : World) (k : Nat) (v : Value) (c : Int) (t a1 : Addr) (old : Value) (hch : Chain w c k v) (ha1 : w.cell? a1 = some (.pointer (some t))) (ht : w.cell? t = some old) (hf : w.frozen? t = false) :
    Calls Tryd.prog 39 #[v, .iface 72 (.pointer (some t)), (.agg #[(.pointer (some ⟨4, 72, none⟩)), .pointer (some a1), .int .u64 150]), (.iface 62 (.agg #[(.pointer (some ⟨4, 32, none⟩))]))] w fun e w' => e = .returned (.bool true) ∧ w' = ((w.alloc (.cells #[(.pointer (some ⟨4, 72, none⟩)), .pointer (some a1), .int .u64 150] 78)).alloc (.cells #[.int .i64 c] 32)).setCell t (.int .i64 c) := by
  have h36 := @run_callFunc_extern Tryd.prog 36 _ (fun args => ReflectliteValue.unpack (args.getD 0 (.tuple #[]))) Tryd.func36 (by kernel_rfl) (by kernel_rfl) (by kernel_rfl) (by kernel_rfl)
  have h21 := @run_callFunc_extern Tryd.prog 21 _ ReflectliteType.typeOf Tryd.func21 (by kernel_rfl) (by kernel_rfl) (by kernel_rfl) (by kernel_rfl)
  have h74 := @run_callFunc_extern Tryd.prog 74 _ (ReflectliteType.relation "AssignableTo" ReflectliteType.assignableTo) Tryd.func74 (by kernel_rfl) (by kernel_rfl) (by kernel_rfl) (by kernel_rfl)
  have h42 := @run_callFunc_extern Tryd.prog 42 _ (ReflectliteValue.method (ReflectliteValue.valueError "reflectlite.Value.Elem" 0) ReflectliteValue.elem) Tryd.func42 (by kernel_rfl) (by kernel_rfl) (by kernel_rfl) (by kernel_rfl)
  have h43 := @run_callFunc_extern Tryd.prog 43 _ ReflectliteValue.set Tryd.func43 (by kernel_rfl) (by kernel_rfl) (by kernel_rfl) (by kernel_rfl)
  have tE := typeOfE
  have tB := typeOfB
  have mA := methAssignableTo
  have aE := assignableE
  have aBE := assignableBE
  have vE := valueOfE
  have nA := noAsB
  have hU := hasUnwrapB
  have mU := methUnwrap
  have htl := lt_of_cell ht
  have hal := lt_of_cell ha1
  have el := elemVPE a1 t (w.alloc (.cells #[(.pointer (some ⟨4, 72, none⟩)), .pointer (some a1), .int .u64 150] 78)) ((World.cell?_alloc_lt _ _ a1 hal).trans ha1)
  have st := setE t ⟨w.heap.size + 1, 0, none⟩ c old ((w.alloc (.cells #[(.pointer (some ⟨4, 72, none⟩)), .pointer (some a1), .int .u64 150] 78)).alloc (.cells #[.int .i64 c] 32))
    (by rw [World.cell?_alloc_at _ _ _ _ (by simp)]; rfl)
    (by rw [World.cell?_alloc_lt _ _ t (by simp; omega), World.cell?_alloc_lt _ _ t htl]; exact ht)
    (by rw [World.frozen?_alloc_old _ _ t (by simp; omega), World.frozen?_alloc_old _ _ t (Nat.ne_of_lt htl)]; exact hf)
  have HC := Lib.hid hch
  clear hch
  go_enter Tryd.func39, Tryd.ntmps39
  go_wp2_with fail
  go_loopg [0] k (fun k v wr => Chain w c k v ∧ wr = w.alloc (.cells #[(.pointer (some ⟨4, 72, none⟩)), .pointer (some a1), .int .u64 150] 78))
  case atStart => exact ⟨HC.out, rfl⟩
  case round =>
    obtain ⟨hc, rfl⟩ := hrel
    cases gk with
    | zero =>
      obtain rfl : _ = _ := hc
      go_wp2
      go_ret
      exact ⟨rfl, rfl⟩
    | succ k =>
      obtain ⟨a, f, n, e, rfl, hbad, hr⟩ := hc
      obtain ⟨T, x, rfl⟩ := hr.iface
      have hc2 := (World.cell?_alloc_lt w (.cells #[(.pointer (some ⟨4, 72, none⟩)), .pointer (some a1), .int .u64 150] 78) ⟨a, 2, none⟩ hbad.lt).trans hbad.c2
      have HR := Lib.hid hr
      clear hr
      go_wp2_with (go_at_call 19; refine (as_step _ a _ hc2).mono ?_; rintro e w' ⟨rfl, rfl⟩)
      go_roundg k
      case measure => omega
      case rel => exact ⟨HR.out, rfl⟩

set_option maxRecDepth 100000 in
set_option maxHeartbeats 4000000 in
theorem asErrno (w : World) (k : Nat) (v : Value) (c : Int) (t : Addr) (old : Value) (hch : Chain w c k v) (hg : w.cell? ⟨0, 0, none⟩ = some (.iface 62 (.agg #[(.pointer (some ⟨4, 24, none⟩))]))) (ht : w.cell? t = some old) (hf : w.frozen? t = false) :
    Calls Tryd.prog 31 #[v, .iface 72 (.pointer (some t))] w fun e w' => e = .returned (.bool true) ∧ w' = ((((w.alloc (.cells #[.pointer (some t)] 72)).alloc (.cells #[(.pointer (some ⟨4, 72, none⟩)), .pointer (some ⟨w.heap.size, 0, none⟩), .int .u64 150] 78)).alloc (.cells #[(.pointer (some ⟨4, 72, none⟩)), .pointer (some ⟨w.heap.size, 0, none⟩), .int .u64 150] 78)).alloc (.cells #[.int .i64 c] 32)).setCell t (.int .i64 c) := by
  have h36 := @run_callFunc_extern Tryd.prog 36 _ (fun args => ReflectliteValue.unpack (args.getD 0 (.tuple #[]))) Tryd.func36 (by kernel_rfl) (by kernel_rfl) (by kernel_rfl) (by kernel_rfl)
  have h37 := @run_callFunc_extern Tryd.prog 37 _ (ReflectliteValue.methodAny (ReflectliteValue.valueError "reflectlite.Value.Type" 0) (fun t _ _ _ => ReflectliteType.toType t)) Tryd.func37 (by kernel_rfl) (by kernel_rfl) (by kernel_rfl) (by kernel_rfl)
  have h38 := @run_callFunc_extern Tryd.prog 38 _ (ReflectliteValue.method (ReflectliteValue.valueError "reflectlite.Value.IsNil" 0) ReflectliteValue.isNil) Tryd.func38 (by kernel_rfl) (by kernel_rfl) (by kernel_rfl) (by kernel_rfl)
  have h69 := @run_callFunc_extern Tryd.prog 69 _ (ReflectliteType.abiMethod fun t => do pure (.int .u8 (← Rtype.kind t))) Tryd.func69 (by kernel_rfl) (by kernel_rfl) (by kernel_rfl) (by kernel_rfl)
  have h76 := @run_callFunc_extern Tryd.prog 76 _ (ReflectliteType.method ReflectliteType.elem) Tryd.func76 (by kernel_rfl) (by kernel_rfl) (by kernel_rfl) (by kernel_rfl)
  have h77 := @run_callFunc_extern Tryd.prog 77 _ (ReflectliteType.relation "Implements" ReflectliteType.implements_) Tryd.func77 (by kernel_rfl) (by kernel_rfl) (by kernel_rfl) (by kernel_rfl)
  have f6 := valueOfPE
  have f7 := typePE
  have mK := methKind
  have mE := methElem
  have mI := methImplements
  have kP := kindPE
  have kE := kindE
  have eP := elemPE
  have iE := implementsE
  have n8 := isNilPE ⟨w.heap.size, 0, none⟩ t ((w.alloc (.cells #[.pointer (some t)] 72)).alloc (.cells #[(.pointer (some ⟨4, 72, none⟩)), .pointer (some ⟨w.heap.size, 0, none⟩), .int .u64 150] 78)) (by simp)
  have hlt := lt_of_cell hg
  have htl := lt_of_cell ht
  have hg2 : ((w.alloc (.cells #[.pointer (some t)] 72)).alloc (.cells #[(.pointer (some ⟨4, 72, none⟩)), .pointer (some ⟨w.heap.size, 0, none⟩), .int .u64 150] 78)).cell? ⟨0, 0, none⟩ = some (.iface 62 (.agg #[(.pointer (some ⟨4, 24, none⟩))])) := by
    rw [World.cell?_alloc_lt _ _ ⟨0, 0, none⟩ (by simp), World.cell?_alloc_lt _ _ ⟨0, 0, none⟩ hlt]; exact hg
  have hch2 := Lib.hid (Chain.below (((Below.refl _ _).alloc (Nat.le_refl _) (.cells #[.pointer (some t)] 72)).alloc (by simp) (.cells #[(.pointer (some ⟨4, 72, none⟩)), .pointer (some ⟨w.heap.size, 0, none⟩), .int .u64 150] 78)) rfl hch)
  have q1 : ((w.alloc (.cells #[.pointer (some t)] 72)).alloc (.cells #[(.pointer (some ⟨4, 72, none⟩)), .pointer (some ⟨w.heap.size, 0, none⟩), .int .u64 150] 78)).cell? ⟨w.heap.size, 0, none⟩ = some (.pointer (some t)) := by rw [World.cell?_alloc_lt _ _ _ (by simp)]; simp
  have q2 : ((w.alloc (.cells #[.pointer (some t)] 72)).alloc (.cells #[(.pointer (some ⟨4, 72, none⟩)), .pointer (some ⟨w.heap.size, 0, none⟩), .int .u64 150] 78)).cell? t = some old := by rw [World.cell?_alloc_lt _ _ t (by simp; omega), World.cell?_alloc_lt _ _ t htl]; exact ht
  have q3 : ((w.alloc (.cells #[.pointer (some t)] 72)).alloc (.cells #[(.pointer (some ⟨4, 72, none⟩)), .pointer (some ⟨w.heap.size, 0, none⟩), .int .u64 150] 78)).frozen? t = false := by rw [World.frozen?_alloc_old _ _ t (by simp; omega), World.frozen?_alloc_old _ _ t (Nat.ne_of_lt htl)]; exact hf
  obtain ⟨T, x, rfl⟩ := hch.iface
  clear hch
  go_enter Tryd.func31, Tryd.ntmps31
  go_wp2_with (go_at_call 39; refine (as_loop _ k _ c t ⟨w.heap.size, 0, none⟩ old hch2.out q1 q2 q3).mono ?_; rintro e w' ⟨rfl, rfl⟩)
  go_wp2
  go_ret
  exact ⟨rfl, rfl⟩

set_option maxRecDepth 100000 in
set_option maxHeartbeats 4000000 in
theorem asBad (w : World) (p t : Addr) (old : Value) (hg : w.cell? ⟨0, 0, none⟩ = some (.iface 62 (.agg #[(.pointer (some ⟨4, 24, none⟩))]))) (ht : w.cell? t = some old) (hf : w.frozen? t = false) :
    Calls Tryd.prog 31 #[.iface 38 (.pointer (some p)), .iface 73 (.pointer (some t))] w fun e w' => e = .returned (.bool true) ∧ w' = ((((w.alloc (.cells #[.pointer (some t)] 73)).alloc (.cells #[(.pointer (some ⟨4, 73, none⟩)), .pointer (some ⟨w.heap.size, 0, none⟩), .int .u64 150] 78)).alloc (.cells #[(.pointer (some ⟨4, 73, none⟩)), .pointer (some ⟨w.heap.size, 0, none⟩), .int .u64 150] 78)).alloc (.cells #[.pointer (some p)] 38)).setCell t (.pointer (some p)) := by
  have h36 := @run_callFunc_extern Tryd.prog 36 _ (fun args => ReflectliteValue.unpack (args.getD 0 (.tuple #[]))) Tryd.func36 (by kernel_rfl) (by kernel_rfl) (by kernel_rfl) (by kernel_rfl)
  have h37 := @run_callFunc_extern Tryd.prog 37 _ (ReflectliteValue.methodAny (ReflectliteValue.valueError "reflectlite.Value.Type" 0) (fun t _ _ _ => ReflectliteType.toType t)) Tryd.func37 (by kernel_rfl) (by kernel_rfl) (by kernel_rfl) (by kernel_rfl)
  have h38 := @run_callFunc_extern Tryd.prog 38 _ (ReflectliteValue.method (ReflectliteValue.valueError "reflectlite.Value.IsNil" 0) ReflectliteValue.isNil) Tryd.func38 (by kernel_rfl) (by kernel_rfl) (by kernel_rfl) (by kernel_rfl)
  have h69 := @run_callFunc_extern Tryd.prog 69 _ (ReflectliteType.abiMethod fun t => do pure (.int .u8 (← Rtype.kind t))) Tryd.func69 (by kernel_rfl) (by kernel_rfl) (by kernel_rfl) (by kernel_rfl)
  have h76 := @run_callFunc_extern Tryd.prog 76 _ (ReflectliteType.method ReflectliteType.elem) Tryd.func76 (by kernel_rfl) (by kernel_rfl) (by kernel_rfl) (by kernel_rfl)
  have h77 := @run_callFunc_extern Tryd.prog 77 _ (ReflectliteType.relation "Implements" ReflectliteType.implements_) Tryd.func77 (by kernel_rfl) (by kernel_rfl) (by kernel_rfl) (by kernel_rfl)
  have h21 := @run_callFunc_extern Tryd.prog 21 _ ReflectliteType.typeOf Tryd.func21 (by kernel_rfl) (by kernel_rfl) (by kernel_rfl) (by kernel_rfl)
  have h74 := @run_callFunc_extern Tryd.prog 74 _ (ReflectliteType.relation "AssignableTo" ReflectliteType.assignableTo) Tryd.func74 (by kernel_rfl) (by kernel_rfl) (by kernel_rfl) (by kernel_rfl)
  have h42 := @run_callFunc_extern Tryd.prog 42 _ (ReflectliteValue.method (ReflectliteValue.valueError "reflectlite.Value.Elem" 0) ReflectliteValue.elem) Tryd.func42 (by kernel_rfl) (by kernel_rfl) (by kernel_rfl) (by kernel_rfl)
  have h43 := @run_callFunc_extern Tryd.prog 43 _ ReflectliteValue.set Tryd.func43 (by kernel_rfl) (by kernel_rfl) (by kernel_rfl) (by kernel_rfl)
  have f6 := valueOfPB
  have f7 := typePB
  have mK := methKind
  have mE := methElem
  have mI := methImplements
  have kP := kindPB
  have kE := kindB
  have eP := elemPB
  have iE := implementsB
  have n8 := isNilPB ⟨w.heap.size, 0, none⟩ t ((w.alloc (.cells #[.pointer (some t)] 73)).alloc (.cells #[(.pointer (some ⟨4, 73, none⟩)), .pointer (some ⟨w.heap.size, 0, none⟩), .int .u64 150] 78)) (by simp)
  have hlt := lt_of_cell hg
  have htl := lt_of_cell ht
  have hg2 : ((w.alloc (.cells #[.pointer (some t)] 73)).alloc (.cells #[(.pointer (some ⟨4, 73, none⟩)), .pointer (some ⟨w.heap.size, 0, none⟩), .int .u64 150] 78)).cell? ⟨0, 0, none⟩ = some (.iface 62 (.agg #[(.pointer (some ⟨4, 24, none⟩))])) := by
    rw [World.cell?_alloc_lt _ _ ⟨0, 0, none⟩ (by simp), World.cell?_alloc_lt _ _ ⟨0, 0, none⟩ hlt]; exact hg
  have tO := typeOfB
  have mA := methAssignableTo
  have aB := assignableB
  have vB := valueOfB
  have el := elemVPB ⟨w.heap.size, 0, none⟩ t (((w.alloc (.cells #[.pointer (some t)] 73)).alloc (.cells #[(.pointer (some ⟨4, 73, none⟩)), .pointer (some ⟨w.heap.size, 0, none⟩), .int .u64 150] 78)).alloc (.cells #[(.pointer (some ⟨4, 73, none⟩)), .pointer (some ⟨w.heap.size, 0, none⟩), .int .u64 150] 78)) (by rw [World.cell?_alloc_lt _ _ ⟨w.heap.size, 0, none⟩ (by simp; omega)]; simp)
  have st := setB t ⟨w.heap.size + 1 + 1 + 1, 0, none⟩ p old ((((w.alloc (.cells #[.pointer (some t)] 73)).alloc (.cells #[(.pointer (some ⟨4, 73, none⟩)), .pointer (some ⟨w.heap.size, 0, none⟩), .int .u64 150] 78)).alloc (.cells #[(.pointer (some ⟨4, 73, none⟩)), .pointer (some ⟨w.heap.size, 0, none⟩), .int .u64 150] 78)).alloc (.cells #[.pointer (some p)] 38))
    (by rw [World.cell?_alloc_at _ _ _ _ (by simp)]; rfl)
    (by rw [World.cell?_alloc_lt _ _ t (by simp; omega), World.cell?_alloc_lt _ _ t (by simp; omega), World.cell?_alloc_lt _ _ t (by simp; omega), World.cell?_alloc_lt _ _ t htl]; exact ht)
    (by rw [World.frozen?_alloc_old _ _ t (by simp; omega), World.frozen?_alloc_old _ _ t (by simp; omega), World.frozen?_alloc_old _ _ t (by simp; omega), World.frozen?_alloc_old _ _ t (Nat.ne_of_lt htl)]; exact hf)
  go_enter Tryd.func31, Tryd.ntmps31
  go_wp2
  refine wp_loop_rounds 1 ?_
  rw [rounds_succ]
  go_wp2
  go_ret
  exact ⟨rfl, rfl⟩
end Go.Proofs.YtmebobflemfnfaaDoor
