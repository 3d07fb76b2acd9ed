/- Words and walks: Cfg Refl As Is Code Laid Only RowB AppS. -/
import Derived.Test.YtcpggonengkgiaaGreatDoorProg
import Derived.WalkKit
import Derived.LaidEql
import Derived.Stop.Asserts
import Derived.RowKitTokens
import Derived.Deep.LoopGhost
import Derived.Lib.Hide
import Derived.Defers
import Derived.Recover
import Derived.Test.YtcpggonengkgiaaGreatDoorCards
import Derived.Test.YtcpggonengkgiaaGreatDoorTie
import Derived.ProofKit
import Derived.LaidMore
import Derived.OpenShut
import Derived.LaidHandle
import Derived.Stop.Joined
import Derived.SevenTiedAt
import Derived.RowKit3
import Derived.Below
import Derived.Deep.OwnRows
import Derived.Deep.Draws
import Derived.Test.YtcpggonengkgiaaGreatDoorRows
import Derived.Carry
import Derived.Deep.Slices
import Derived.Deep.Fields
import Derived.Lib.SmallJoins
import Derived.Laws.AppendOwnNone
import Derived.Maps.AppendAt
import Derived.OwnWalk
namespace Go.Proofs.YtcpggonengkgiaaGreatDoor
open Go Go.RowKit
theorem heap_alloc_bad (w:World) (o:Obj) (k:Nat) (h:k=w.heap.size):(w.alloc o).heap[k]? = some o:=by
 subst h
 show (w.heap.push o)[w.heap.size]? = some o
 simp
def BadAt (w:World) (a:Nat) (f:ByteArray) (n:Int) (e:Value):Prop :=
 w.heap[a]? = some (.cells #[.string f,.int .i64 n,e] 214 (0,0))
theorem BadAt.c0 {w:World} {a:Nat} {f:ByteArray} {n:Int} {e:Value} (h:BadAt w a f n e):w.cell? ⟨a,0,none⟩=some (.string f):=by
 unfold BadAt at h;simp [World.cell?,h]
theorem BadAt.c1 {w:World} {a:Nat} {f:ByteArray} {n:Int} {e:Value} (h:BadAt w a f n e):w.cell? ⟨a,1,none⟩=some (.int .i64 n):=by
 unfold BadAt at h;simp [World.cell?,h]
theorem BadAt.c2 {w:World} {a:Nat} {f:ByteArray} {n:Int} {e:Value} (h:BadAt w a f n e):w.cell? ⟨a,2,none⟩=some e:=by
 unfold BadAt at h;simp [World.cell?,h]
theorem BadAt.lt {w:World} {a:Nat} {f:ByteArray} {n:Int} {e:Value} (h:BadAt w a f n e):a < w.heap.size:=by
 rcases Nat.lt_or_ge a w.heap.size with h' | h'
 ·exact h'
 ·unfold BadAt at h;simp [Array.getElem?_eq_none h'] at h
theorem BadAt.below {w w':World} {a B:Nat} {f:ByteArray} {n:Int} {e:Value} (h:BadAt w a f n e) (hb:Below B w w') (hB:a < B):BadAt w' a f n e:=by
 unfold BadAt at *;rw [hb.block a hB];exact h
theorem unwrap_bad (w:World) (a:Nat) (v:Value) (h:w.cell? ⟨a,2,none⟩=some v):Calls Tryz.prog 330 #[.pointer (some ⟨a,0,none⟩)] w fun e w'=>e = .returned v/\w=w':=by
 go_enter Tryz.func330,Tryz.ntmps330
 go_wp2
 go_ret
 exact ⟨rfl,rfl⟩
theorem lt_of_cell {w:World} {p:Addr} {v:Value} (h:w.cell? p=some v):p.block < w.heap.size:=by
 rcases Nat.lt_or_ge p.block w.heap.size with h' | h'
 ·exact h'
 ·simp [World.cell?,Array.getElem?_eq_none h'] at h
theorem ask_ok (w:World) (p:Addr) (f:ByteArray) (n m:Int) (hv:w.cell? p=some .nilIface) (h1:¬ n < 1) (h2:¬ m < n) :
  Calls Tryz.prog 131 #[.string f,.int .i64 n,.int .i64 m,.pointer (some p)] w fun e w'=>e = .returned (.tuple #[])/\w=w':=by
 go_enter Tryz.func131,Tryz.ntmps131
 go_wp2
 go_end0
 exact ⟨rfl,rfl⟩
theorem ask_bad (w:World) (p:Addr) (f:ByteArray) (n m:Int) (hv:w.cell? p=some .nilIface) (hf:w.frozen? p=false) (h:n < 1∨m < n) :
  Calls Tryz.prog 131 #[.string f,.int .i64 n,.int .i64 m,.pointer (some p)] w fun e w'=>e = .returned (.tuple #[])/\w'=(w.alloc (.cells #[.string f,.int .i64 n,.iface 57 (.int .i64 1)] 214)).setCell p (.iface 212 (.pointer (some ⟨w.heap.size,0,none⟩))):=by
 have hp:=lt_of_cell hv
 have hv2:=fun o=>(World.cell?_alloc_lt w o p hp).trans hv
 have hf2:=fun o=>(World.frozen?_alloc_old w o p (Nat.ne_of_lt hp)).trans hf
 by_cases h1:n < 1
 ·go_enter Tryz.func131,Tryz.ntmps131
  go_wp2
  go_end0
  exact ⟨rfl,rfl⟩
 ·have h2:m < n:=by omega
  go_enter Tryz.func131,Tryz.ntmps131
  go_wp2
  go_end0
  exact ⟨rfl,rfl⟩
def MayBad (w:World) (f:ByteArray) (n:Int) (e:Ending) (w':World):Prop :=
 e = .returned (.iface 212 (.pointer (some ⟨w.heap.size+1,0,none⟩)))/\BadAt w' (w.heap.size+1) f n (.iface 57 (.int .i64 1))/\Below w.heap.size w w'/\w'.heap.size=w.heap.size+2
def sPolicy:ByteArray:=⟨#[112,111,108,105,99,121]⟩
def sCapacity:ByteArray:=⟨#[99,97,112,97,99,105,116,121]⟩
theorem may_ok (w:World) (p c:Int) (h1:1<=p) (h2:p<=5) (h3:1<=c) (h4:c<=1048576) :
  Calls Tryz.prog 46 #[.int .i64 p,.int .i64 c] w fun e w'=>e = .returned .nilIface/\Below w.heap.size w w':=by
 have hmf:∀ (fn:Fn) (first cap:Array Value) (w:World),(Instr.makeFunc fn first cap).run Tryz.prog w = .ok (.func fn first cap) w:=fun _ _ _ _=>rfl
 go_enter Tryz.func46,Tryz.ntmps46
 go_wp2_with fail
 refine (ask_ok _ _ _ _ _ (by simp) (by omega) (by omega)).mono ?_
 rintro e w' ⟨rfl,rfl⟩
 go_wp2_with fail
 refine (ask_ok _ _ _ _ _ (by simp) (by omega) (by omega)).mono ?_
 rintro e w' ⟨rfl,rfl⟩
 go_wp2
 go_ret
 exact ⟨rfl,(Below.refl _ _).alloc (Nat.le_refl _) _⟩
theorem mayBad_of (w:World) (f:ByteArray) (n:Int):MayBad w f n (.returned (.iface 212 (.pointer (some ⟨w.heap.size+1,0,none⟩)))) ((w.alloc (.cells #[.iface 212 (.pointer (some ⟨w.heap.size+1,0,none⟩))] 75)).alloc (.cells #[.string f,.int .i64 n,.iface 57 (.int .i64 1)] 214)):=by
 refine ⟨rfl,?_,((Below.refl _ _).alloc (Nat.le_refl _) _).alloc (by simp) _,by simp⟩
 exact heap_alloc_bad _ _ _ (by simp)
theorem may_capacity (w:World) (p c:Int) (h1:1<=p) (h2:p<=5) (h:c < 1∨1048576 < c) :
  Calls Tryz.prog 46 #[.int .i64 p,.int .i64 c] w (MayBad w sCapacity c):=by
 have hmf:∀ (fn:Fn) (first cap:Array Value) (w:World),(Instr.makeFunc fn first cap).run Tryz.prog w = .ok (.func fn first cap) w:=fun _ _ _ _=>rfl
 go_enter Tryz.func46,Tryz.ntmps46
 go_wp2_with fail
 refine (ask_ok _ _ _ _ _ (by simp) (by omega) (by omega)).mono ?_
 rintro e w' ⟨rfl,rfl⟩
 go_wp2_with fail
 refine (ask_bad _ _ _ _ _ (by simp) (by simp) h).mono ?_
 rintro e w' ⟨rfl,rfl⟩
 go_wp2
 go_ret
 exact mayBad_of w sCapacity c
end Go.Proofs.YtcpggonengkgiaaGreatDoor
namespace Go.Proofs.YtcpggonengkgiaaGreatDoor
open Go Go.RowKit Go.Extern.Stop Go.Stop Go.Extern
theorem valueOfPE (t:Addr) (w:World):(ReflectliteValue.unpack (.iface 324 (.pointer (some t)))).run Tryz.prog w = .ok (.agg #[(.pointer (some ⟨1,324,none⟩)),.pointer (some ⟨w.heap.size,0,none⟩),.int .u64 150]) (w.alloc (.cells #[.pointer (some t)] 324)):=by kernel_rfl
theorem typePE (a : Addr) (w : World) : (ReflectliteValue.methodAny (ReflectliteValue.valueError "reflectlite.Value.Type" 0) (fun t _ _ _ => ReflectliteType.toType t) #[(.agg #[(.pointer (some ⟨1, 324, none⟩)), .pointer (some a), .int .u64 150])]).run Tryz.prog w = .ok (.iface 217 (.agg #[(.pointer (some ⟨1, 324, none⟩))])) w := by kernel_rfl
theorem kindPE (w:World):((ReflectliteType.abiMethod fun t=>(fun a:Nat=>Value.int IntKind.u8 (a:Int)) <$> Rtype.kind t) #[(.pointer (some ⟨1,324,none⟩))]).run Tryz.prog w = .ok (.int .u8 22) w:=by kernel_rfl
theorem elemPE (w:World):(ReflectliteType.method ReflectliteType.elem #[.agg #[(.pointer (some ⟨1,324,none⟩))]]).run Tryz.prog w = .ok (.iface 217 (.agg #[(.pointer (some ⟨1,57,none⟩))])) w:=by kernel_rfl
theorem elemOfPE (w:World):(Rtype.elem? 324).run Tryz.prog w = .ok (some 57) w:=by kernel_rfl
theorem kindE (w:World):((ReflectliteType.abiMethod fun t=>(fun a:Nat=>Value.int IntKind.u8 (a:Int)) <$> Rtype.kind t) #[(.pointer (some ⟨1,57,none⟩))]).run Tryz.prog w = .ok (.int .u8 2) w:=by kernel_rfl
theorem implementsE (w : World) : (ReflectliteType.relation "Implements" ReflectliteType.implements_ #[.agg #[(.pointer (some ⟨1, 57, none⟩))], (.iface 217 (.agg #[(.pointer (some ⟨1, 75, none⟩))]))]).run Tryz.prog w = .ok (.bool true) w := by kernel_rfl
theorem typeOfE (v:Value) (w:World):(ReflectliteType.typeOf #[.iface 57 v]).run Tryz.prog w = .ok (.iface 217 (.agg #[(.pointer (some ⟨1,57,none⟩))])) w:=by kernel_rfl
theorem assignableE (w : World) : (ReflectliteType.relation "AssignableTo" ReflectliteType.assignableTo #[.agg #[(.pointer (some ⟨1, 57, none⟩))], (.iface 217 (.agg #[(.pointer (some ⟨1, 57, none⟩))]))]).run Tryz.prog w = .ok (.bool true) w := by kernel_rfl
theorem mkE (p:Addr) (w:World):(ReflectliteValue.mk 57 p ReflectliteValue.flagAddr).run Tryz.prog w = .ok (.agg #[(.pointer (some ⟨1,57,none⟩)),.pointer (some p),.int .u64 386]) w:=by kernel_rfl
theorem partsEa (a:Addr) (w:World):(ReflectliteValue.parts (.agg #[(.pointer (some ⟨1,57,none⟩)),.pointer (some a),.int .u64 386])).run Tryz.prog w = .ok (some (57,a,386)) w:=by kernel_rfl
theorem partsE (a:Addr) (w:World):(ReflectliteValue.parts (.agg #[(.pointer (some ⟨1,57,none⟩)),.pointer (some a),.int .u64 130])).run Tryz.prog w = .ok (some (57,a,130)) w:=by kernel_rfl
theorem directE (w:World):(Rtype.directlyAssignable 57 57).run Tryz.prog w = .ok true w:=by kernel_rfl
theorem typeOfB (v:Value) (w:World):(ReflectliteType.typeOf #[.iface 212 v]).run Tryz.prog w = .ok (.iface 217 (.agg #[(.pointer (some ⟨1,212,none⟩))])) w:=by kernel_rfl
theorem assignableBE (w : World) : (ReflectliteType.relation "AssignableTo" ReflectliteType.assignableTo #[.agg #[(.pointer (some ⟨1, 212, none⟩))], (.iface 217 (.agg #[(.pointer (some ⟨1, 57, none⟩))]))]).run Tryz.prog w = .ok (.bool false) w := by kernel_rfl
theorem valueOfE (c:Int) (w:World):(ReflectliteValue.unpack (.iface 57 (.int .i64 c))).run Tryz.prog w = .ok (.agg #[(.pointer (some ⟨1,57,none⟩)),.pointer (some ⟨w.heap.size,0,none⟩),.int .u64 130]) (w.alloc (.cells #[.int .i64 c] 57)):=by kernel_rfl
theorem methElem (h : Value) (w : World) : (Go.method 470 217 (.agg #[h]) "Elem").run Tryz.prog w = .ok (334, .agg #[h]) w := by kernel_rfl
theorem methImplements (h : Value) (w : World) : (Go.method 470 217 (.agg #[h]) "Implements").run Tryz.prog w = .ok (335, .agg #[h]) w := by kernel_rfl
theorem methAssignableTo (h : Value) (w : World) : (Go.method 470 217 (.agg #[h]) "AssignableTo").run Tryz.prog w = .ok (332, .agg #[h]) w := by kernel_rfl
theorem methComparable (h : Value) (w : World) : (Go.method 470 217 (.agg #[h]) "Comparable").run Tryz.prog w = .ok (333, .agg #[h]) w := by kernel_rfl
theorem methKind (h : Value) (w : World) : (Go.method 470 217 (.agg #[h]) "Kind").run Tryz.prog w = .ok (325, h) w := by kernel_rfl
theorem set_form:∃ (K:Option (TypeId × Addr × Nat)->Option (TypeId × Addr × Nat)->Sem Value) (R:TypeId->Addr->TypeId->Addr->Value->Sem Value),
  (∀ v x,ReflectliteValue.set #[v,x]=(do let p <- ReflectliteValue.parts v;let q <- ReflectliteValue.parts x;K p q)) /\
  (∀ dst a src b g,K (some (dst,a,386)) (some (src,b,g))=(do let val <- loadVar src b;let d <- Rtype.directlyAssignable dst src;if d then (do storeVar dst a val;pure (.tuple #[])) else R dst a src b val)) /\
  (∀ dst a src b g,K (some (dst,a,406)) (some (src,b,g))=(do let val <- loadVar src b;let d <- Rtype.directlyAssignable dst src;if d then (do storeVar dst a val;pure (.tuple #[])) else R dst a src b val)) :=
 ⟨_,_,fun _ _=>rfl,fun _ _ _ _ _=>rfl,fun _ _ _ _ _=>rfl⟩
theorem isNilPE_run (a : Addr) (W : World) : (ReflectliteValue.method (ReflectliteValue.valueError "reflectlite.Value.IsNil" 0) ReflectliteValue.isNil #[(.agg #[(.pointer (some ⟨1, 324, none⟩)), .pointer (some a), .int .u64 150])]).run Tryz.prog W = (ReflectliteValue.isNil 324 a 150 22).run Tryz.prog W := by kernel_rfl
theorem isNilPE (a p:Addr) (W:World) (ha:W.cell? a=some (.pointer (some p))) :
  (ReflectliteValue.method (ReflectliteValue.valueError "reflectlite.Value.IsNil" 0) ReflectliteValue.isNil #[(.agg #[(.pointer (some ⟨1, 324, none⟩)), .pointer (some a), .int .u64 150])]).run Tryz.prog W = .ok (.bool false) W := by
 rw [isNilPE_run]
 simp [ReflectliteValue.isNil,loadVar,isAgg,underlying,Tryz.underlying324,ha,Result.andThen]
theorem elemVPE_run (a : Addr) (W : World) : (ReflectliteValue.method (ReflectliteValue.valueError "reflectlite.Value.Elem" 0) ReflectliteValue.elem #[(.agg #[(.pointer (some ⟨1, 324, none⟩)), .pointer (some a), .int .u64 150])]).run Tryz.prog W = (ReflectliteValue.elem 324 a 150 22).run Tryz.prog W := by kernel_rfl
theorem elemVPE (a p:Addr) (W:World) (ha:W.cell? a=some (.pointer (some p))) :
  (ReflectliteValue.method (ReflectliteValue.valueError "reflectlite.Value.Elem" 0) ReflectliteValue.elem #[(.agg #[(.pointer (some ⟨1, 324, none⟩)), .pointer (some a), .int .u64 150])]).run Tryz.prog W = .ok (.agg #[(.pointer (some ⟨1, 57, none⟩)), .pointer (some p), .int .u64 386]) W := by
 rw [elemVPE_run]
 simp [ReflectliteValue.elem,loadVar,isAgg,underlying,Tryz.underlying324,ha,Result.andThen,elemOfPE,mkE]
theorem setE (ta b:Addr) (c:Int) (old:Value) (W:World) (hb:W.cell? b=some (.int .i64 c)) (ht:W.cell? ta=some old) (hf:W.frozen? ta=false) :
  (ReflectliteValue.set #[(.agg #[(.pointer (some ⟨1,57,none⟩)),.pointer (some ta),.int .u64 386]),(.agg #[(.pointer (some ⟨1,57,none⟩)),.pointer (some b),.int .u64 130])]).run Tryz.prog W = .ok (.tuple #[]) (W.setCell ta (.int .i64 c)):=by
 obtain ⟨K,R,h1,h2,h3⟩:=set_form
 rw [h1]
 simp only [Sem.run_bind,partsEa,partsE,Result.andThen]
 rw [h2]
 simp [loadVar,isAgg,underlying,Tryz.underlying57,hb,Result.andThen,directE,storeVar,Value.cells,storeCells,Addr.add]
 rw [run_store Tryz.prog W ta _ _ (by rfl)]
 simp [ht,hf]
def Chain (w:World) (c:Int):Nat->Value->Prop
 | 0,v=>v = .iface 57 (.int .i64 c)
 | k+1,v=>∃ (a:Nat) (f:ByteArray) (n:Int) (e:Value),v = .iface 212 (.pointer (some ⟨a,0,none⟩))/\BadAt w a f n e/\Chain w c k e
theorem Chain.iface {w:World} {c:Int}:∀ {k:Nat} {v:Value},Chain w c k v->∃ T x,v = .iface T x
 | 0,_,h=>⟨_,_,h⟩
 | _+1,_,⟨_,_,_,_,h,_⟩=>⟨_,_,h⟩
theorem Chain.below {w w':World} {c:Int} {B:Nat} (hb:Below B w w') (hB:B=w.heap.size):∀ {k:Nat} {v:Value},Chain w c k v->Chain w' c k v
 | 0,_,h=>h
 | _+1,_,⟨a,f,n,e,h,hbad,hr⟩=>⟨a,f,n,e,h,hbad.below hb (hB ▸ hbad.lt),Chain.below hb hB hr⟩
theorem noAsB (v:Value) (w:World):(Instr.typeAssert (.iface 212 v) 75 337 true).run Tryz.prog w = .ok (.tuple #[.nilIface,.bool false]) w:=run_typeAssert_lacksB Tryz.underlying337 (by kernel_rfl) (by kernel_rfl) v _ w
theorem hasUnwrapB (v:Value) (w:World):(Instr.typeAssert (.iface 212 v) 75 222 true).run Tryz.prog w = .ok (.tuple #[.iface 212 v,.bool true]) w:=by kernel_rfl
theorem methUnwrap (v : Value) (w : World) : (Go.method 470 212 v "Unwrap").run Tryz.prog w = .ok (330, v) w := by kernel_rfl
theorem as_step (w:World) (a:Nat) (e:Value) (h:w.cell? ⟨a,2,none⟩=some e):Calls Tryz.prog 330 #[.pointer (some ⟨a,0,none⟩)] w fun x w'=>x = .returned e/\w=w':=unwrap_bad w a e h
set_option maxRecDepth 100000 in
set_option maxHeartbeats 4000000 in
theorem as_loop (w:World) (k:Nat) (v:Value) (c:Int) (t a1:Addr) (old:Value) (hch:Chain w c k v) (ha1:w.cell? a1=some (.pointer (some t))) (ht:w.cell? t=some old) (hf:w.frozen? t=false) :
  Calls Tryz.prog 308 #[v,.iface 324 (.pointer (some t)),(.agg #[(.pointer (some ⟨1,324,none⟩)),.pointer (some a1),.int .u64 150]),(.iface 217 (.agg #[(.pointer (some ⟨1,57,none⟩))]))] w fun e w'=>e = .returned (.bool true)/\w'=((w.alloc (.cells #[(.pointer (some ⟨1,324,none⟩)),.pointer (some a1),.int .u64 150] 328)).alloc (.cells #[.int .i64 c] 57)).setCell t (.int .i64 c):=by
 have h36:=@run_callFunc_extern Tryz.prog 305 _ (fun args=>ReflectliteValue.unpack (args.getD 0 (.tuple #[]))) Tryz.func305 (by kernel_rfl) (by kernel_rfl) (by kernel_rfl) (by kernel_rfl)
 have h21:=@run_callFunc_extern Tryz.prog 47 _ ReflectliteType.typeOf Tryz.func47 (by kernel_rfl) (by kernel_rfl) (by kernel_rfl) (by kernel_rfl)
 have h74 := @run_callFunc_extern Tryz.prog 332 _ (ReflectliteType.relation "AssignableTo" ReflectliteType.assignableTo) Tryz.func332 (by kernel_rfl) (by kernel_rfl) (by kernel_rfl) (by kernel_rfl)
 have h42 := @run_callFunc_extern Tryz.prog 309 _ (ReflectliteValue.method (ReflectliteValue.valueError "reflectlite.Value.Elem" 0) ReflectliteValue.elem) Tryz.func309 (by kernel_rfl) (by kernel_rfl) (by kernel_rfl) (by kernel_rfl)
 have h43:=@run_callFunc_extern Tryz.prog 310 _ ReflectliteValue.set Tryz.func310 (by kernel_rfl) (by kernel_rfl) (by kernel_rfl) (by kernel_rfl)
 have tE:=typeOfE
 have tB:=typeOfB
 have mA:=methAssignableTo
 have aE:=assignableE
 have aBE:=assignableBE
 have vE:=valueOfE
 have nA:=noAsB
 have hU:=hasUnwrapB
 have mU:=methUnwrap
 have htl:=lt_of_cell ht
 have hal:=lt_of_cell ha1
 have el:=elemVPE a1 t (w.alloc (.cells #[(.pointer (some ⟨1,324,none⟩)),.pointer (some a1),.int .u64 150] 328)) ((World.cell?_alloc_lt _ _ a1 hal).trans ha1)
 have st:=setE t ⟨w.heap.size+1,0,none⟩ c old ((w.alloc (.cells #[(.pointer (some ⟨1,324,none⟩)),.pointer (some a1),.int .u64 150] 328)).alloc (.cells #[.int .i64 c] 57))
  (by rw [World.cell?_alloc_at _ _ _ _ (by simp)];rfl)
  (by rw [World.cell?_alloc_lt _ _ t (by simp;omega),World.cell?_alloc_lt _ _ t htl];exact ht)
  (by rw [World.frozen?_alloc_old _ _ t (by simp;omega),World.frozen?_alloc_old _ _ t (Nat.ne_of_lt htl)];exact hf)
 have HC:=Lib.hid hch
 clear hch
 go_enter Tryz.func308,Tryz.ntmps308
 go_wp2_with fail
 go_loopg [0] k (fun k v wr=>Chain w c k v/\wr=w.alloc (.cells #[(.pointer (some ⟨1,324,none⟩)),.pointer (some a1),.int .u64 150] 328))
 case atStart=>exact ⟨HC.out,rfl⟩
 case round =>
  obtain ⟨hc,rfl⟩:=hrel
  cases gk with
  | zero =>
   obtain rfl:_=_:=hc
   go_wp2
   go_ret
   exact ⟨rfl,rfl⟩
  | succ k =>
   obtain ⟨a,f,n,e,rfl,hbad,hr⟩:=hc
   obtain ⟨T,x,rfl⟩:=hr.iface
   have hc2:=(World.cell?_alloc_lt w (.cells #[(.pointer (some ⟨1,324,none⟩)),.pointer (some a1),.int .u64 150] 328) ⟨a,2,none⟩ hbad.lt).trans hbad.c2
   have HR:=Lib.hid hr
   clear hr
   go_wp2_with (go_at_call 330;refine (as_step _ a _ hc2).mono ?_;rintro e w' ⟨rfl,rfl⟩)
   go_roundg k
   case measure=>omega
   case rel=>exact ⟨HR.out,rfl⟩
set_option maxRecDepth 100000 in
set_option maxHeartbeats 4000000 in
theorem asErrno (w:World) (k:Nat) (v:Value) (c:Int) (t:Addr) (old:Value) (hch:Chain w c k v) (hg:w.cell? ⟨0,0,none⟩=some (.iface 217 (.agg #[(.pointer (some ⟨1,75,none⟩))]))) (ht:w.cell? t=some old) (hf:w.frozen? t=false) :
  Calls Tryz.prog 303 #[v,.iface 324 (.pointer (some t))] w fun e w'=>e = .returned (.bool true)/\w'=((((w.alloc (.cells #[.pointer (some t)] 324)).alloc (.cells #[(.pointer (some ⟨1,324,none⟩)),.pointer (some ⟨w.heap.size,0,none⟩),.int .u64 150] 328)).alloc (.cells #[(.pointer (some ⟨1,324,none⟩)),.pointer (some ⟨w.heap.size,0,none⟩),.int .u64 150] 328)).alloc (.cells #[.int .i64 c] 57)).setCell t (.int .i64 c):=by
 have h36:=@run_callFunc_extern Tryz.prog 305 _ (fun args=>ReflectliteValue.unpack (args.getD 0 (.tuple #[]))) Tryz.func305 (by kernel_rfl) (by kernel_rfl) (by kernel_rfl) (by kernel_rfl)
 have h37 := @run_callFunc_extern Tryz.prog 306 _ (ReflectliteValue.methodAny (ReflectliteValue.valueError "reflectlite.Value.Type" 0) (fun t _ _ _ => ReflectliteType.toType t)) Tryz.func306 (by kernel_rfl) (by kernel_rfl) (by kernel_rfl) (by kernel_rfl)
 have h38 := @run_callFunc_extern Tryz.prog 307 _ (ReflectliteValue.method (ReflectliteValue.valueError "reflectlite.Value.IsNil" 0) ReflectliteValue.isNil) Tryz.func307 (by kernel_rfl) (by kernel_rfl) (by kernel_rfl) (by kernel_rfl)
 have h69:=@run_callFunc_extern Tryz.prog 325 _ (ReflectliteType.abiMethod fun t=>do pure (.int .u8 (<- Rtype.kind t))) Tryz.func325 (by kernel_rfl) (by kernel_rfl) (by kernel_rfl) (by kernel_rfl)
 have h76:=@run_callFunc_extern Tryz.prog 334 _ (ReflectliteType.method ReflectliteType.elem) Tryz.func334 (by kernel_rfl) (by kernel_rfl) (by kernel_rfl) (by kernel_rfl)
 have h77 := @run_callFunc_extern Tryz.prog 335 _ (ReflectliteType.relation "Implements" ReflectliteType.implements_) Tryz.func335 (by kernel_rfl) (by kernel_rfl) (by kernel_rfl) (by kernel_rfl)
 have f6:=valueOfPE
 have f7:=typePE
 have mK:=methKind
 have mE:=methElem
 have mI:=methImplements
 have kP:=kindPE
 have kE:=kindE
 have eP:=elemPE
 have iE:=implementsE
 have n8:=isNilPE ⟨w.heap.size,0,none⟩ t ((w.alloc (.cells #[.pointer (some t)] 324)).alloc (.cells #[(.pointer (some ⟨1,324,none⟩)),.pointer (some ⟨w.heap.size,0,none⟩),.int .u64 150] 328)) (by simp)
 have hlt:=lt_of_cell hg
 have htl:=lt_of_cell ht
 have hg2:((w.alloc (.cells #[.pointer (some t)] 324)).alloc (.cells #[(.pointer (some ⟨1,324,none⟩)),.pointer (some ⟨w.heap.size,0,none⟩),.int .u64 150] 328)).cell? ⟨0,0,none⟩=some (.iface 217 (.agg #[(.pointer (some ⟨1,75,none⟩))])):=by
  rw [World.cell?_alloc_lt _ _ ⟨0,0,none⟩ (by simp),World.cell?_alloc_lt _ _ ⟨0,0,none⟩ hlt];exact hg
 have hch2:=Lib.hid (Chain.below (((Below.refl _ _).alloc (Nat.le_refl _) (.cells #[.pointer (some t)] 324)).alloc (by simp) (.cells #[(.pointer (some ⟨1,324,none⟩)),.pointer (some ⟨w.heap.size,0,none⟩),.int .u64 150] 328)) rfl hch)
 have q1:((w.alloc (.cells #[.pointer (some t)] 324)).alloc (.cells #[(.pointer (some ⟨1,324,none⟩)),.pointer (some ⟨w.heap.size,0,none⟩),.int .u64 150] 328)).cell? ⟨w.heap.size,0,none⟩=some (.pointer (some t)):=by rw [World.cell?_alloc_lt _ _ _ (by simp)];simp
 have q2:((w.alloc (.cells #[.pointer (some t)] 324)).alloc (.cells #[(.pointer (some ⟨1,324,none⟩)),.pointer (some ⟨w.heap.size,0,none⟩),.int .u64 150] 328)).cell? t=some old:=by rw [World.cell?_alloc_lt _ _ t (by simp;omega),World.cell?_alloc_lt _ _ t htl];exact ht
 have q3:((w.alloc (.cells #[.pointer (some t)] 324)).alloc (.cells #[(.pointer (some ⟨1,324,none⟩)),.pointer (some ⟨w.heap.size,0,none⟩),.int .u64 150] 328)).frozen? t=false:=by rw [World.frozen?_alloc_old _ _ t (by simp;omega),World.frozen?_alloc_old _ _ t (Nat.ne_of_lt htl)];exact hf
 obtain ⟨T,x,rfl⟩:=hch.iface
 clear hch
 go_enter Tryz.func303,Tryz.ntmps303
 go_wp2_with (go_at_call 308;refine (as_loop _ k _ c t ⟨w.heap.size,0,none⟩ old hch2.out q1 q2 q3).mono ?_;rintro e w' ⟨rfl,rfl⟩)
 go_wp2
 go_ret
 exact ⟨rfl,rfl⟩
theorem compE:(Tryz.prog.info? 57).map (·.comparable)=some true:=by kernel_rfl
theorem eqlEE (w:World) (a b:Int):(binOp .eql 75 (.iface 57 (.int .i64 a)) (.iface 57 (.int .i64 b))).run Tryz.prog w = .ok (.bool (a == b)) w:=by
 obtain ⟨i,hi,hc⟩:=Option.map_eq_some_iff.1 compE
 have h:∀ d:Nat,(Op.equalIn (d+2) 75 (.iface 57 (.int .i64 a)) (.iface 57 (.int .i64 b))).run Tryz.prog w = .ok (a == b) w:=fun d=>by
  simp [Op.equalIn,run_underlying Tryz.underlying75,run_underlying Tryz.underlying57,typeInfo,hi,hc]
 simp only [binOp]
 simp [Op.equal,Op.maxDepth,h 9998]
theorem eqlBE (w:World) (a b:Value):(binOp .eql 75 (.iface 212 a) (.iface 57 b)).run Tryz.prog w = .ok (.bool false) w:=by
 have h:∀ d:Nat,(Op.equalIn (d+1) 75 (.iface 212 a) (.iface 57 b)).run Tryz.prog w = .ok false w:=fun d=>by
  simp [Op.equalIn,run_underlying Tryz.underlying75]
 simp only [binOp]
 simp [Op.equal,Op.maxDepth,h 9999]
theorem compE2 (w : World) : (ReflectliteType.method (fun t => do Rtype.noPackHeld "Comparable" t; (fun a => Value.bool a.comparable) <$> typeInfo t) #[.agg #[(.pointer (some ⟨1, 57, none⟩))]]).run Tryz.prog w = .ok (.bool true) w := by kernel_rfl
theorem noIsB (v:Value) (w:World):(Instr.typeAssert (.iface 212 v) 75 219 true).run Tryz.prog w = .ok (.tuple #[.nilIface,.bool false]) w:=run_typeAssert_lacksB Tryz.underlying219 (by kernel_rfl) (by kernel_rfl) v _ w
theorem noIsE (v:Value) (w:World):(Instr.typeAssert (.iface 57 v) 75 219 true).run Tryz.prog w = .ok (.tuple #[.nilIface,.bool false]) w:=run_typeAssert_lacksB Tryz.underlying219 (by kernel_rfl) (by kernel_rfl) v _ w
theorem noUnwrapE (v:Value) (w:World):(Instr.typeAssert (.iface 57 v) 75 222 true).run Tryz.prog w = .ok (.tuple #[.nilIface,.bool false]) w:=run_typeAssert_lacksB Tryz.underlying222 (by kernel_rfl) (by kernel_rfl) v _ w
theorem noUnwrapsE (v:Value) (w:World):(Instr.typeAssert (.iface 57 v) 75 224 true).run Tryz.prog w = .ok (.tuple #[.nilIface,.bool false]) w:=run_typeAssert_lacksB Tryz.underlying224 (by kernel_rfl) (by kernel_rfl) v _ w
set_option maxRecDepth 100000 in
set_option maxHeartbeats 4000000 in
theorem is_loop (w:World) (k:Nat) (v:Value) (c d:Int) (hch:Chain w c k v) (b:Bool) (hcd:(c == d)=b) :
  Calls Tryz.prog 48 #[v,.iface 57 (.int .i64 d),.bool true] w fun e w'=>e = .returned (.bool b)/\w=w':=by
 have qE:=eqlEE
 have qB:=eqlBE
 have n1:=noIsB
 have n2:=noIsE
 have n3:=noUnwrapE
 have n4:=noUnwrapsE
 have hU:=hasUnwrapB
 have mU:=methUnwrap
 have HC:=Lib.hid hch
 clear hch
 go_enter Tryz.func48,Tryz.ntmps48
 go_wp2_with fail
 go_loopg [0] k (fun k v wr=>Chain w c k v/\w=wr)
 case atStart=>exact ⟨HC.out,rfl⟩
 case round =>
  obtain ⟨hc,rfl⟩:=hrel
  cases gk with
  | zero =>
   obtain rfl:_=_:=hc
   cases b
   all_goals
    go_wp2
    go_ret
    exact ⟨rfl,rfl⟩
  | succ k =>
   obtain ⟨a,f,n,e,rfl,hbad,hr⟩:=hc
   obtain ⟨T,x,rfl⟩:=hr.iface
   have hc2:=hbad.c2
   have HR:=Lib.hid hr
   clear hr
   go_wp2_with (go_at_call 330;refine (as_step _ a _ hc2).mono ?_;rintro e w' ⟨rfl,rfl⟩)
   go_roundg k
   case measure=>omega
   case rel=>exact ⟨HR.out,rfl⟩
set_option maxRecDepth 100000 in
set_option maxHeartbeats 4000000 in
theorem is_chain (w:World) (k:Nat) (v:Value) (c d:Int) (hch:Chain w c k v) (b:Bool) (hcd:(c == d)=b) :
  Calls Tryz.prog 24 #[v,.iface 57 (.int .i64 d)] w fun e w'=>e = .returned (.bool b)/\w=w':=by
 have h21:=@run_callFunc_extern Tryz.prog 47 _ ReflectliteType.typeOf Tryz.func47 (by kernel_rfl) (by kernel_rfl) (by kernel_rfl) (by kernel_rfl)
 have h75 := @run_callFunc_extern Tryz.prog 333 _ (ReflectliteType.method (fun t => do Rtype.noPackHeld "Comparable" t; pure (.bool (← typeInfo t).comparable))) Tryz.func333 (by kernel_rfl) (by kernel_rfl) (by kernel_rfl) (by kernel_rfl)
 have tE:=typeOfE
 have mC:=methComparable
 have cE:=compE2
 have HC:=Lib.hid hch
 have HD:=Lib.hid hcd
 obtain ⟨T,x,rfl⟩:=hch.iface
 clear hch hcd
 go_enter Tryz.func24,Tryz.ntmps24
 go_wp2_with (go_at_call 48;refine (is_loop _ k _ c d HC.out b HD.out).mono ?_;rintro e w' ⟨rfl,rfl⟩)
 go_ret
 exact ⟨rfl,rfl⟩
end Go.Proofs.YtcpggonengkgiaaGreatDoor
namespace Go.Proofs.YtcpggonengkgiaaGreatDoor
open Go Go.RowKit
theorem number_idle (p q:Addr) (w:World) :
  CallsD Tryz.prog 302 #[.pointer (some p),.pointer (some q)] .returning w fun e u' w'=>e = .returned (.tuple #[])/\u' = .returning/\w'=w:=by
 refine callsD_of_wpS Tryz.func302 rfl fun c₀ cs hu=>?_
 apply wpS_seq
 apply wpS_region
 simp [wpOpsS,go_sem,recoverD,hu,Tryz.ntmps302,Exit.thenS]
 refine wpS_cond (t:=false) (by simp [Act.eval,Array.replicate]) ?_
 simp only [Bool.false_eq_true,if_false]
 refine wpS_of_wp (wp_skip ?_)
 cases c₀
 simp_all [bodyPostS,results,Tryz.results302]
def ErrT (w:World):Prop:=w.cell? ⟨0,0,none⟩=some (.iface 217 (.agg #[(.pointer (some ⟨1,75,none⟩))]))
theorem ErrT.below {w w':World} {B:Nat} (h:ErrT w) (hb:Below B w w') (hB:0 < B):ErrT w':=by
 unfold ErrT at *;rw [hb.cell (p:=⟨0,0,none⟩) hB];exact h
theorem ErrT.lt {w:World} (h:ErrT w):0 < w.heap.size:=lt_of_cell h
set_option maxRecDepth 100000 in
set_option maxHeartbeats 4000000 in
theorem numberIn_chain (w:World) (k:Nat) (v:Value) (c:Int) (hch:Chain w c k v) (hg:ErrT w) :
  Calls Tryz.prog 283 #[v] w fun e w'=>e = .returned (.tuple #[.int .i64 c,.bool true])/\Below w.heap.size w w':=by
 have hmf:∀ (fn:Fn) (first cap:Array Value) (w:World),(Instr.makeFunc fn first cap).run Tryz.prog w = .ok (.func fn first cap) w:=fun _ _ _ _=>rfl
 have b0:=((Below.refl w.heap.size w).alloc (Nat.le_refl _) (.cells #[.int .i64 0] 57)).alloc (by simp) (.cells #[.bool false] 4)
 have HC:=Lib.hid (hch.below b0 rfl)
 have HG:=Lib.hid (hg.below b0 hg.lt)
 clear hch hg
 go_enter_defers Tryz.func283,Tryz.ntmps283
 go_wp2_with (go_at_call 303;refine (asErrno _ k _ c ⟨w.heap.size,0,none⟩ (.int .i64 0) HC.out HG.out (by simp) (by simp)).mono ?_;rintro e w' ⟨rfl,rfl⟩)
 go_region
 go_wp2
 refine leaves_cons (f:=302) (args:=#[.pointer (some ⟨w.heap.size,0,none⟩),.pointer (some ⟨w.heap.size+1,0,none⟩)]) (by simp) (by simp [go_sem]) ?_
 refine (number_idle ⟨w.heap.size,0,none⟩ ⟨w.heap.size+1,0,none⟩ _).mono ?_
 rintro e u' w'' ⟨rfl,rfl,rfl⟩
 simp [Leaves,settle,results,Tryz.results283,go_sem]
 refine Below.drew ?_
 repeat (first | exact Below.refl _ _ | refine Below.alloc ?_ (by first | exact Nat.le_refl _ | (simp;done) | (simp;omega)) _)
set_option maxRecDepth 100000 in
theorem code_chain (w:World) (k:Nat) (v:Value) (c:Int) (hch:Chain w c k v) (hg:ErrT w) :
  Calls Tryz.prog 228 #[v] w fun e w'=>e = .returned (.int .i64 c)/\Below w.heap.size w w':=by
 have HC:=Lib.hid hch
 have HG:=Lib.hid hg
 obtain ⟨T,x,rfl⟩:=hch.iface
 clear hch hg
 go_enter Tryz.func228,Tryz.ntmps228
 go_wp2_with fail
 refine (numberIn_chain _ k _ c HC.out HG.out).mono ?_
 rintro e w' ⟨rfl,hb⟩
 go_wp2
 go_ret
 exact ⟨rfl,hb⟩
end Go.Proofs.YtcpggonengkgiaaGreatDoor
namespace Go.Proofs.YtcpggonengkgiaaGreatDoor
open Go Go.ChangeShapes Go.WideShapes Go.RowKit
theorem own:ownKnob Tryz.prog.godebug=none:=by kernel_rfl
theorem gErrT : Tryz.prog.globalNamed "errors.errorType" = some 0 := by kernel_rfl
theorem rtype : (Tryz.prog.cutTypes.find? (·.1 == "internal/reflectlite.rtype")).map (·.2) = some 217 := by kernel_rfl
theorem typesSize:Tryz.prog.types.size+100=470:=by kernel_rfl
theorem oneRow:((List.range (470 - 100)).filter fun t=>Tryz.prog.rowNamed t [101,114,114,111,114])=[75]:=by kernel_rfl
theorem handleE:typeHandle Tryz.prog 75 = .pointer (some ⟨1,75,none⟩):=by kernel_rfl
theorem errT_of_handle {W : World} (h : handlesMet Tryz.prog [("errors.errorType", Rows.laid_errors_errorType)] W) : ErrT W := by
 obtain ⟨name,u,ty,e1,e2,e3,e4,e5⟩:=h _ (List.mem_singleton.2 rfl)
 have en:name=[101,114,114,111,114]:=(Option.some.inj e1).symm
 subst en
 obtain rfl:=Option.some.inj (rtype.symm.trans e2)
 have hm:ty∈(List.range (470 - 100)).filter fun t=>Tryz.prog.rowNamed t [101,114,114,111,114]:=List.mem_filter.2 ⟨List.mem_range.2 (by have:=typesSize;omega),e4⟩
 rw [oneRow] at hm
 obtain rfl:=List.mem_singleton.1 hm
 rw [handleE] at e5
 simpa [ErrT] using World.var?_cell gErrT e5 0
end Go.Proofs.YtcpggonengkgiaaGreatDoor
namespace Go.Proofs.YtcpggonengkgiaaGreatDoor
open Go Go.RowKit Go.Deep
def upd {α:Type} (f:Nat->α) (i:Nat) (x:α) (j:Nat):α:=if j=i then x else f j
structure Only (S:List Nat) (w w':World):Prop where
 os:w'.os=w.os
 tape:w'.tape=w.tape
 output:w'.output=w.output
 size:w.heap.size<=w'.heap.size
 block:∀ k,k < w.heap.size->k∉S->w'.heap[k]? = w.heap[k]?
section
variable {S T:List Nat} {w w' w'':World}
theorem Only.refl (S:List Nat) (w:World):Only S w w:=⟨rfl,rfl,rfl,Nat.le_refl _,fun _ _ _=>rfl⟩
theorem Only.trans (h:Only S w w') (k:Only T w' w'') (hT:∀ g∈T,g∈S∨w.heap.size<=g):Only S w w'' :=
 ⟨k.os.trans h.os,k.tape.trans h.tape,k.output.trans h.output,Nat.le_trans h.size k.size,fun i hi hS =>
  (k.block i (Nat.lt_of_lt_of_le hi h.size) (fun hi'=>(hT i hi').elim hS (fun h1=>by omega))).trans (h.block i hi hS)⟩
theorem Only.mono (h:Only S w w') (hT:∀ g∈S,g∈T):Only T w w':=⟨h.os,h.tape,h.output,h.size,fun i hi hS=>h.block i hi (fun h'=>hS (hT i h'))⟩
theorem Only.alloc (h:Only S w w') (o:Obj):Only S w (w'.alloc o) :=
 ⟨h.os,h.tape,h.output,Nat.le_trans h.size (by simp),fun i hi hS=>(Below.heap_alloc w' o i (Nat.lt_of_lt_of_le hi h.size)).trans (h.block i hi hS)⟩
theorem Only.setCell (h:Only S w w') {p:Addr} (hp:p.block∈S∨w.heap.size<=p.block) (u:Value):Only S w (w'.setCell p u) :=
 ⟨h.os,h.tape,h.output,by simpa [World.setCell] using h.size,fun i hi hS=>(Below.heap_setCell w' p u i (by
  rintro rfl
  rcases hp with hp | hp
  ·exact hS hp
  ·omega)).trans (h.block i hi hS)⟩
theorem Only.drew (h:Only S w w'):Only S w w'.drew:=⟨h.os,h.tape,h.output,h.size,h.block⟩
theorem Only.drewN (h:Only S w w') (n:Nat):Only S w (w'.drewN n):=⟨h.os,h.tape,h.output,h.size,h.block⟩
theorem Only.of_below (h:Below w.heap.size w w'):Only S w w':=⟨h.os,h.tape,h.output,h.size,fun i hi _=>h.block i hi⟩
theorem Only.below {B:Nat} (h:Only S w w') (hS:∀ g∈S,B<=g) (hB:B<=w.heap.size):Below B w w' :=
 ⟨h.os,h.tape,h.output,h.size,fun i hi=>h.block i (by omega) (fun h'=>by have:=hS i h';omega)⟩
theorem Only.row {b:Nat} {t:TypeId} {n:Nat} {f:Nat->Value} (h:Only S w w') (hr:w.rowIs b t n f) (hb:b∉S):w'.rowIs b t n f :=
 hr.of_block (h.block b hr.lt hb)
end
theorem head_row {w:World} {b:Nat} {cs:Array Value} {t:TypeId} (h:w.heap[b]? = some (.cells cs t (0,0))):w.rowIs b t cs.size (fun i=>cs.getD i undef) :=
 ⟨cs,h,rfl,fun i hi=>by rw [Array.getElem?_eq_getElem hi];simp [Array.getD,hi]⟩
end Go.Proofs.YtcpggonengkgiaaGreatDoor
namespace Go.Proofs.YtcpggonengkgiaaGreatDoor
open Go Go.ChangeShapes Go.WideShapes Go.RowKit Go.Deep
theorem laidAll:laidOutB Tryz.prog=true:=by kernel_rfl
section
variable {H:Type} {enc:TypeId × Value->H} {P:Program} {W W':World}
theorem trodAll_stay (hl:laidOutB P=true) (hb:Below W.heap.size W W'):∀ (ts:List TypeId) {vs:List Value} {ds:List (DataW H)} {ps:List MemPlace},
  (∀ t∈ts,P.readableRec t=true/\t < P.types.size)->DataW.TrodAll enc P W 0 (fun _=>true) true ts vs ds ps->(∀ x∈ps,x.block < W.heap.size) ->
  DataW.TrodAll enc P W' 0 (fun b=>decide (b < W.heap.size)) true ts vs ds ps
 | [],vs,ds,ps,_,h,_=>by
  obtain ⟨rfl,rfl,rfl⟩:=trodAll_nil h
  exact trodAll_mk0
 | t :: ts,vs,ds,ps,ht,h,hlt=>by
  obtain ⟨v,vs',d,ds',p,q,rfl,rfl,rfl,h1,h2⟩:=trodAll_cons h
  obtain ⟨hr,hs⟩:=ht t (by simp)
  exact trodAll_cons_mk (Below.trod hl hr hs h1 hb (fun x hx=>hlt x (by simp [hx]))) (trodAll_stay hl hb ts (fun t' h'=>ht t' (by simp [h'])) h2 (fun x hx=>hlt x (by simp [hx])))
end
end Go.Proofs.YtcpggonengkgiaaGreatDoor
namespace Go.Proofs.YtcpggonengkgiaaGreatDoor
open Go Go.RowKit Go.Deep
theorem below_grown {B:Nat} {w0 w w':World} {e:TypeId} {size n:Nat} {v:Value} {xs:List Value} (hb:Below B w0 w) (hown:w.ownsRow B e size v n xs) (hg:w.grownBy w' v.ownBlock) (hB:B<=w.heap.size):Below B w0 w' :=
 hb.grown hg hB (fun k hk=>(hown.lt k hk).1)
theorem two_blocks {w w1:World} {c d:Array Value} {t u:TypeId} (hb:Below ((w.alloc (.cells c t)).alloc (.cells d u)).heap.size ((w.alloc (.cells c t)).alloc (.cells d u)) w1) :
  Below w.heap.size w w1/\w.heap.size+1 < w1.heap.size/\w1.heap[w.heap.size]? = some (.cells c t (0,0))/\w1.heap[w.heap.size+1]? = some (.cells d u (0,0)):=by
 have hs:=hb.size
 simp at hs
 refine ⟨(((Below.refl _ _).alloc (Nat.le_refl _) _).alloc (by simp) _).trans (hb.mono (by simp;omega)),by omega,?_,?_⟩
 ·rw [hb.block w.heap.size (by simp;omega),Below.heap_alloc _ _ _ (by simp)]
  exact heap_alloc_new w _
 ·rw [hb.block (w.heap.size+1) (by simp)]
  have:=heap_alloc_new (w.alloc (.cells c t)) (.cells d u)
  simpa using this
end Go.Proofs.YtcpggonengkgiaaGreatDoor
