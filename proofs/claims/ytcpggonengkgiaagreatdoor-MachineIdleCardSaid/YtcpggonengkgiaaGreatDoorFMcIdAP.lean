/- MachineIdle: operations that there are not, and resizes that may not be, change nothing, and Len does not either: proved for every policy and capacity, and all operations, the listed package-level variable as the program's text lays it. -/
import Derived.Test.YtcpggonengkgiaaGreatDoorG0
import Derived.Test.YtcpggonengkgiaaGreatDoorG1
import Derived.Test.YtcpggonengkgiaaGreatDoorG30
import Derived.Test.YtcpggonengkgiaaGreatDoorG52
import Derived.Test.YtcpggonengkgiaaGreatDoorG53
import Derived.Test.YtcpggonengkgiaaGreatDoorG4
import Derived.Test.YtcpggonengkgiaaGreatDoorG7
import Derived.Test.YtcpggonengkgiaaGreatDoorG14
import Derived.Test.YtcpggonengkgiaaGreatDoorG20
import Derived.Test.YtcpggonengkgiaaGreatDoorG28
namespace Go.Proofs.YtcpggonengkgiaaGreatDoor
open Go Go.ChangeShapes Go.WideShapes Go.RowKit
theorem allOk13i:AllOk:=⟨pol8Ok,pol9Ok,pol10Ok,pol11Ok,pol12Ok⟩
theorem machineIdle_met (os:Os) (args:Array Value):laidMetH Tryz.prog Rows.machineIdleRow.laid ((World.doorLaid Tryz.prog 400 os).forCall (fun _ _=>0) ⟨#[],args,[]⟩).memory :=
 laidMetH_of_parts3 (fuel:=8) (laidMet_of_run' 8 (by kernel_rfl) (by kernel_rfl)) (by kernel_rfl) (by kernel_rfl)
set_option maxRecDepth 100000 in
theorem machineIdle_lifted (os:Os) (started:os.Started) (H:Type) (enc:TypeId × Value->H) :
  ReturnsInHanded {} Tryz.checked os 6 .any (fun w args=>(Rows.machineIdleSpec.pre enc Tryz.prog Tryz.f6 [] false w args/\laidMetH Tryz.prog Rows.machineIdleRow.laid w)/\sizedMet enc Tryz.prog Tryz.f6 (OpenSpec.ofChange Rows.machineIdleSpec) false w args)
   (Rows.machineIdleSpec.post enc Tryz.prog Tryz.f6 false true false false):=by
 refine returnsInHanded_of_change_and (C:=Tryz.checked) (X:=fun w _=>laidMetH Tryz.prog Rows.machineIdleRow.laid w) (fun _ _ _ hh h=>h.of_heap hh) own started (by kernel_rfl) Tryz.func6
  (ChangeSpec.witness_shaped (enc:=enc) (C:=Tryz.checked) (os:=os) (X:=fun w _=>laidMetH Tryz.prog Rows.machineIdleRow.laid w) false (World.doorLaid Tryz.prog 400 os) #[.agg #[.int .u8 0,.int .u8 0],.slice none 0 0,.agg #[.int .i64 0,.int .u64 0,.int .u64 0,.int .i64 0]] 8 rfl (World.shaped_of_RefB (by kernel_rfl) (by kernel_rfl)) (by kernel_rfl) (by kernel_rfl) (by kernel_rfl) (machineIdle_met os _)) ?_
 intro W base args ds gs before hval0 hW _ _ hL _
 have hval:∀ (j:Nat) t v,Tryz.f6.params[j]? = some t->args[j]? = some v->Value.okWide Tryz.prog W .any base t v:=hval0
 have hW':=hW
 obtain ⟨p,q,hA0,hV,rfl,hfz,hnd⟩:=hW
 have hA:DataW.TrodAll enc Tryz.prog W 0 (fun _=>true) true Tryz.f6.params.toList args.toList ds p:=hA0
 rw [Tryz.params6] at hA hval
 obtain ⟨rfl,rfl⟩:=trodVars_none hV
 simp only [List.append_nil] at hW'
 have hlt:∀ x∈p,x.block < W.heap.size:=fun x hx=>by simpa using hW'.lt x hx
 have hAll:=hA
 obtain ⟨v0,vs0,d0,ds0,p0,q0,hargs,rfl,rfl,h0,r0⟩:=trodAll_cons hA
 obtain ⟨v1,vs1,d1,ds1,p1,q1,rfl,rfl,rfl,h1,r1⟩:=trodAll_cons r0
 obtain ⟨v2,vs2,d2,ds2,p2,q2,rfl,rfl,rfl,h2,r2⟩:=trodAll_cons r1
 obtain ⟨rfl,rfl,rfl⟩:=trodAll_nil r2
 obtain rfl:args=#[v0,v1,v2]:=by cases args;simp_all
 obtain ⟨pn,cn,hpn,hcn,rfl,_⟩:=open_two8 (hval 0 86 v0 rfl rfl) h0
 obtain ⟨l,hl⟩:=open_ops (hval 1 22 v1 rfl rfl) h1 (fun x hx=>hlt x (by simp [hx]))
 obtain ⟨oo,hoo,rfl⟩:=open_op (hval 2 63 v2 rfl rfl) h2
 clear hA0 hval0
 refine (idle13_short allOk13i (errT_of_handle hL.2) pn cn hpn hcn hl oo hoo).mono fun e W' ⟨he,hb⟩=>?_
 subst he
 refine ⟨_,rfl,_,_,_,[],p0 ++ (p1 ++ (p2 ++ [])),[],hW',?_,?_,?_,hb.frame _,fun h=>by cases h⟩
 ·exact trodAll_mk1 (shut_bool Tryz.underlying4 true)
 ·exact trodAll_stay laidAll hb _ (by
   intro t ht
   rw [Tryz.params6] at ht
   have h3:t=86∨t=22∨t=63:=by simpa using ht
   rcases h3 with rfl | rfl | rfl
   all_goals exact ⟨by kernel_rfl,of_decide_eq_true (by kernel_rfl)⟩) hAll hlt
 ·rfl
theorem machineIdle_row:Rows.MachineIdleSaid :=
 OpenClaim.holds_of_wide 6 Tryz.f6 rfl rfl rfl rfl rfl rfl rfl ⟨rfl,rfl,rfl,rfl,rfl⟩ rfl rfl rfl rfl rfl (by kernel_rfl) Tryz.func6 (by kernel_rfl)
  (of_decide_eq_true (by kernel_rfl)) (by unfold Func.isWrapper;rw [if_neg (of_decide_eq_false (by kernel_rfl))];exact ⟨rfl,rfl⟩)
  (fun os started H enc _=>machineIdle_lifted os started H enc)
theorem machineIdle_holds:Rows.MachineIdleCardSaid :=
 Claim7.holds_tied_plain_at .later [] [.handle] true Rows.machineIdleCard.stood.harness true
  machineIdle_row (fun _ h=>by cases h) (by kernel_rfl) (fun _ h=>by cases h) machineIdle_row_tie rfl ⟨rfl,rfl⟩ (by kernel_rfl) rfl
  (fun f fn hf hfn=>by
   obtain rfl : f = 6 := Option.some.inj ((show Tryz.prog.funcNamed "hopper/hopperlaw13.MachineIdle" = some 6 by kernel_rfl).symm.trans hf) |>.symm
   obtain rfl:fn=Tryz.f6:=(Option.some.inj (Tryz.func6.symm.trans hfn)).symm
   exact ⟨by kernel_rfl,fun j t ht=>by
    rw [Tryz.params6] at ht
    have h3:t=86∨t=22∨t=63:=by
     rcases j with _ | _ | _ | j
     ·exact .inl (by simpa using ht.symm)
     ·exact .inr (.inl (by simpa using ht.symm))
     ·exact .inr (.inr (by simpa using ht.symm))
     ·simp at ht
    rcases h3 with rfl | rfl | rfl
    ·exact (show Tryz.prog.wantsStandIn 86=false by kernel_rfl)
    ·exact (show Tryz.prog.wantsStandIn 22=false by kernel_rfl)
    ·exact (show Tryz.prog.wantsStandIn 63=false by kernel_rfl)⟩)
  (by kernel_rfl)
#print axioms machineIdle_holds
end Go.Proofs.YtcpggonengkgiaaGreatDoor
