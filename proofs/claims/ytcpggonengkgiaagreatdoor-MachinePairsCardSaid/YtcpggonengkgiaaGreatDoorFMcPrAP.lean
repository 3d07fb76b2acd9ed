/- MachinePairs: the pairs have just the keys that are there, each once, and there are never more than the capacity: proved for every policy and capacity, and all operations, the listed package-level variable as the program's text lays it. -/
import Derived.Test.YtcpggonengkgiaaGreatDoorG0
import Derived.Test.YtcpggonengkgiaaGreatDoorG1
import Derived.Test.YtcpggonengkgiaaGreatDoorG30
import Derived.Test.YtcpggonengkgiaaGreatDoorG48
import Derived.Test.YtcpggonengkgiaaGreatDoorG4
import Derived.Test.YtcpggonengkgiaaGreatDoorG7
import Derived.Test.YtcpggonengkgiaaGreatDoorG14
import Derived.Test.YtcpggonengkgiaaGreatDoorG20
import Derived.Test.YtcpggonengkgiaaGreatDoorG28
namespace Go.Proofs.YtcpggonengkgiaaGreatDoor
open Go Go.ChangeShapes Go.WideShapes Go.RowKit
theorem allOk13p:AllOk:=⟨pol8Ok,pol9Ok,pol10Ok,pol11Ok,pol12Ok⟩
theorem machinePairs_met (os:Os) (args:Array Value):laidMetH Tryz.prog Rows.machinePairsRow.laid ((World.doorLaid Tryz.prog 400 os).forCall (fun _ _=>0) ⟨#[],args,[]⟩).memory :=
 laidMetH_of_parts3 (fuel:=8) (laidMet_of_run' 8 (by kernel_rfl) (by kernel_rfl)) (by kernel_rfl) (by kernel_rfl)
set_option maxRecDepth 100000 in
theorem machinePairs_lifted (os:Os) (started:os.Started) (H:Type) (enc:TypeId × Value->H) :
  ReturnsInHanded {} Tryz.checked os 5 .any (fun w args=>(Rows.machinePairsSpec.pre enc Tryz.prog Tryz.f5 [] false w args/\laidMetH Tryz.prog Rows.machinePairsRow.laid w)/\sizedMet enc Tryz.prog Tryz.f5 (OpenSpec.ofChange Rows.machinePairsSpec) false w args)
   (Rows.machinePairsSpec.post enc Tryz.prog Tryz.f5 false true false false):=by
 refine returnsInHanded_of_change_and (C:=Tryz.checked) (X:=fun w _=>laidMetH Tryz.prog Rows.machinePairsRow.laid w) (fun _ _ _ hh h=>h.of_heap hh) own started (by kernel_rfl) Tryz.func5
  (ChangeSpec.witness_shaped (enc:=enc) (C:=Tryz.checked) (os:=os) (X:=fun w _=>laidMetH Tryz.prog Rows.machinePairsRow.laid w) false (World.doorLaid Tryz.prog 400 os) #[(.int .u8 0),(.int .u8 0),.slice none 0 0] 8 rfl (World.shaped_of_RefB (by kernel_rfl) (by kernel_rfl)) (by kernel_rfl) (by kernel_rfl) (by kernel_rfl) (machinePairs_met os _)) ?_
 intro W base args ds gs before hval0 hW _ _ hL _
 have hval:∀ (j:Nat) t v,Tryz.f5.params[j]? = some t->args[j]? = some v->Value.okWide Tryz.prog W .any base t v:=hval0
 have hW':=hW
 obtain ⟨p,q,hA0,hV,rfl,hfz,hnd⟩:=hW
 have hA:DataW.TrodAll enc Tryz.prog W 0 (fun _=>true) true Tryz.f5.params.toList args.toList ds p:=hA0
 rw [Tryz.params5] at hA hval
 obtain ⟨rfl,rfl⟩:=trodVars_none hV
 simp only [List.append_nil] at hW'
 have hlt:∀ x∈p,x.block < W.heap.size:=fun x hx=>by simpa using hW'.lt x hx
 have hAll:=hA
 obtain ⟨v0,vs0,d0,ds0,p0,q0,hargs,rfl,rfl,h0,r0⟩:=trodAll_cons hA
 obtain ⟨v1,vs1,d1,ds1,p1,q1,rfl,rfl,rfl,h1,r1⟩:=trodAll_cons r0
 obtain ⟨v2,vs2,d2,ds2,p2,q2,rfl,rfl,rfl,h2,r2⟩:=trodAll_cons r1
 obtain ⟨rfl,rfl,rfl⟩:=trodAll_nil r2
 obtain rfl:args=#[v0,v1,v2]:=by cases args;simp_all
 obtain ⟨a0,rfl,rfl,rfl,wa0⟩:=open_int Tryz.underlying5 (hval 0 5 v0 rfl rfl) h0
 obtain ⟨a1,rfl,rfl,rfl,wa1⟩:=open_int Tryz.underlying5 (hval 1 5 v1 rfl rfl) h1
 obtain ⟨l,hl⟩:=open_ops (hval 2 22 v2 rfl rfl) h2 (fun x hx=>hlt x (by simp [hx]))
 obtain ⟨pn,rfl,hpn⟩:=u8_nat wa0
 obtain ⟨cn,rfl,hcn⟩:=u8_nat wa1
 clear hA0 hval0
 refine (pairs13_short allOk13p (errT_of_handle hL.2) pn cn hpn hcn hl).mono fun e W' ⟨he,hb⟩=>?_
 subst he
 refine ⟨_,rfl,_,_,_,[],[] ++ ([] ++ (p2 ++ [])),[],hW',?_,?_,?_,hb.frame _,fun h=>by cases h⟩
 ·exact trodAll_mk1 (shut_bool Tryz.underlying4 true)
 ·exact trodAll_stay laidAll hb _ (by
   intro t ht
   rw [Tryz.params5] at ht
   have h3:t=5∨t=22:=by simpa using ht
   rcases h3 with rfl | rfl
   all_goals exact ⟨by kernel_rfl,of_decide_eq_true (by kernel_rfl)⟩) hAll hlt
 ·rfl
theorem machinePairs_row:Rows.MachinePairsSaid :=
 OpenClaim.holds_of_wide 5 Tryz.f5 rfl rfl rfl rfl rfl rfl rfl ⟨rfl,rfl,rfl,rfl,rfl⟩ rfl rfl rfl rfl rfl (by kernel_rfl) Tryz.func5 (by kernel_rfl)
  (of_decide_eq_true (by kernel_rfl)) (by unfold Func.isWrapper;rw [if_neg (of_decide_eq_false (by kernel_rfl))];exact ⟨rfl,rfl⟩)
  (fun os started H enc _=>machinePairs_lifted os started H enc)
theorem machinePairs_holds:Rows.MachinePairsCardSaid :=
 Claim7.holds_tied_plain_at .later [] [.handle] true Rows.machinePairsCard.stood.harness true
  machinePairs_row (fun _ h=>by cases h) (by kernel_rfl) (fun _ h=>by cases h) machinePairs_row_tie rfl ⟨rfl,rfl⟩ (by kernel_rfl) rfl
  (fun f fn hf hfn=>by
   obtain rfl : f = 5 := Option.some.inj ((show Tryz.prog.funcNamed "hopper/hopperlaw13.MachinePairs" = some 5 by kernel_rfl).symm.trans hf) |>.symm
   obtain rfl:fn=Tryz.f5:=(Option.some.inj (Tryz.func5.symm.trans hfn)).symm
   exact ⟨by kernel_rfl,fun j t ht=>by
    rw [Tryz.params5] at ht
    have h3:t=5∨t=22:=by
     rcases j with _ | _ | _ | j
     ·exact .inl (by simpa using ht.symm)
     ·exact .inl (by simpa using ht.symm)
     ·exact .inr (by simpa using ht.symm)
     ·simp at ht
    rcases h3 with rfl | rfl
    ·exact (show Tryz.prog.wantsStandIn 5=false by kernel_rfl)
    ·exact (show Tryz.prog.wantsStandIn 22=false by kernel_rfl)⟩)
  (by kernel_rfl)
#print axioms machinePairs_holds
end Go.Proofs.YtcpggonengkgiaaGreatDoor
