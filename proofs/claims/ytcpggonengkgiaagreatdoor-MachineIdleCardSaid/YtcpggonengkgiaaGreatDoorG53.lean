/- Words and walks: McTE. -/
import Derived.Test.YtcpggonengkgiaaGreatDoorG1
import Derived.OpenShut
namespace Go.Proofs.YtcpggonengkgiaaGreatDoor
open Go Go.ChangeShapes Go.WideShapes Go.RowKit Go.Deep
section
variable {H:Type} {enc:TypeId × Value->H} {w:World} {base:Nat} {sp:Nat->Bool} {held:Bool}
theorem open_two8_cells {n:Nat} {cs:List Value} {x:DataW H × List MemPlace} (h:DataW.trod enc Tryz.prog w base sp held n 86 cs=some x) :
  ∃ a b:Nat,a < 256/\b < 256/\cs=[.int .u8 (a:Nat),.int .u8 (b:Nat)]/\x.2=[]:=by
 have hs:=Tryz.underlying86
 have k1:Tryz.prog.cellsOf 5=1:=by kernel_rfl
 have k0:Tryz.prog.cellsOf 86=2:=by kernel_rfl
 obtain ⟨xs,m,_,hx,hl,hlen,hg⟩:=DataW.trod_array hs h
 rw [k0] at hl
 rw [k1] at hg
 rcases cs with _ | ⟨c0,_ | ⟨c1,_ | ⟨c2,cs⟩⟩⟩
 case cons.cons.nil =>
  have g0:DataW.trod enc Tryz.prog w base sp held m 5 [c0]=xs[0]? := hg 0 (by decide)
  have g1:DataW.trod enc Tryz.prog w base sp held m 5 [c1]=xs[1]? := hg 1 (by decide)
  rcases xs with _ | ⟨z0,_ | ⟨z1,_ | ⟨z2,xs⟩⟩⟩
  case cons.cons.nil =>
   obtain ⟨a0,q0,e0,w0⟩:=DataW.trod_int Tryz.underlying5 (g0.trans rfl)
   obtain ⟨a1,q1,e1,w1⟩:=DataW.trod_int Tryz.underlying5 (g1.trans rfl)
   simp only [List.cons.injEq,and_true] at q0 q1
   subst q0 q1
   obtain ⟨b0,rfl,hb0⟩:=u8_nat w0
   obtain ⟨b1,rfl,hb1⟩:=u8_nat w1
   refine ⟨b0,b1,hb0,hb1,rfl,?_⟩
   rw [hx,e0,e1]
   rfl
  all_goals simp at hlen
 all_goals simp at hl
set_option maxRecDepth 8000 in
theorem open_two8 {r:Reach} {b0:Nat} {v:Value} {d:DataW H} {p:List MemPlace} (hv:Value.okWide Tryz.prog w r b0 86 v) (h:DataW.Trod enc Tryz.prog w base sp held 86 v d p) :
  ∃ a b:Nat,a < 256/\b < 256/\v = .agg #[.int .u8 (a:Nat),.int .u8 (b:Nat)]/\p=[]:=by
 obtain ⟨cs,rfl⟩:∃ cs,v = .agg cs:=by
  simp only [Value.okWide,Tryz.underlying86] at hv
  obtain ⟨cs,h1,_⟩:=hv
  exact ⟨cs,h1⟩
 obtain ⟨fuel,hf⟩:=h
 obtain ⟨a,b,ha,hb,e,ep⟩:=open_two8_cells (cs:=cs.toList) (by simpa [Value.cells] using hf)
 refine ⟨a,b,ha,hb,?_,ep⟩
 have:cs=#[.int .u8 (a:Nat),.int .u8 (b:Nat)]:=by
  apply Array.toList_inj.1
  rw [e]
 rw [this]
end
end Go.Proofs.YtcpggonengkgiaaGreatDoor
