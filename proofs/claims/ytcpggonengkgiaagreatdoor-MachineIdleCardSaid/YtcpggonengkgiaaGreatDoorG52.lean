/- Words and walks: McId. -/
import Derived.Test.YtcpggonengkgiaaGreatDoorG45
import Derived.Test.YtcpggonengkgiaaGreatDoorG50
import Derived.Test.YtcpggonengkgiaaGreatDoorG51
import Derived.Deep.DeepCutAuto
namespace Go.Proofs.YtcpggonengkgiaaGreatDoor
open Go Go.RowKit Go.Deep
set_option maxRecDepth 8000
abbrev idO0 : Oper := { dst := some 37, op := Op.load 42 (Operand.tmp 8), type := 42, pos := "law.go:88", after := #[], guard := none }
abbrev idO1 : Oper := { dst := some 38, op := Op.move (Operand.tmp 1), type := 22, pos := "law.go:88", after := #[], guard := none }
abbrev idO2 : Oper := { dst := some 39, op := Op.move (Operand.tmp 10), type := 3, pos := "law.go:88", after := #[], guard := none }
abbrev idO3 : Oper := { dst := some 40, op := Op.indexAddr 22 (Operand.tmp 38) (Operand.tmp 39), type := 0, pos := "law.go:88", after := #[{ on := 1, ground := Ground.data }, { on := 2, ground := Ground.data }], guard := none }
abbrev idO4 : Oper := { dst := some 41, op := Op.load 63 (Operand.tmp 40), type := 63, pos := "law.go:88", after := #[{ on := 3, ground := Ground.data }], guard := none }
abbrev idO5 : Oper := { dst := some 42, op := Op.call { callee := Callee.value (Operand.func 11), args := #[Operand.tmp 37, Operand.tmp 41], argTypes := #[42, 63] }, type := 60, pos := "law.go:88", after := #[{ on := 0, ground := Ground.data }, { on := 4, ground := Ground.data }], guard := none }
abbrev idO6 : Oper := { dst := some 36, op := Op.move (Operand.tmp 42), type := 60, pos := "law.go:88", after := #[{ on := 5, ground := Ground.data }], guard := none }
abbrev idO7 : Oper := { dst := some 43, op := Op.extract (Operand.tmp 36) 0, type := 42, pos := "law.go:88", after := #[{ on := 6, ground := Ground.data }], guard := none }
abbrev idO8 : Oper := { dst := some 44, op := Op.extract (Operand.tmp 36) 1, type := 59, pos := "law.go:88", after := #[{ on := 6, ground := Ground.data }, { on := 11, ground := Ground.gcOnly Departure.lateStores }], guard := none }
abbrev idO9 : Oper := { dst := some 11, op := Op.alloc 42, type := 0, pos := "law.go:88", after := #[], guard := none }
abbrev idO10 : Oper := { dst := some 12, op := Op.alloc 59, type := 0, pos := "law.go:88", after := #[], guard := none }
abbrev idO11 : Oper := { dst := none, op := Op.store 42 (Operand.tmp 11) (Operand.tmp 43), type := 0, pos := "law.go:88", after := #[{ on := 9, ground := Ground.data }, { on := 7, ground := Ground.data }, { on := 5, ground := Ground.chain }, { on := 0, ground := Ground.phase }, { on := 1, ground := Ground.phase }, { on := 2, ground := Ground.phase }, { on := 3, ground := Ground.phase }, { on := 4, ground := Ground.phase }, { on := 5, ground := Ground.phase }, { on := 6, ground := Ground.phase }, { on := 7, ground := Ground.phase }, { on := 8, ground := Ground.textOnly Departure.lateStores }, { on := 9, ground := Ground.phase }, { on := 10, ground := Ground.phase }], guard := none }
abbrev idO12 : Oper := { dst := none, op := Op.store 59 (Operand.tmp 12) (Operand.tmp 44), type := 0, pos := "law.go:88", after := #[{ on := 10, ground := Ground.data }, { on := 8, ground := Ground.data }, { on := 11, ground := Ground.chain }, { on := 0, ground := Ground.phase }, { on := 1, ground := Ground.phase }, { on := 2, ground := Ground.phase }, { on := 3, ground := Ground.phase }, { on := 4, ground := Ground.phase }, { on := 5, ground := Ground.phase }, { on := 6, ground := Ground.phase }, { on := 7, ground := Ground.phase }, { on := 8, ground := Ground.phase }, { on := 9, ground := Ground.phase }, { on := 10, ground := Ground.phase }, { on := 11, ground := Ground.phase }], guard := none }
abbrev ieO0 : Oper := { dst := some 71, op := Op.load 42 (Operand.tmp 8), type := 42, pos := "law.go:93", after := #[], guard := none }
abbrev ieO1 : Oper := { dst := some 72, op := Op.call { callee := Callee.value (Operand.func 16), args := #[Operand.tmp 71], argTypes := #[42] }, type := 25, pos := "law.go:93", after := #[{ on := 0, ground := Ground.data }], guard := none }
abbrev ieO2 : Oper := { dst := some 73, op := Op.load 42 (Operand.tmp 14), type := 42, pos := "law.go:93", after := #[], guard := none }
abbrev ieO3 : Oper := { dst := some 74, op := Op.call { callee := Callee.value (Operand.func 16), args := #[Operand.tmp 73], argTypes := #[42] }, type := 25, pos := "law.go:93", after := #[{ on := 2, ground := Ground.data }, { on := 1, ground := Ground.chain }], guard := none }
abbrev ieO4 : Oper := { dst := some 75, op := Op.call { callee := Callee.value (Operand.func 15), args := #[Operand.tmp 72, Operand.tmp 74], argTypes := #[25, 25] }, type := 4, pos := "law.go:93", after := #[{ on := 1, ground := Ground.data }, { on := 3, ground := Ground.data }, { on := 3, ground := Ground.chain }], guard := none }
abbrev ieO5 : Oper := { dst := some 76, op := Op.move (Operand.tmp 75), type := 4, pos := "law.go:93", after := #[{ on := 4, ground := Ground.data }, { on := 4, ground := Ground.chain }], guard := none }
abbrev ieO6 : Oper := { dst := some 77, op := Op.fieldAddr 42 (Operand.tmp 8) 6, type := 0, pos := "law.go:93", after := #[{ on := 5, ground := Ground.guard }], guard := some (5, true) }
abbrev ieO7 : Oper := { dst := some 78, op := Op.load 38 (Operand.tmp 77), type := 38, pos := "law.go:93", after := #[{ on := 6, ground := Ground.data }, { on := 5, ground := Ground.guard }], guard := some (5, true) }
abbrev ieO8 : Oper := { dst := some 79, op := Op.fieldAddr 42 (Operand.tmp 14) 6, type := 0, pos := "law.go:93", after := #[{ on := 5, ground := Ground.guard }], guard := some (5, true) }
abbrev ieO9 : Oper := { dst := some 80, op := Op.load 38 (Operand.tmp 79), type := 38, pos := "law.go:93", after := #[{ on := 8, ground := Ground.data }, { on := 5, ground := Ground.guard }], guard := some (5, true) }
abbrev ieO10 : Oper := { dst := some 81, op := Op.call { callee := Callee.value (Operand.func 14), args := #[Operand.tmp 78, Operand.tmp 80], argTypes := #[38, 38] }, type := 4, pos := "law.go:93", after := #[{ on := 7, ground := Ground.data }, { on := 9, ground := Ground.data }, { on := 5, ground := Ground.chain }, { on := 5, ground := Ground.guard }], guard := some (5, true) }
abbrev ieO11 : Oper := { dst := some 82, op := Op.pick (Operand.tmp 76) (Operand.tmp 81) (Operand.const (Value.bool false)), type := 4, pos := "law.go:93", after := #[{ on := 5, ground := Ground.data }, { on := 10, ground := Ground.data }], guard := none }
abbrev ieO12 : Oper := { dst := some 83, op := Op.move (Operand.tmp 82), type := 4, pos := "law.go:93", after := #[{ on := 11, ground := Ground.data }, { on := 10, ground := Ground.chain }], guard := none }
abbrev ieO13 : Oper := { dst := some 84, op := Op.fieldAddr 42 (Operand.tmp 8) 7, type := 0, pos := "law.go:93", after := #[{ on := 12, ground := Ground.guard }], guard := some (12, true) }
abbrev ieO14 : Oper := { dst := some 85, op := Op.load 40 (Operand.tmp 84), type := 40, pos := "law.go:93", after := #[{ on := 13, ground := Ground.data }, { on := 12, ground := Ground.guard }], guard := some (12, true) }
abbrev ieO15 : Oper := { dst := some 86, op := Op.fieldAddr 42 (Operand.tmp 14) 7, type := 0, pos := "law.go:93", after := #[{ on := 12, ground := Ground.guard }], guard := some (12, true) }
abbrev ieO16 : Oper := { dst := some 87, op := Op.load 40 (Operand.tmp 86), type := 40, pos := "law.go:93", after := #[{ on := 15, ground := Ground.data }, { on := 12, ground := Ground.guard }], guard := some (12, true) }
abbrev ieO17 : Oper := { dst := some 88, op := Op.binOp BinOp.eql 40 (Operand.tmp 85) (Operand.tmp 87) 40, type := 4, pos := "law.go:93", after := #[{ on := 14, ground := Ground.data }, { on := 16, ground := Ground.data }, { on := 12, ground := Ground.guard }], guard := some (12, true) }
abbrev ieO18 : Oper := { dst := some 89, op := Op.pick (Operand.tmp 83) (Operand.tmp 88) (Operand.const (Value.bool false)), type := 4, pos := "law.go:93", after := #[{ on := 12, ground := Ground.data }, { on := 17, ground := Ground.data }], guard := none }
abbrev ieO19 : Oper := { dst := some 90, op := Op.move (Operand.tmp 89), type := 4, pos := "law.go:93", after := #[{ on := 18, ground := Ground.data }, { on := 12, ground := Ground.chain }], guard := none }
abbrev ieO20 : Oper := { dst := some 91, op := Op.load 42 (Operand.tmp 8), type := 42, pos := "law.go:93", after := #[{ on := 19, ground := Ground.guard }], guard := some (19, true) }
abbrev ieO21 : Oper := { dst := some 92, op := Op.call { callee := Callee.value (Operand.func 18), args := #[Operand.tmp 91], argTypes := #[42] }, type := 3, pos := "law.go:93", after := #[{ on := 20, ground := Ground.data }, { on := 19, ground := Ground.chain }, { on := 19, ground := Ground.guard }], guard := some (19, true) }
abbrev ieO22 : Oper := { dst := some 93, op := Op.load 42 (Operand.tmp 14), type := 42, pos := "law.go:93", after := #[{ on := 19, ground := Ground.guard }], guard := some (19, true) }
abbrev ieO23 : Oper := { dst := some 94, op := Op.call { callee := Callee.value (Operand.func 18), args := #[Operand.tmp 93], argTypes := #[42] }, type := 3, pos := "law.go:93", after := #[{ on := 22, ground := Ground.data }, { on := 21, ground := Ground.chain }, { on := 19, ground := Ground.guard }], guard := some (19, true) }
abbrev ieO24 : Oper := { dst := some 95, op := Op.binOp BinOp.eql 3 (Operand.tmp 92) (Operand.tmp 94) 3, type := 4, pos := "law.go:93", after := #[{ on := 21, ground := Ground.data }, { on := 23, ground := Ground.data }, { on := 19, ground := Ground.guard }], guard := some (19, true) }
abbrev ieO25 : Oper := { dst := some 96, op := Op.pick (Operand.tmp 90) (Operand.tmp 95) (Operand.const (Value.bool false)), type := 4, pos := "law.go:93", after := #[{ on := 19, ground := Ground.data }, { on := 24, ground := Ground.data }], guard := none }
abbrev ieO26 : Oper := { dst := some 97, op := Op.move (Operand.tmp 96), type := 4, pos := "law.go:93", after := #[{ on := 25, ground := Ground.data }, { on := 23, ground := Ground.chain }], guard := none }
abbrev ieO27 : Oper := { dst := some 98, op := Op.load 42 (Operand.tmp 8), type := 42, pos := "law.go:93", after := #[{ on := 26, ground := Ground.guard }], guard := some (26, true) }
abbrev ieO28 : Oper := { dst := some 99, op := Op.call { callee := Callee.value (Operand.func 20), args := #[Operand.tmp 98], argTypes := #[42] }, type := 3, pos := "law.go:93", after := #[{ on := 27, ground := Ground.data }, { on := 26, ground := Ground.chain }, { on := 26, ground := Ground.guard }], guard := some (26, true) }
abbrev ieO29 : Oper := { dst := some 100, op := Op.load 42 (Operand.tmp 14), type := 42, pos := "law.go:93", after := #[{ on := 26, ground := Ground.guard }], guard := some (26, true) }
abbrev ieO30 : Oper := { dst := some 101, op := Op.call { callee := Callee.value (Operand.func 20), args := #[Operand.tmp 100], argTypes := #[42] }, type := 3, pos := "law.go:93", after := #[{ on := 29, ground := Ground.data }, { on := 28, ground := Ground.chain }, { on := 26, ground := Ground.guard }], guard := some (26, true) }
abbrev ieO31 : Oper := { dst := some 102, op := Op.binOp BinOp.eql 3 (Operand.tmp 99) (Operand.tmp 101) 3, type := 4, pos := "law.go:93", after := #[{ on := 28, ground := Ground.data }, { on := 30, ground := Ground.data }, { on := 26, ground := Ground.guard }], guard := some (26, true) }
abbrev ieO32 : Oper := { dst := some 103, op := Op.pick (Operand.tmp 97) (Operand.tmp 102) (Operand.const (Value.bool false)), type := 4, pos := "law.go:93", after := #[{ on := 26, ground := Ground.data }, { on := 31, ground := Ground.data }], guard := none }
abbrev ieO33 : Oper := { dst := some 16, op := Op.assign (Operand.tmp 103), type := 4, pos := "law.go:93", after := #[{ on := 32, ground := Ground.data }, { on := 30, ground := Ground.chain }, { on := 0, ground := Ground.phase }, { on := 1, ground := Ground.phase }, { on := 2, ground := Ground.phase }, { on := 3, ground := Ground.phase }, { on := 4, ground := Ground.phase }, { on := 5, ground := Ground.phase }, { on := 6, ground := Ground.phase }, { on := 7, ground := Ground.phase }, { on := 8, ground := Ground.phase }, { on := 9, ground := Ground.phase }, { on := 10, ground := Ground.phase }, { on := 11, ground := Ground.phase }, { on := 12, ground := Ground.phase }, { on := 13, ground := Ground.phase }, { on := 14, ground := Ground.phase }, { on := 15, ground := Ground.phase }, { on := 16, ground := Ground.phase }, { on := 17, ground := Ground.phase }, { on := 18, ground := Ground.phase }, { on := 19, ground := Ground.phase }, { on := 20, ground := Ground.phase }, { on := 21, ground := Ground.phase }, { on := 22, ground := Ground.phase }, { on := 23, ground := Ground.phase }, { on := 24, ground := Ground.phase }, { on := 25, ground := Ground.phase }, { on := 26, ground := Ground.phase }, { on := 27, ground := Ground.phase }, { on := 28, ground := Ground.phase }, { on := 29, ground := Ground.phase }, { on := 30, ground := Ground.phase }, { on := 31, ground := Ground.phase }, { on := 32, ground := Ground.phase }], guard := none }
set_option maxHeartbeats 4000000 in
theorem idle13_short (A:AllOk) {w:World} (hEw:ErrT w) (pc cn:Nat) (hp:pc < 256) (hc:cn < 256) {v:Value} {l:List Op13} (haw:OV w v l) (oo:Op13) (hoo:oo.Ok):Calls Tryz.prog 6 #[.agg #[.int .u8 (pc:Nat),.int .u8 (cn:Nat)],v,.agg (op13C oo)] w (RetB w true):=by
 obtain ⟨W0,hW0⟩:∃ W0,(w.alloc (.cells #[.int .u8 (pc:Nat),.int .u8 (cn:Nat)] 86)).alloc (.cells (op13C oo) OpT)=W0:=⟨_,rfl⟩
 have hlo:=low_two w (.cells #[.int .u8 (pc:Nat),.int .u8 (cn:Nat)] 86) (.cells (op13C oo) OpT)
 have hbp:W0.heap[w.heap.size]? = some (.cells #[.int .u8 (pc:Nat),.int .u8 (cn:Nat)] 86 (0,0))/\W0.heap[w.heap.size+1]? = some (.cells (op13C oo) OpT (0,0)):=by
  rw [<- hW0]
  refine ⟨?_,?_⟩
  ·rw [Below.heap_alloc _ _ _ (by simp)]
   exact heap_alloc_new w _
  ·have:=heap_alloc_new (w.alloc (.cells #[.int .u8 (pc:Nat),.int .u8 (cn:Nat)] 86)) (.cells (op13C oo) OpT)
   rwa [World.size_alloc] at this
 rw [hW0] at hlo
 have HLO:=Lib.hid hlo
 have HBP:=Lib.hid hbp
 have hE:=hEw.below hlo hEw.lt
 have ha:=haw.below hlo
 have HO2:=Lib.hid hoo
 clear hlo hbp hEw haw hoo
 have HA:=Lib.hid A
 have HAV:=Lib.hid ha
 obtain ⟨A0,cap,rfl,hov⟩:=ha.mem
 have HOV:=Lib.hid hov
 obtain ⟨na,hna⟩:∃ na,l.length=na:=⟨_,rfl⟩
 rw [hna] at HAV ⊢
 have HNA:=Lib.hid hna
 have HE:=Lib.hid hE
 have hw0:=hE.lt
 have K0:=Lib.hid (awake13 A hE)
 clear A hE ha hov hna
 go_enter Tryz.func6,Tryz.ntmps6
 go_wp2_with fail
 try rw [hW0]
 clear hW0
 refine K0.out.mono ?_
 rintro e w1 ⟨rfl,hb1⟩
 have HL1:=Lib.hid hb1
 have HAV1:=Lib.hid (HAV.out.below hb1)
 have HE1:=Lib.hid (HE.out.below hb1 hw0)
 have KF:=Lib.hid (rfew13_walk HAV1.out)
 clear hb1 K0 HAV HE
 go_wp2_with fail
 refine KF.out.mono ?_
 rintro e w1' ⟨rfl,rfl⟩
 clear KF
 cases hfw:few13 l with
 | false =>
  go_wp2
  go_ret
  exact ⟨rfl,HLO.out.trans (HL1.out.mono HLO.out.size)⟩
 | true =>
  have hlen:=few13_len hfw
  have HSM:=Lib.hid (few13_small hfw)
  have HOS:=Lib.hid (fun o (ho:o∈l)=>(show o.Ok/\o.Small from by
   obtain ⟨j,hj,rfl⟩:=List.getElem_of_mem ho
   exact ⟨(HOV.out j hj).1,HSM.out _ ho⟩))
  have hbp1:=(HL1.out.block _ (head_row HBP.out.1).lt).trans HBP.out.1
  obtain ⟨⟨u0,u1⟩,-⟩:=c2_at hbp1
  clear hbp1
  have KB:=Lib.hid (begin13_walk HA.out (w:=w1') pc cn hp hc)
  clear hfw
  go_wp2_with fail
  refine KB.out.mono ?_
  rintro e w2 ⟨x,y,rfl,hb2,hsx,-⟩
  obtain ⟨m0,hm0⟩:∃ m0,M13.new (1+pc % 5) ((1+cn % 12:Nat):Int)=m0:=⟨_,rfl⟩
  have hok0:m0.Ok:=by rw [<- hm0];exact M13.ok_new _ _
  have hlw0:m0.Low 0:=by rw [<- hm0];exact M13.low_new _ _
  rw [hm0] at hsx
  have HZ0:=Lib.hid (show cnC m0=#[.int .i64 0,.int .i64 0,.int .i64 0] from by rw [<- hm0];rfl)
  have HRUN:=Lib.hid (fun i:Nat=>(show (m0.run (l.take i)).Ok/\(m0.run (l.take i)).Low 1000 from ⟨hok0.run _ (fun o ho=>HOS.out o (List.mem_of_mem_take ho)),(hok0.runLow _ 0 hlw0 (fun o ho=>HOS.out o (List.mem_of_mem_take ho))).mono (by rw [List.length_take];omega)⟩))
  have t2:=st3 w2 x y
  have hl2:=hb2.trans (t2.low.mono hb2.size)
  have hl2':Below W0.heap.size W0 _:=HL1.out.trans (hl2.mono HL1.out.size)
  have HLP:Hid (Lp W0 _ w2.heap.size m0):=Lib.hid ⟨hl2',HE1.out.below hl2 (by have:=HL1.out.size;omega),x,t2.box1,hsx.below t2.low⟩
  have HAV2:=Lib.hid (HAV1.out.below hl2)
  have HW2:=Lib.hid (Nat.le_trans HL1.out.size hb2.size)
  obtain ⟨V2,hV2⟩:∃ V,((((w2.alloc (.cells z13 PT13)).alloc (.cells z13 T13)).setCells w2.heap.size 0 x.C.toList).setCells (w2.heap.size+1) 0 y.C.toList)=V:=⟨_,rfl⟩
  rw [hV2] at HLP HAV2
  obtain ⟨cx,hcx⟩:∃ c,x.C=c:=⟨_,rfl⟩
  obtain ⟨cy,hcy⟩:∃ c,y.C=c:=⟨_,rfl⟩
  rw [hcx,hcy] at t2 hV2
  have T2:=Lib.hid t2
  have HCX:=Lib.hid hcx
  have HCY:=Lib.hid hcy
  have HOK0:=Lib.hid hok0
  have HLW0:=Lib.hid hlw0
  clear u0 u1 KB hb2 hsx t2 hl2 hl2' hcx hcy hm0 hok0 hlw0 HL1 HE1 HAV1
  go_upto_region 5 with (first | (refine wpList_store_mid rfl PT13 (.tmp 8) (.tmp 28) rfl w2.heap.size 0 cx rfl (congrArg Value.agg HCX.out) T2.out.th1 T2.out.inf1 T2.out.one1 ?_) | (refine wpList_store_mid rfl T13 (.tmp 9) (.tmp 29) rfl (w2.heap.size+1) 0 cy rfl (congrArg Value.agg HCY.out) T2.out.th2 T2.out.inf2 T2.out.one2 ?_))
  try rw [hV2]
  clear hV2 T2
  go_upto_region 6 with fail
  obtain ⟨b8,hb8⟩:∃ b,w2.heap.size=b:=⟨_,rfl⟩
  rw [hb8] at HLP ⊢
  have hwb8:W0.heap.size<=b8:=by rw [<- hb8];exact HW2.out
  have HI0:=HLP
  clear HLP hb8 HAV2 HCX HCY
  go_loopg [10,11,12] na (fun gg s10 s11 s12 wr=>∃ i:Nat,i+gg=na/\s10 = .int .i64 (i:Nat)/\Hid (Lp W0 wr b8 (m0.run (l.take i))))
  case atStart=>exact ⟨0,by omega,rfl,HI0⟩
  case round =>
   obtain ⟨i,hi,rfl,HI⟩:=hrel
   by_cases hlt:i < na
   ·have hltI:(i:Int) < (na:Int):=by omega
    have hiI:(0:Int)<=(i:Int):=by omega
    have hil:i < l.length:=by rw [HNA.out];exact hlt
    have HNX:=Lib.hid (M13.run_next m0 hil)
    obtain ⟨ook,g,off,hAe,hg,hop⟩:=HOV.out i hil
    have osm:=HSM.out _ (List.getElem_mem hil)
    have HOKI:=Lib.hid (show (m0.run (l.take i)).Ok/\(m0.run (l.take i)).Low 1000 from HRUN.out i)
    obtain ⟨m,hm⟩:∃ m,m0.run (l.take i)=m:=⟨_,rfl⟩
    obtain ⟨o,ho⟩:∃ o,l[i]=o:=⟨_,rfl⟩
    rw [hm] at HI HNX HOKI
    rw [ho] at HNX ook osm hop
    obtain ⟨x,hbx,hsx⟩:=HI.out.box
    obtain ⟨a0,ha0⟩:∃ a,m.ans o=a:=⟨_,rfl⟩
    subst hAe
    obtain ⟨c,hc1⟩:∃ c,x.C=c:=⟨_,rfl⟩
    have HST:=Lib.hid (show ∀ W,Below wr.heap.size wr W->Calls Tryz.prog 11 #[.agg c,.agg (op13C o)] W (P13 W (m.step o) a0) from fun W hW=>by
     rw [<- hc1,<- ha0]
     exact step13_walk HA.out (HI.out.err.below hW HI.out.err.lt) (hsx.below hW) HOKI.out.1 HOKI.out.2 ook osm)
    have HSR:=Lib.hid (show ∀ W,Below wr.heap.size wr W->W.rangeAt b8 0 c.toList/\OpAt W g (off+i * 4) o from fun W hW=>by
     rw [<- hc1]
     exact ⟨range_of ((hW.block _ (head_row hbx).lt).trans hbx),hop.keep ((hW.block g (Nat.lt_of_lt_of_le hg HI.out.low.size)).trans (HI.out.low.block g hg))⟩)
    have hi24:(Tryz.prog.info? PT13).map (·.size)=some c.toList.length:=by rw [<- hc1];kernel_rfl
    have HA0:=Lib.hid ha0
    have HC1:=Lib.hid hc1
    have HBX:=Lib.hid hbx
    have HOO:=Lib.hid (And.intro ook osm)
    clear ha0 hc1 hbx hsx ook osm hop hm ho
    go_upto_region 8 with fail
    go_cut [11,12] (fun s12 s13 wx=>Af13 wr (m.step o) a0 s12 s13 wx)
    case first =>
     clear HI HLW0 HOK0 HZ0 HRUN HOS HSM HI0 HNX HOKI HOV HOO
     refine wp_region_held_drew (S:=fun W=>W.rangeAt b8 0 c.toList/\OpAt W g (off+i * 4) o) (by kernel_rfl) (HSR.out _ (Below.refl wr.heap.size wr).drew) (fun hH=>?_)
     refine wpAnyH_take (i:=0) (oi:=idO0) rfl (by kernel_rfl) (by kernel_rfl) (by kernel_rfl) (fun _ _ _ h=>h) (yieldsIf_load_mid (by rfl) PT13 (.tmp 8) rfl b8 0 rfl c.toList _ (fun W h=>h.1) Tryz.underlying42 rfl hi24) hH ?_
     simp only [Act.put,List.setIfInBounds_toArray,List.set_cons_zero,List.set_cons_succ]
     refine wpAnyH_take (i:=1) (oi:=idO1) (v := .slice (some ⟨g,off,none⟩) na cap) rfl (by kernel_rfl) (by kernel_rfl) (by kernel_rfl) (fun _ _ _ h=>h) (Or.inl ⟨by rfl,fun W hW=>?h1⟩) hH ?_
     case h1=>dsimp only [idO1];go_simp
     simp only [Act.put,List.setIfInBounds_toArray,List.set_cons_zero,List.set_cons_succ]
     refine wpAnyH_take (i:=2) (oi:=idO2) (v := .int .i64 (i:Nat)) rfl (by kernel_rfl) (by kernel_rfl) (by kernel_rfl) (fun _ _ _ h=>h) (Or.inl ⟨by rfl,fun W hW=>?h2⟩) hH ?_
     case h2=>dsimp only [idO2];go_simp
     simp only [Act.put,List.setIfInBounds_toArray,List.set_cons_zero,List.set_cons_succ]
     refine wpAnyH_take (i:=3) (oi:=idO3) (v := .pointer (some ⟨g,off+i * 4,none⟩)) rfl (by kernel_rfl) (by kernel_rfl) (by kernel_rfl) (fun _ _ _ h=>h) (Or.inl ⟨by rfl,fun W hW=>?h3⟩) hH ?_
     case h3=>dsimp only [idO3];go_simp
     simp only [Act.put,List.setIfInBounds_toArray,List.set_cons_zero,List.set_cons_succ]
     refine wpAnyH_take (i:=4) (oi:=idO4) (v := .agg (op13C o)) rfl (by kernel_rfl) (by kernel_rfl) (by kernel_rfl) (fun _ _ _ h=>h) (Or.inl ⟨by rfl,fun W hW=>?h4⟩) hH ?_
     case h4 =>
      dsimp only [idO4]
      obtain ⟨-,q0,q1,q2,q3⟩:=hW
      go_simp
     simp only [Act.put,List.setIfInBounds_toArray,List.set_cons_zero,List.set_cons_succ]
     have hb_0:=(Below.refl wr.heap.size wr).drew
     obtain ⟨W0,hW0⟩:∃ X,wr.drew=X:=⟨_,rfl⟩
     rw [hW0] at hb_0 hH ⊢
     refine wpAnyH_ready (rs:=[5,9,10]) (by kernel_rfl) (by simp) ?_
     refine AllReadyH.cons (o:=idO5) rfl (fun K hK=>?_) ?_
     ·dsimp only [idO5]
      go_simp
      refine (HST.out W0 hb_0).mono ?_
      rintro e W1 ⟨x2,F2,k2',d2,rfl,hbs,hst,hpv⟩
      have hb_1:=hb_0.trans (hbs.mono hb_0.size)
      obtain ⟨c2,hc2⟩:∃ c,x2.C=c:=⟨_,rfl⟩
      obtain ⟨a2,ha2⟩:∃ a,an13C a0.hit a0.val a0.n a0.err F2 k2' d2=a:=⟨_,rfl⟩
      rw [hc2,ha2]
      refine hK.out _ _ (HSR.out _ hb_1) (fun hH=>?_)
      try simp only [Act.put,List.setIfInBounds_toArray,List.set_cons_zero,List.set_cons_succ]
      refine wpAnyH_take (i:=6) (oi:=idO6) (v := .tuple #[.agg c2,.agg a2]) rfl (by kernel_rfl) (by kernel_rfl) (by kernel_rfl) (fun _ _ _ h=>h) (Or.inl ⟨by rfl,fun W hW=>?h6⟩) hH ?_
      case h6=>dsimp only [idO6];go_simp
      simp only [Act.put,List.setIfInBounds_toArray,List.set_cons_zero,List.set_cons_succ]
      refine wpAnyH_take (i:=7) (oi:=idO7) (v := .agg c2) rfl (by kernel_rfl) (by kernel_rfl) (by kernel_rfl) (fun _ _ _ h=>h) (Or.inl ⟨by rfl,fun W hW=>?h7⟩) hH ?_
      case h7=>dsimp only [idO7];go_simp
      simp only [Act.put,List.setIfInBounds_toArray,List.set_cons_zero,List.set_cons_succ]
      refine wpAnyH_take (i:=8) (oi:=idO8) (v := .agg a2) rfl (by kernel_rfl) (by kernel_rfl) (by kernel_rfl) (fun _ _ _ h=>h) (Or.inl ⟨by rfl,fun W hW=>?h8⟩) hH ?_
      case h8=>dsimp only [idO8];go_simp
      simp only [Act.put,List.setIfInBounds_toArray,List.set_cons_zero,List.set_cons_succ]
      refine wpAnyH_ready (rs:=[9,10]) (by kernel_rfl) (by simp) ?_
      refine AllReadyH.cons (o:=idO9) rfl (fun K hK=>?_) ?_
      ·dsimp only [idO9]
       have hb_2:=hb_1.alloc hb_1.size (.cells z13 PT13)
       obtain ⟨pA,hpAe⟩:∃ p,W1.heap.size=p:=⟨_,rfl⟩
       have hpA:wr.heap.size<=pA:=by rw [<- hpAe];exact hb_1.size
       have hA:=heap_alloc_new W1 (.cells z13 PT13)
       rw [hpAe] at hA
       replace hst:=hst.below (low_one W1 (.cells z13 PT13))
       replace hpv:=hpv.below (low_one W1 (.cells z13 PT13))
       obtain ⟨W2,hW2⟩:∃ X,W1.alloc (.cells z13 PT13)=X:=⟨_,rfl⟩
       rw [hW2] at hb_2 hA hst hpv
       go_simp
       try rw [hW2]
       try rw [hpAe]
       refine hK.out _ _ (HSR.out _ hb_2) (fun hH=>?_)
       try simp only [Act.put,List.setIfInBounds_toArray,List.set_cons_zero,List.set_cons_succ]
       refine wpAnyH_ready (rs:=[10]) (by kernel_rfl) (by simp) ?_
       refine AllReadyH.cons (o:=idO10) rfl (fun K hK=>?_) AllReadyH.nil
       dsimp only [idO10]
       have hb_3:=hb_2.alloc hb_2.size (.cells zA AnsT)
       obtain ⟨pB,hpBe⟩:∃ p,W2.heap.size=p:=⟨_,rfl⟩
       have hpB:wr.heap.size<=pB:=by rw [<- hpBe];exact hb_2.size
       have hB:=heap_alloc_new W2 (.cells zA AnsT)
       rw [hpBe] at hB
       have hAB:pA≠pB:=by have:=(head_row hA).lt;omega
       replace hA:=(Below.heap_alloc W2 (.cells zA AnsT) _ (head_row hA).lt).trans hA
       replace hst:=hst.below (low_one W2 (.cells zA AnsT))
       replace hpv:=hpv.below (low_one W2 (.cells zA AnsT))
       obtain ⟨W3,hW3⟩:∃ X,W2.alloc (.cells zA AnsT)=X:=⟨_,rfl⟩
       rw [hW3] at hb_3 hB hA hst hpv
       go_simp
       try rw [hW3]
       try rw [hpBe]
       refine hK.out _ _ (HSR.out _ hb_3) (fun hH=>?_)
       try simp only [Act.put,List.setIfInBounds_toArray,List.set_cons_zero,List.set_cons_succ]
       have hcs2:c2.size=24:=by rw [<- hc2];rfl
       have hca2:a2.size=5:=by rw [<- ha2];rfl
       refine wpAnyH_ready (rs:=[11]) (by kernel_rfl) (by simp) ?_
       refine AllReadyH.cons (o:=idO11) rfl (fun K hK=>?_) AllReadyH.nil
       dsimp only [idO11]
       rw [if_pos (show Region.wanted _ _=true from by rfl)]
       refine wp_store_mid PT13 (.tmp 11) (.tmp 43) rfl pA 0 c2 rfl rfl (by rw [hcs2];exact there_of hA rfl) (by rw [hcs2];kernel_rfl) (by rw [<- hc2];exact V13.one _) ?_
       have o1:Only [pA] W3 (W3.setCells pA 0 c2.toList):=only_setCells (by simp) _ _ _ _ (Only.refl _ _)
       have hb1:=hb_3.trans (o1.below (by simpa using hpA) hb_3.size)
       have k1:=block_whole (vs:=c2) hA (by rw [hcs2];rfl)
       have k2:=(o1.block _ (head_row hB).lt (by simpa using hAB.symm)).trans hB
       refine hK.out _ _ (HSR.out _ hb1) (fun hH=>?_)
       simp only [Act.put]
       refine wpAnyH_ready (rs:=[12]) (by kernel_rfl) (by simp) ?_
       refine AllReadyH.cons (o:=idO12) rfl (fun K hK=>?_) AllReadyH.nil
       dsimp only [idO12]
       rw [if_pos (show Region.wanted _ _=true from by rfl)]
       refine wp_store_mid AnsT (.tmp 12) (.tmp 44) rfl pB 0 a2 rfl rfl (by rw [hca2];exact there_of k2 rfl) (by rw [hca2];kernel_rfl) (by rw [<- ha2];exact an_one _ _ _ _ _ _ _) ?_
       have o2:Only [pB] (W3.setCells pA 0 c2.toList) ((W3.setCells pA 0 c2.toList).setCells pB 0 a2.toList):=only_setCells (by simp) _ _ _ _ (Only.refl _ _)
       have hb2:=hb1.trans (o2.below (by simpa using hpB) hb1.size)
       refine hK.out _ _ (HSR.out _ hb2) (fun _=>?_)
       simp only [Act.put]
       refine wpAnyH_done (by kernel_rfl) ?_ _
       have k3:=(o2.block _ (head_row k1).lt (by simpa using hAB)).trans k1
       have k4:=block_whole (vs:=a2) k2 (by rw [hca2];rfl)
       have x1:∀ j∈[pA],Bx W3 j:=fun j hj=>by
        rw [show j=pA by simpa using hj]
        exact ⟨_,_,hA,rfl,by decide⟩
       have x2':∀ j∈[pB], ∃ cs e,(W3.setCells pA 0 c2.toList).heap[j]? = some (.cells cs e (0,0))/\noUU cs.toList=true:=fun j hj=>by
        rw [show j=pB by simpa using hj]
        exact ⟨_,_,k2,rfl⟩
       have x3':∀ j∈[pB],Bn (W3.setCells pA 0 c2.toList) j:=fun j hj=>by
        rw [show j=pB by simpa using hj]
        exact ⟨_,_,_,k2,by decide⟩
       have s1:=hst.only o1 x1
       have s2:St13 _ _ _:=⟨s1.pol.onlyN o2 x3',s1.prs.onlyA o2 x2',s1.hi,s1.mi,s1.ev⟩
       have s3:=(hpv.only o1 x1).onlyA o2 x2'
       have HF:=Lib.hid (show Af13 wr (m.step o) a0 (.pointer (some ⟨pA,0,none⟩)) (.pointer (some ⟨pB,0,none⟩)) ((W3.setCells pA 0 c2.toList).setCells pB 0 a2.toList) from ⟨pA,pB,x2,F2,k2',d2,rfl,rfl,hb2,hpA,hpB,hAB,by rw [hc2];exact k3,by rw [ha2];exact k4,s2,s3⟩)
       clear hb2 k1 k2 k3 k4 s1 s2 s3 o1 o2 x1 x2' x3' hb1 hA hB hst hpv hH
       go_wp2_with fail
       go_meet
       exact HF.out
      refine AllReadyH.cons (o:=idO10) rfl (fun K hK=>?_) AllReadyH.nil
      dsimp only [idO10]
      have hb_2:=hb_1.alloc hb_1.size (.cells zA AnsT)
      obtain ⟨pB,hpBe⟩:∃ p,W1.heap.size=p:=⟨_,rfl⟩
      have hpB:wr.heap.size<=pB:=by rw [<- hpBe];exact hb_1.size
      have hB:=heap_alloc_new W1 (.cells zA AnsT)
      rw [hpBe] at hB
      replace hst:=hst.below (low_one W1 (.cells zA AnsT))
      replace hpv:=hpv.below (low_one W1 (.cells zA AnsT))
      obtain ⟨W2,hW2⟩:∃ X,W1.alloc (.cells zA AnsT)=X:=⟨_,rfl⟩
      rw [hW2] at hb_2 hB hst hpv
      go_simp
      try rw [hW2]
      try rw [hpBe]
      refine hK.out _ _ (HSR.out _ hb_2) (fun hH=>?_)
      try simp only [Act.put,List.setIfInBounds_toArray,List.set_cons_zero,List.set_cons_succ]
      refine wpAnyH_ready (rs:=[9]) (by kernel_rfl) (by simp) ?_
      refine AllReadyH.cons (o:=idO9) rfl (fun K hK=>?_) AllReadyH.nil
      dsimp only [idO9]
      have hb_3:=hb_2.alloc hb_2.size (.cells z13 PT13)
      obtain ⟨pA,hpAe⟩:∃ p,W2.heap.size=p:=⟨_,rfl⟩
      have hpA:wr.heap.size<=pA:=by rw [<- hpAe];exact hb_2.size
      have hA:=heap_alloc_new W2 (.cells z13 PT13)
      rw [hpAe] at hA
      have hAB:pA≠pB:=by have:=(head_row hB).lt;omega
      replace hB:=(Below.heap_alloc W2 (.cells z13 PT13) _ (head_row hB).lt).trans hB
      replace hst:=hst.below (low_one W2 (.cells z13 PT13))
      replace hpv:=hpv.below (low_one W2 (.cells z13 PT13))
      obtain ⟨W3,hW3⟩:∃ X,W2.alloc (.cells z13 PT13)=X:=⟨_,rfl⟩
      rw [hW3] at hb_3 hA hB hst hpv
      go_simp
      try rw [hW3]
      try rw [hpAe]
      refine hK.out _ _ (HSR.out _ hb_3) (fun hH=>?_)
      try simp only [Act.put,List.setIfInBounds_toArray,List.set_cons_zero,List.set_cons_succ]
      have hcs2:c2.size=24:=by rw [<- hc2];rfl
      have hca2:a2.size=5:=by rw [<- ha2];rfl
      refine wpAnyH_ready (rs:=[11]) (by kernel_rfl) (by simp) ?_
      refine AllReadyH.cons (o:=idO11) rfl (fun K hK=>?_) AllReadyH.nil
      dsimp only [idO11]
      rw [if_pos (show Region.wanted _ _=true from by rfl)]
      refine wp_store_mid PT13 (.tmp 11) (.tmp 43) rfl pA 0 c2 rfl rfl (by rw [hcs2];exact there_of hA rfl) (by rw [hcs2];kernel_rfl) (by rw [<- hc2];exact V13.one _) ?_
      have o1:Only [pA] W3 (W3.setCells pA 0 c2.toList):=only_setCells (by simp) _ _ _ _ (Only.refl _ _)
      have hb1:=hb_3.trans (o1.below (by simpa using hpA) hb_3.size)
      have k1:=block_whole (vs:=c2) hA (by rw [hcs2];rfl)
      have k2:=(o1.block _ (head_row hB).lt (by simpa using hAB.symm)).trans hB
      refine hK.out _ _ (HSR.out _ hb1) (fun hH=>?_)
      simp only [Act.put]
      refine wpAnyH_ready (rs:=[12]) (by kernel_rfl) (by simp) ?_
      refine AllReadyH.cons (o:=idO12) rfl (fun K hK=>?_) AllReadyH.nil
      dsimp only [idO12]
      rw [if_pos (show Region.wanted _ _=true from by rfl)]
      refine wp_store_mid AnsT (.tmp 12) (.tmp 44) rfl pB 0 a2 rfl rfl (by rw [hca2];exact there_of k2 rfl) (by rw [hca2];kernel_rfl) (by rw [<- ha2];exact an_one _ _ _ _ _ _ _) ?_
      have o2:Only [pB] (W3.setCells pA 0 c2.toList) ((W3.setCells pA 0 c2.toList).setCells pB 0 a2.toList):=only_setCells (by simp) _ _ _ _ (Only.refl _ _)
      have hb2:=hb1.trans (o2.below (by simpa using hpB) hb1.size)
      refine hK.out _ _ (HSR.out _ hb2) (fun _=>?_)
      simp only [Act.put]
      refine wpAnyH_done (by kernel_rfl) ?_ _
      have k3:=(o2.block _ (head_row k1).lt (by simpa using hAB)).trans k1
      have k4:=block_whole (vs:=a2) k2 (by rw [hca2];rfl)
      have x1:∀ j∈[pA],Bx W3 j:=fun j hj=>by
       rw [show j=pA by simpa using hj]
       exact ⟨_,_,hA,rfl,by decide⟩
      have x2':∀ j∈[pB], ∃ cs e,(W3.setCells pA 0 c2.toList).heap[j]? = some (.cells cs e (0,0))/\noUU cs.toList=true:=fun j hj=>by
       rw [show j=pB by simpa using hj]
       exact ⟨_,_,k2,rfl⟩
      have x3':∀ j∈[pB],Bn (W3.setCells pA 0 c2.toList) j:=fun j hj=>by
       rw [show j=pB by simpa using hj]
       exact ⟨_,_,_,k2,by decide⟩
      have s1:=hst.only o1 x1
      have s2:St13 _ _ _:=⟨s1.pol.onlyN o2 x3',s1.prs.onlyA o2 x2',s1.hi,s1.mi,s1.ev⟩
      have s3:=(hpv.only o1 x1).onlyA o2 x2'
      have HF:=Lib.hid (show Af13 wr (m.step o) a0 (.pointer (some ⟨pA,0,none⟩)) (.pointer (some ⟨pB,0,none⟩)) ((W3.setCells pA 0 c2.toList).setCells pB 0 a2.toList) from ⟨pA,pB,x2,F2,k2',d2,rfl,rfl,hb2,hpA,hpB,hAB,by rw [hc2];exact k3,by rw [ha2];exact k4,s2,s3⟩)
      clear hb2 k1 k2 k3 k4 s1 s2 s3 o1 o2 x1 x2' x3' hb1 hA hB hst hpv hH
      go_wp2_with fail
      go_meet
      exact HF.out
     refine AllReadyH.cons (o:=idO9) rfl (fun K hK=>?_) ?_
     ·dsimp only [idO9]
      have hb_1:=hb_0.alloc hb_0.size (.cells z13 PT13)
      obtain ⟨pA,hpAe⟩:∃ p,W0.heap.size=p:=⟨_,rfl⟩
      have hpA:wr.heap.size<=pA:=by rw [<- hpAe];exact hb_0.size
      have hA:=heap_alloc_new W0 (.cells z13 PT13)
      rw [hpAe] at hA
      obtain ⟨W1,hW1⟩:∃ X,W0.alloc (.cells z13 PT13)=X:=⟨_,rfl⟩
      rw [hW1] at hb_1 hA
      go_simp
      try rw [hW1]
      try rw [hpAe]
      refine hK.out _ _ (HSR.out _ hb_1) (fun hH=>?_)
      try simp only [Act.put,List.setIfInBounds_toArray,List.set_cons_zero,List.set_cons_succ]
      refine wpAnyH_ready (rs:=[5,10]) (by kernel_rfl) (by simp) ?_
      refine AllReadyH.cons (o:=idO5) rfl (fun K hK=>?_) ?_
      ·dsimp only [idO5]
       go_simp
       refine (HST.out W1 hb_1).mono ?_
       rintro e W2 ⟨x2,F2,k2',d2,rfl,hbs,hst,hpv⟩
       have hb_2:=hb_1.trans (hbs.mono hb_1.size)
       replace hA:=(hbs.block _ (head_row hA).lt).trans hA
       obtain ⟨c2,hc2⟩:∃ c,x2.C=c:=⟨_,rfl⟩
       obtain ⟨a2,ha2⟩:∃ a,an13C a0.hit a0.val a0.n a0.err F2 k2' d2=a:=⟨_,rfl⟩
       rw [hc2,ha2]
       refine hK.out _ _ (HSR.out _ hb_2) (fun hH=>?_)
       try simp only [Act.put,List.setIfInBounds_toArray,List.set_cons_zero,List.set_cons_succ]
       refine wpAnyH_take (i:=6) (oi:=idO6) (v := .tuple #[.agg c2,.agg a2]) rfl (by kernel_rfl) (by kernel_rfl) (by kernel_rfl) (fun _ _ _ h=>h) (Or.inl ⟨by rfl,fun W hW=>?h6⟩) hH ?_
       case h6=>dsimp only [idO6];go_simp
       simp only [Act.put,List.setIfInBounds_toArray,List.set_cons_zero,List.set_cons_succ]
       refine wpAnyH_take (i:=7) (oi:=idO7) (v := .agg c2) rfl (by kernel_rfl) (by kernel_rfl) (by kernel_rfl) (fun _ _ _ h=>h) (Or.inl ⟨by rfl,fun W hW=>?h7⟩) hH ?_
       case h7=>dsimp only [idO7];go_simp
       simp only [Act.put,List.setIfInBounds_toArray,List.set_cons_zero,List.set_cons_succ]
       refine wpAnyH_take (i:=8) (oi:=idO8) (v := .agg a2) rfl (by kernel_rfl) (by kernel_rfl) (by kernel_rfl) (fun _ _ _ h=>h) (Or.inl ⟨by rfl,fun W hW=>?h8⟩) hH ?_
       case h8=>dsimp only [idO8];go_simp
       simp only [Act.put,List.setIfInBounds_toArray,List.set_cons_zero,List.set_cons_succ]
       refine wpAnyH_ready (rs:=[10]) (by kernel_rfl) (by simp) ?_
       refine AllReadyH.cons (o:=idO10) rfl (fun K hK=>?_) AllReadyH.nil
       dsimp only [idO10]
       have hb_3:=hb_2.alloc hb_2.size (.cells zA AnsT)
       obtain ⟨pB,hpBe⟩:∃ p,W2.heap.size=p:=⟨_,rfl⟩
       have hpB:wr.heap.size<=pB:=by rw [<- hpBe];exact hb_2.size
       have hB:=heap_alloc_new W2 (.cells zA AnsT)
       rw [hpBe] at hB
       have hAB:pA≠pB:=by have:=(head_row hA).lt;omega
       replace hA:=(Below.heap_alloc W2 (.cells zA AnsT) _ (head_row hA).lt).trans hA
       replace hst:=hst.below (low_one W2 (.cells zA AnsT))
       replace hpv:=hpv.below (low_one W2 (.cells zA AnsT))
       obtain ⟨W3,hW3⟩:∃ X,W2.alloc (.cells zA AnsT)=X:=⟨_,rfl⟩
       rw [hW3] at hb_3 hB hA hst hpv
       go_simp
       try rw [hW3]
       try rw [hpBe]
       refine hK.out _ _ (HSR.out _ hb_3) (fun hH=>?_)
       try simp only [Act.put,List.setIfInBounds_toArray,List.set_cons_zero,List.set_cons_succ]
       have hcs2:c2.size=24:=by rw [<- hc2];rfl
       have hca2:a2.size=5:=by rw [<- ha2];rfl
       refine wpAnyH_ready (rs:=[11]) (by kernel_rfl) (by simp) ?_
       refine AllReadyH.cons (o:=idO11) rfl (fun K hK=>?_) AllReadyH.nil
       dsimp only [idO11]
       rw [if_pos (show Region.wanted _ _=true from by rfl)]
       refine wp_store_mid PT13 (.tmp 11) (.tmp 43) rfl pA 0 c2 rfl rfl (by rw [hcs2];exact there_of hA rfl) (by rw [hcs2];kernel_rfl) (by rw [<- hc2];exact V13.one _) ?_
       have o1:Only [pA] W3 (W3.setCells pA 0 c2.toList):=only_setCells (by simp) _ _ _ _ (Only.refl _ _)
       have hb1:=hb_3.trans (o1.below (by simpa using hpA) hb_3.size)
       have k1:=block_whole (vs:=c2) hA (by rw [hcs2];rfl)
       have k2:=(o1.block _ (head_row hB).lt (by simpa using hAB.symm)).trans hB
       refine hK.out _ _ (HSR.out _ hb1) (fun hH=>?_)
       simp only [Act.put]
       refine wpAnyH_ready (rs:=[12]) (by kernel_rfl) (by simp) ?_
       refine AllReadyH.cons (o:=idO12) rfl (fun K hK=>?_) AllReadyH.nil
       dsimp only [idO12]
       rw [if_pos (show Region.wanted _ _=true from by rfl)]
       refine wp_store_mid AnsT (.tmp 12) (.tmp 44) rfl pB 0 a2 rfl rfl (by rw [hca2];exact there_of k2 rfl) (by rw [hca2];kernel_rfl) (by rw [<- ha2];exact an_one _ _ _ _ _ _ _) ?_
       have o2:Only [pB] (W3.setCells pA 0 c2.toList) ((W3.setCells pA 0 c2.toList).setCells pB 0 a2.toList):=only_setCells (by simp) _ _ _ _ (Only.refl _ _)
       have hb2:=hb1.trans (o2.below (by simpa using hpB) hb1.size)
       refine hK.out _ _ (HSR.out _ hb2) (fun _=>?_)
       simp only [Act.put]
       refine wpAnyH_done (by kernel_rfl) ?_ _
       have k3:=(o2.block _ (head_row k1).lt (by simpa using hAB)).trans k1
       have k4:=block_whole (vs:=a2) k2 (by rw [hca2];rfl)
       have x1:∀ j∈[pA],Bx W3 j:=fun j hj=>by
        rw [show j=pA by simpa using hj]
        exact ⟨_,_,hA,rfl,by decide⟩
       have x2':∀ j∈[pB], ∃ cs e,(W3.setCells pA 0 c2.toList).heap[j]? = some (.cells cs e (0,0))/\noUU cs.toList=true:=fun j hj=>by
        rw [show j=pB by simpa using hj]
        exact ⟨_,_,k2,rfl⟩
       have x3':∀ j∈[pB],Bn (W3.setCells pA 0 c2.toList) j:=fun j hj=>by
        rw [show j=pB by simpa using hj]
        exact ⟨_,_,_,k2,by decide⟩
       have s1:=hst.only o1 x1
       have s2:St13 _ _ _:=⟨s1.pol.onlyN o2 x3',s1.prs.onlyA o2 x2',s1.hi,s1.mi,s1.ev⟩
       have s3:=(hpv.only o1 x1).onlyA o2 x2'
       have HF:=Lib.hid (show Af13 wr (m.step o) a0 (.pointer (some ⟨pA,0,none⟩)) (.pointer (some ⟨pB,0,none⟩)) ((W3.setCells pA 0 c2.toList).setCells pB 0 a2.toList) from ⟨pA,pB,x2,F2,k2',d2,rfl,rfl,hb2,hpA,hpB,hAB,by rw [hc2];exact k3,by rw [ha2];exact k4,s2,s3⟩)
       clear hb2 k1 k2 k3 k4 s1 s2 s3 o1 o2 x1 x2' x3' hb1 hA hB hst hpv hH
       go_wp2_with fail
       go_meet
       exact HF.out
      refine AllReadyH.cons (o:=idO10) rfl (fun K hK=>?_) AllReadyH.nil
      dsimp only [idO10]
      have hb_2:=hb_1.alloc hb_1.size (.cells zA AnsT)
      obtain ⟨pB,hpBe⟩:∃ p,W1.heap.size=p:=⟨_,rfl⟩
      have hpB:wr.heap.size<=pB:=by rw [<- hpBe];exact hb_1.size
      have hB:=heap_alloc_new W1 (.cells zA AnsT)
      rw [hpBe] at hB
      have hAB:pA≠pB:=by have:=(head_row hA).lt;omega
      replace hA:=(Below.heap_alloc W1 (.cells zA AnsT) _ (head_row hA).lt).trans hA
      obtain ⟨W2,hW2⟩:∃ X,W1.alloc (.cells zA AnsT)=X:=⟨_,rfl⟩
      rw [hW2] at hb_2 hB hA
      go_simp
      try rw [hW2]
      try rw [hpBe]
      refine hK.out _ _ (HSR.out _ hb_2) (fun hH=>?_)
      try simp only [Act.put,List.setIfInBounds_toArray,List.set_cons_zero,List.set_cons_succ]
      refine wpAnyH_ready (rs:=[5]) (by kernel_rfl) (by simp) ?_
      refine AllReadyH.cons (o:=idO5) rfl (fun K hK=>?_) AllReadyH.nil
      dsimp only [idO5]
      go_simp
      refine (HST.out W2 hb_2).mono ?_
      rintro e W3 ⟨x2,F2,k2',d2,rfl,hbs,hst,hpv⟩
      have hb_3:=hb_2.trans (hbs.mono hb_2.size)
      replace hA:=(hbs.block _ (head_row hA).lt).trans hA
      replace hB:=(hbs.block _ (head_row hB).lt).trans hB
      obtain ⟨c2,hc2⟩:∃ c,x2.C=c:=⟨_,rfl⟩
      obtain ⟨a2,ha2⟩:∃ a,an13C a0.hit a0.val a0.n a0.err F2 k2' d2=a:=⟨_,rfl⟩
      rw [hc2,ha2]
      refine hK.out _ _ (HSR.out _ hb_3) (fun hH=>?_)
      try simp only [Act.put,List.setIfInBounds_toArray,List.set_cons_zero,List.set_cons_succ]
      refine wpAnyH_take (i:=6) (oi:=idO6) (v := .tuple #[.agg c2,.agg a2]) rfl (by kernel_rfl) (by kernel_rfl) (by kernel_rfl) (fun _ _ _ h=>h) (Or.inl ⟨by rfl,fun W hW=>?h6⟩) hH ?_
      case h6=>dsimp only [idO6];go_simp
      simp only [Act.put,List.setIfInBounds_toArray,List.set_cons_zero,List.set_cons_succ]
      refine wpAnyH_take (i:=7) (oi:=idO7) (v := .agg c2) rfl (by kernel_rfl) (by kernel_rfl) (by kernel_rfl) (fun _ _ _ h=>h) (Or.inl ⟨by rfl,fun W hW=>?h7⟩) hH ?_
      case h7=>dsimp only [idO7];go_simp
      simp only [Act.put,List.setIfInBounds_toArray,List.set_cons_zero,List.set_cons_succ]
      refine wpAnyH_take (i:=8) (oi:=idO8) (v := .agg a2) rfl (by kernel_rfl) (by kernel_rfl) (by kernel_rfl) (fun _ _ _ h=>h) (Or.inl ⟨by rfl,fun W hW=>?h8⟩) hH ?_
      case h8=>dsimp only [idO8];go_simp
      simp only [Act.put,List.setIfInBounds_toArray,List.set_cons_zero,List.set_cons_succ]
      have hcs2:c2.size=24:=by rw [<- hc2];rfl
      have hca2:a2.size=5:=by rw [<- ha2];rfl
      refine wpAnyH_ready (rs:=[11]) (by kernel_rfl) (by simp) ?_
      refine AllReadyH.cons (o:=idO11) rfl (fun K hK=>?_) AllReadyH.nil
      dsimp only [idO11]
      rw [if_pos (show Region.wanted _ _=true from by rfl)]
      refine wp_store_mid PT13 (.tmp 11) (.tmp 43) rfl pA 0 c2 rfl rfl (by rw [hcs2];exact there_of hA rfl) (by rw [hcs2];kernel_rfl) (by rw [<- hc2];exact V13.one _) ?_
      have o1:Only [pA] W3 (W3.setCells pA 0 c2.toList):=only_setCells (by simp) _ _ _ _ (Only.refl _ _)
      have hb1:=hb_3.trans (o1.below (by simpa using hpA) hb_3.size)
      have k1:=block_whole (vs:=c2) hA (by rw [hcs2];rfl)
      have k2:=(o1.block _ (head_row hB).lt (by simpa using hAB.symm)).trans hB
      refine hK.out _ _ (HSR.out _ hb1) (fun hH=>?_)
      simp only [Act.put]
      refine wpAnyH_ready (rs:=[12]) (by kernel_rfl) (by simp) ?_
      refine AllReadyH.cons (o:=idO12) rfl (fun K hK=>?_) AllReadyH.nil
      dsimp only [idO12]
      rw [if_pos (show Region.wanted _ _=true from by rfl)]
      refine wp_store_mid AnsT (.tmp 12) (.tmp 44) rfl pB 0 a2 rfl rfl (by rw [hca2];exact there_of k2 rfl) (by rw [hca2];kernel_rfl) (by rw [<- ha2];exact an_one _ _ _ _ _ _ _) ?_
      have o2:Only [pB] (W3.setCells pA 0 c2.toList) ((W3.setCells pA 0 c2.toList).setCells pB 0 a2.toList):=only_setCells (by simp) _ _ _ _ (Only.refl _ _)
      have hb2:=hb1.trans (o2.below (by simpa using hpB) hb1.size)
      refine hK.out _ _ (HSR.out _ hb2) (fun _=>?_)
      simp only [Act.put]
      refine wpAnyH_done (by kernel_rfl) ?_ _
      have k3:=(o2.block _ (head_row k1).lt (by simpa using hAB)).trans k1
      have k4:=block_whole (vs:=a2) k2 (by rw [hca2];rfl)
      have x1:∀ j∈[pA],Bx W3 j:=fun j hj=>by
       rw [show j=pA by simpa using hj]
       exact ⟨_,_,hA,rfl,by decide⟩
      have x2':∀ j∈[pB], ∃ cs e,(W3.setCells pA 0 c2.toList).heap[j]? = some (.cells cs e (0,0))/\noUU cs.toList=true:=fun j hj=>by
       rw [show j=pB by simpa using hj]
       exact ⟨_,_,k2,rfl⟩
      have x3':∀ j∈[pB],Bn (W3.setCells pA 0 c2.toList) j:=fun j hj=>by
       rw [show j=pB by simpa using hj]
       exact ⟨_,_,_,k2,by decide⟩
      have s1:=hst.only o1 x1
      have s2:St13 _ _ _:=⟨s1.pol.onlyN o2 x3',s1.prs.onlyA o2 x2',s1.hi,s1.mi,s1.ev⟩
      have s3:=(hpv.only o1 x1).onlyA o2 x2'
      have HF:=Lib.hid (show Af13 wr (m.step o) a0 (.pointer (some ⟨pA,0,none⟩)) (.pointer (some ⟨pB,0,none⟩)) ((W3.setCells pA 0 c2.toList).setCells pB 0 a2.toList) from ⟨pA,pB,x2,F2,k2',d2,rfl,rfl,hb2,hpA,hpB,hAB,by rw [hc2];exact k3,by rw [ha2];exact k4,s2,s3⟩)
      clear hb2 k1 k2 k3 k4 s1 s2 s3 o1 o2 x1 x2' x3' hb1 hA hB hst hpv hH
      go_wp2_with fail
      go_meet
      exact HF.out
     refine AllReadyH.cons (o:=idO10) rfl (fun K hK=>?_) AllReadyH.nil
     dsimp only [idO10]
     have hb_1:=hb_0.alloc hb_0.size (.cells zA AnsT)
     obtain ⟨pB,hpBe⟩:∃ p,W0.heap.size=p:=⟨_,rfl⟩
     have hpB:wr.heap.size<=pB:=by rw [<- hpBe];exact hb_0.size
     have hB:=heap_alloc_new W0 (.cells zA AnsT)
     rw [hpBe] at hB
     obtain ⟨W1,hW1⟩:∃ X,W0.alloc (.cells zA AnsT)=X:=⟨_,rfl⟩
     rw [hW1] at hb_1 hB
     go_simp
     try rw [hW1]
     try rw [hpBe]
     refine hK.out _ _ (HSR.out _ hb_1) (fun hH=>?_)
     try simp only [Act.put,List.setIfInBounds_toArray,List.set_cons_zero,List.set_cons_succ]
     refine wpAnyH_ready (rs:=[5,9]) (by kernel_rfl) (by simp) ?_
     refine AllReadyH.cons (o:=idO5) rfl (fun K hK=>?_) ?_
     ·dsimp only [idO5]
      go_simp
      refine (HST.out W1 hb_1).mono ?_
      rintro e W2 ⟨x2,F2,k2',d2,rfl,hbs,hst,hpv⟩
      have hb_2:=hb_1.trans (hbs.mono hb_1.size)
      replace hB:=(hbs.block _ (head_row hB).lt).trans hB
      obtain ⟨c2,hc2⟩:∃ c,x2.C=c:=⟨_,rfl⟩
      obtain ⟨a2,ha2⟩:∃ a,an13C a0.hit a0.val a0.n a0.err F2 k2' d2=a:=⟨_,rfl⟩
      rw [hc2,ha2]
      refine hK.out _ _ (HSR.out _ hb_2) (fun hH=>?_)
      try simp only [Act.put,List.setIfInBounds_toArray,List.set_cons_zero,List.set_cons_succ]
      refine wpAnyH_take (i:=6) (oi:=idO6) (v := .tuple #[.agg c2,.agg a2]) rfl (by kernel_rfl) (by kernel_rfl) (by kernel_rfl) (fun _ _ _ h=>h) (Or.inl ⟨by rfl,fun W hW=>?h6⟩) hH ?_
      case h6=>dsimp only [idO6];go_simp
      simp only [Act.put,List.setIfInBounds_toArray,List.set_cons_zero,List.set_cons_succ]
      refine wpAnyH_take (i:=7) (oi:=idO7) (v := .agg c2) rfl (by kernel_rfl) (by kernel_rfl) (by kernel_rfl) (fun _ _ _ h=>h) (Or.inl ⟨by rfl,fun W hW=>?h7⟩) hH ?_
      case h7=>dsimp only [idO7];go_simp
      simp only [Act.put,List.setIfInBounds_toArray,List.set_cons_zero,List.set_cons_succ]
      refine wpAnyH_take (i:=8) (oi:=idO8) (v := .agg a2) rfl (by kernel_rfl) (by kernel_rfl) (by kernel_rfl) (fun _ _ _ h=>h) (Or.inl ⟨by rfl,fun W hW=>?h8⟩) hH ?_
      case h8=>dsimp only [idO8];go_simp
      simp only [Act.put,List.setIfInBounds_toArray,List.set_cons_zero,List.set_cons_succ]
      refine wpAnyH_ready (rs:=[9]) (by kernel_rfl) (by simp) ?_
      refine AllReadyH.cons (o:=idO9) rfl (fun K hK=>?_) AllReadyH.nil
      dsimp only [idO9]
      have hb_3:=hb_2.alloc hb_2.size (.cells z13 PT13)
      obtain ⟨pA,hpAe⟩:∃ p,W2.heap.size=p:=⟨_,rfl⟩
      have hpA:wr.heap.size<=pA:=by rw [<- hpAe];exact hb_2.size
      have hA:=heap_alloc_new W2 (.cells z13 PT13)
      rw [hpAe] at hA
      have hAB:pA≠pB:=by have:=(head_row hB).lt;omega
      replace hB:=(Below.heap_alloc W2 (.cells z13 PT13) _ (head_row hB).lt).trans hB
      replace hst:=hst.below (low_one W2 (.cells z13 PT13))
      replace hpv:=hpv.below (low_one W2 (.cells z13 PT13))
      obtain ⟨W3,hW3⟩:∃ X,W2.alloc (.cells z13 PT13)=X:=⟨_,rfl⟩
      rw [hW3] at hb_3 hA hB hst hpv
      go_simp
      try rw [hW3]
      try rw [hpAe]
      refine hK.out _ _ (HSR.out _ hb_3) (fun hH=>?_)
      try simp only [Act.put,List.setIfInBounds_toArray,List.set_cons_zero,List.set_cons_succ]
      have hcs2:c2.size=24:=by rw [<- hc2];rfl
      have hca2:a2.size=5:=by rw [<- ha2];rfl
      refine wpAnyH_ready (rs:=[11]) (by kernel_rfl) (by simp) ?_
      refine AllReadyH.cons (o:=idO11) rfl (fun K hK=>?_) AllReadyH.nil
      dsimp only [idO11]
      rw [if_pos (show Region.wanted _ _=true from by rfl)]
      refine wp_store_mid PT13 (.tmp 11) (.tmp 43) rfl pA 0 c2 rfl rfl (by rw [hcs2];exact there_of hA rfl) (by rw [hcs2];kernel_rfl) (by rw [<- hc2];exact V13.one _) ?_
      have o1:Only [pA] W3 (W3.setCells pA 0 c2.toList):=only_setCells (by simp) _ _ _ _ (Only.refl _ _)
      have hb1:=hb_3.trans (o1.below (by simpa using hpA) hb_3.size)
      have k1:=block_whole (vs:=c2) hA (by rw [hcs2];rfl)
      have k2:=(o1.block _ (head_row hB).lt (by simpa using hAB.symm)).trans hB
      refine hK.out _ _ (HSR.out _ hb1) (fun hH=>?_)
      simp only [Act.put]
      refine wpAnyH_ready (rs:=[12]) (by kernel_rfl) (by simp) ?_
      refine AllReadyH.cons (o:=idO12) rfl (fun K hK=>?_) AllReadyH.nil
      dsimp only [idO12]
      rw [if_pos (show Region.wanted _ _=true from by rfl)]
      refine wp_store_mid AnsT (.tmp 12) (.tmp 44) rfl pB 0 a2 rfl rfl (by rw [hca2];exact there_of k2 rfl) (by rw [hca2];kernel_rfl) (by rw [<- ha2];exact an_one _ _ _ _ _ _ _) ?_
      have o2:Only [pB] (W3.setCells pA 0 c2.toList) ((W3.setCells pA 0 c2.toList).setCells pB 0 a2.toList):=only_setCells (by simp) _ _ _ _ (Only.refl _ _)
      have hb2:=hb1.trans (o2.below (by simpa using hpB) hb1.size)
      refine hK.out _ _ (HSR.out _ hb2) (fun _=>?_)
      simp only [Act.put]
      refine wpAnyH_done (by kernel_rfl) ?_ _
      have k3:=(o2.block _ (head_row k1).lt (by simpa using hAB)).trans k1
      have k4:=block_whole (vs:=a2) k2 (by rw [hca2];rfl)
      have x1:∀ j∈[pA],Bx W3 j:=fun j hj=>by
       rw [show j=pA by simpa using hj]
       exact ⟨_,_,hA,rfl,by decide⟩
      have x2':∀ j∈[pB], ∃ cs e,(W3.setCells pA 0 c2.toList).heap[j]? = some (.cells cs e (0,0))/\noUU cs.toList=true:=fun j hj=>by
       rw [show j=pB by simpa using hj]
       exact ⟨_,_,k2,rfl⟩
      have x3':∀ j∈[pB],Bn (W3.setCells pA 0 c2.toList) j:=fun j hj=>by
       rw [show j=pB by simpa using hj]
       exact ⟨_,_,_,k2,by decide⟩
      have s1:=hst.only o1 x1
      have s2:St13 _ _ _:=⟨s1.pol.onlyN o2 x3',s1.prs.onlyA o2 x2',s1.hi,s1.mi,s1.ev⟩
      have s3:=(hpv.only o1 x1).onlyA o2 x2'
      have HF:=Lib.hid (show Af13 wr (m.step o) a0 (.pointer (some ⟨pA,0,none⟩)) (.pointer (some ⟨pB,0,none⟩)) ((W3.setCells pA 0 c2.toList).setCells pB 0 a2.toList) from ⟨pA,pB,x2,F2,k2',d2,rfl,rfl,hb2,hpA,hpB,hAB,by rw [hc2];exact k3,by rw [ha2];exact k4,s2,s3⟩)
      clear hb2 k1 k2 k3 k4 s1 s2 s3 o1 o2 x1 x2' x3' hb1 hA hB hst hpv hH
      go_wp2_with fail
      go_meet
      exact HF.out
     refine AllReadyH.cons (o:=idO9) rfl (fun K hK=>?_) AllReadyH.nil
     dsimp only [idO9]
     have hb_2:=hb_1.alloc hb_1.size (.cells z13 PT13)
     obtain ⟨pA,hpAe⟩:∃ p,W1.heap.size=p:=⟨_,rfl⟩
     have hpA:wr.heap.size<=pA:=by rw [<- hpAe];exact hb_1.size
     have hA:=heap_alloc_new W1 (.cells z13 PT13)
     rw [hpAe] at hA
     have hAB:pA≠pB:=by have:=(head_row hB).lt;omega
     replace hB:=(Below.heap_alloc W1 (.cells z13 PT13) _ (head_row hB).lt).trans hB
     obtain ⟨W2,hW2⟩:∃ X,W1.alloc (.cells z13 PT13)=X:=⟨_,rfl⟩
     rw [hW2] at hb_2 hA hB
     go_simp
     try rw [hW2]
     try rw [hpAe]
     refine hK.out _ _ (HSR.out _ hb_2) (fun hH=>?_)
     try simp only [Act.put,List.setIfInBounds_toArray,List.set_cons_zero,List.set_cons_succ]
     refine wpAnyH_ready (rs:=[5]) (by kernel_rfl) (by simp) ?_
     refine AllReadyH.cons (o:=idO5) rfl (fun K hK=>?_) AllReadyH.nil
     dsimp only [idO5]
     go_simp
     refine (HST.out W2 hb_2).mono ?_
     rintro e W3 ⟨x2,F2,k2',d2,rfl,hbs,hst,hpv⟩
     have hb_3:=hb_2.trans (hbs.mono hb_2.size)
     replace hA:=(hbs.block _ (head_row hA).lt).trans hA
     replace hB:=(hbs.block _ (head_row hB).lt).trans hB
     obtain ⟨c2,hc2⟩:∃ c,x2.C=c:=⟨_,rfl⟩
     obtain ⟨a2,ha2⟩:∃ a,an13C a0.hit a0.val a0.n a0.err F2 k2' d2=a:=⟨_,rfl⟩
     rw [hc2,ha2]
     refine hK.out _ _ (HSR.out _ hb_3) (fun hH=>?_)
     try simp only [Act.put,List.setIfInBounds_toArray,List.set_cons_zero,List.set_cons_succ]
     refine wpAnyH_take (i:=6) (oi:=idO6) (v := .tuple #[.agg c2,.agg a2]) rfl (by kernel_rfl) (by kernel_rfl) (by kernel_rfl) (fun _ _ _ h=>h) (Or.inl ⟨by rfl,fun W hW=>?h6⟩) hH ?_
     case h6=>dsimp only [idO6];go_simp
     simp only [Act.put,List.setIfInBounds_toArray,List.set_cons_zero,List.set_cons_succ]
     refine wpAnyH_take (i:=7) (oi:=idO7) (v := .agg c2) rfl (by kernel_rfl) (by kernel_rfl) (by kernel_rfl) (fun _ _ _ h=>h) (Or.inl ⟨by rfl,fun W hW=>?h7⟩) hH ?_
     case h7=>dsimp only [idO7];go_simp
     simp only [Act.put,List.setIfInBounds_toArray,List.set_cons_zero,List.set_cons_succ]
     refine wpAnyH_take (i:=8) (oi:=idO8) (v := .agg a2) rfl (by kernel_rfl) (by kernel_rfl) (by kernel_rfl) (fun _ _ _ h=>h) (Or.inl ⟨by rfl,fun W hW=>?h8⟩) hH ?_
     case h8=>dsimp only [idO8];go_simp
     simp only [Act.put,List.setIfInBounds_toArray,List.set_cons_zero,List.set_cons_succ]
     have hcs2:c2.size=24:=by rw [<- hc2];rfl
     have hca2:a2.size=5:=by rw [<- ha2];rfl
     refine wpAnyH_ready (rs:=[11]) (by kernel_rfl) (by simp) ?_
     refine AllReadyH.cons (o:=idO11) rfl (fun K hK=>?_) AllReadyH.nil
     dsimp only [idO11]
     rw [if_pos (show Region.wanted _ _=true from by rfl)]
     refine wp_store_mid PT13 (.tmp 11) (.tmp 43) rfl pA 0 c2 rfl rfl (by rw [hcs2];exact there_of hA rfl) (by rw [hcs2];kernel_rfl) (by rw [<- hc2];exact V13.one _) ?_
     have o1:Only [pA] W3 (W3.setCells pA 0 c2.toList):=only_setCells (by simp) _ _ _ _ (Only.refl _ _)
     have hb1:=hb_3.trans (o1.below (by simpa using hpA) hb_3.size)
     have k1:=block_whole (vs:=c2) hA (by rw [hcs2];rfl)
     have k2:=(o1.block _ (head_row hB).lt (by simpa using hAB.symm)).trans hB
     refine hK.out _ _ (HSR.out _ hb1) (fun hH=>?_)
     simp only [Act.put]
     refine wpAnyH_ready (rs:=[12]) (by kernel_rfl) (by simp) ?_
     refine AllReadyH.cons (o:=idO12) rfl (fun K hK=>?_) AllReadyH.nil
     dsimp only [idO12]
     rw [if_pos (show Region.wanted _ _=true from by rfl)]
     refine wp_store_mid AnsT (.tmp 12) (.tmp 44) rfl pB 0 a2 rfl rfl (by rw [hca2];exact there_of k2 rfl) (by rw [hca2];kernel_rfl) (by rw [<- ha2];exact an_one _ _ _ _ _ _ _) ?_
     have o2:Only [pB] (W3.setCells pA 0 c2.toList) ((W3.setCells pA 0 c2.toList).setCells pB 0 a2.toList):=only_setCells (by simp) _ _ _ _ (Only.refl _ _)
     have hb2:=hb1.trans (o2.below (by simpa using hpB) hb1.size)
     refine hK.out _ _ (HSR.out _ hb2) (fun _=>?_)
     simp only [Act.put]
     refine wpAnyH_done (by kernel_rfl) ?_ _
     have k3:=(o2.block _ (head_row k1).lt (by simpa using hAB)).trans k1
     have k4:=block_whole (vs:=a2) k2 (by rw [hca2];rfl)
     have x1:∀ j∈[pA],Bx W3 j:=fun j hj=>by
      rw [show j=pA by simpa using hj]
      exact ⟨_,_,hA,rfl,by decide⟩
     have x2':∀ j∈[pB], ∃ cs e,(W3.setCells pA 0 c2.toList).heap[j]? = some (.cells cs e (0,0))/\noUU cs.toList=true:=fun j hj=>by
      rw [show j=pB by simpa using hj]
      exact ⟨_,_,k2,rfl⟩
     have x3':∀ j∈[pB],Bn (W3.setCells pA 0 c2.toList) j:=fun j hj=>by
      rw [show j=pB by simpa using hj]
      exact ⟨_,_,_,k2,by decide⟩
     have s1:=hst.only o1 x1
     have s2:St13 _ _ _:=⟨s1.pol.onlyN o2 x3',s1.prs.onlyA o2 x2',s1.hi,s1.mi,s1.ev⟩
     have s3:=(hpv.only o1 x1).onlyA o2 x2'
     have HF:=Lib.hid (show Af13 wr (m.step o) a0 (.pointer (some ⟨pA,0,none⟩)) (.pointer (some ⟨pB,0,none⟩)) ((W3.setCells pA 0 c2.toList).setCells pB 0 a2.toList) from ⟨pA,pB,x2,F2,k2',d2,rfl,rfl,hb2,hpA,hpB,hAB,by rw [hc2];exact k3,by rw [ha2];exact k4,s2,s3⟩)
     clear hb2 k1 k2 k3 k4 s1 s2 s3 o1 o2 x1 x2' x3' hb1 hA hB hst hpv hH
     go_wp2_with fail
     go_meet
     exact HF.out
    case rest =>
     obtain ⟨pA,pB,x2,F2,n2,d2,rfl,rfl,hbW,hpA,hpB,hAB,g1,g2,hst,hpv⟩:=hcut
     have hn2:n2=a0.out.length:=by
      obtain ⟨F',c',e,_⟩:=hpv.mem
      injection e
     have hlt8:=(head_row HBX.out).lt
     have h8c:=(hbW.block _ hlt8).trans HBX.out
     obtain ⟨c2,hc2⟩:∃ c,x2.C=c:=⟨_,rfl⟩
     have hcs2:c2.size=24:=by rw [<- hc2];rfl
     have HRA:=Lib.hid (show wc.rangeAt pA 0 c2.toList from by rw [<- hc2];exact range_of g1)
     have HTH:=Lib.hid (show wc.there b8 0 c2.size from by rw [hcs2];exact there_of h8c rfl)
     have HI4:=Lib.hid (show (Tryz.prog.info? PT13).map (·.size)=some c2.size from by rw [hcs2];kernel_rfl)
     have HI5:=Lib.hid (show (Tryz.prog.info? PT13).map (·.size)=some c2.toList.length from by rw [Array.length_toList,hcs2];kernel_rfl)
     have HO4:=Lib.hid (show c2.all (·.oneCell')=true from by rw [<- hc2];exact V13.one _)
     obtain ⟨W1,hW1⟩:∃ W1,wc.setCells b8 0 c2.toList=W1:=⟨_,rfl⟩
     have o1:Only [b8] wc W1:=by rw [<- hW1];exact only_setCells (by simp) _ _ _ _ (Only.refl _ _)
     have k8:W1.heap[b8]? = some (.cells x2.C PT13 (0,0)):=by rw [<- hW1,hc2];exact block_whole h8c (by rw [hcs2];rfl)
     have hbx:∀ j∈[b8],Bx wc j:=fun j hj=>by
      rw [show j=b8 by simpa using hj]
      exact ⟨_,_,h8c,rfl,by decide⟩
     have s1:=hst.only o1 hbx
     have kB:=(o1.block _ (head_row g2).lt (by simp;omega)).trans g2
     have hgw:g < wc.heap.size:=Nat.lt_of_lt_of_le hg (Nat.le_trans HI.out.low.size hbW.size)
     obtain ⟨-,q0,-,-,-⟩:=HSR.out wc hbW
     have q0:=(World.cell?_of_block (w:=wc) (a:=⟨g,off+i * 4,none⟩) (o1.block g hgw (by simp;omega))).trans q0
     have HLW:=Lib.hid (HI.out.low.trans (hbW.mono HI.out.low.size))
     have HLW1:=Lib.hid (HLW.out.trans (o1.below (by simpa using hwb8) HLW.out.size))
     have HE1:=Lib.hid ((HI.out.err.below hbW HI.out.err.lt).only o1 (by simp;omega))
     have HN:=Lib.hid (show Lp W0 W1 b8 (m0.run (l.take (i+1))) from by
      rw [HNX.out]
      exact ⟨HLW1.out,HE1.out,x2,k8,s1⟩)
     clear hbW g1 g2 hst hpv h8c hc2 hcs2 o1 k8 hbx s1 kB hgw HST HSR HI HBX hi24 q0
     go_upto_region 7 with (first | (refine wpList_load_mid rfl PT13 (.tmp 11) rfl pA 0 rfl c2.toList _ HRA.out Tryz.underlying42 rfl HI5.out ?_) | (refine wpList_store_mid rfl PT13 (.tmp 8) (.tmp 45) rfl b8 0 c2 rfl rfl HTH.out HI4.out HO4.out ?_))
     try rw [hW1]
     clear hW1 HRA HTH HI4 HI5 HO4
     go_wp2_with fail
     go_roundg (na - i - 1)
     case measure=>omega
     case rel=>exact ⟨i+1,by omega,by go_num,HN⟩
   ·have hltI:¬ (i:Int) < (na:Int):=by omega
    have hin:i=na:=by omega
    have HOKF:=Lib.hid (HRUN.out i)
    obtain ⟨m,hm⟩:∃ m,m0.run (l.take i)=m:=⟨_,rfl⟩
    rw [hm] at HI HOKF
    have HLP:=Lib.hid HI.out
    have hob:=(HLP.out.low.block _ (head_row HBP.out.2).lt).trans HBP.out.2
    obtain ⟨⟨o0,o1,o2,o3⟩,-⟩:=c4_at hob
    have HOB:=Lib.hid hob
    have hob0:=(head_row hob).lt
    obtain ⟨idb,hidb⟩:∃ b,decide (oo.kind < 1∨5<=oo.kind∨oo.kind=4/\¬ M13.may oo.n)=b:=⟨_,rfl⟩
    have HID:=Lib.hid hidb
    clear hidb hm hin HI HRUN HI0 HOS HSM HOV HZ0 HOK0 HLW0 hlt hob
    go_upto_region 10 with fail
    go_cut [13] (fun s13 wx=>s13 = .bool idb/\wx=wr)
    case first =>
     have HWR:Hid (oo.n < 1∨1048576 < oo.n∨1<=oo.n/\oo.n<=1048576):=Lib.hid (by omega)
     obtain ⟨kind,key,val,n⟩:=oo
     dsimp only at o0 o1 o2 o3 HID HWR
     by_cases k1:kind < 1
     ·have HF:Hid (idb=true):=Lib.hid (by rw [<- HID.out];exact decide_eq_true (.inl k1))
      clear HO2 HOB HBP
      go_wp2_with fail
      go_meet
      exact ⟨by rw [HF.out],rfl⟩
     ·by_cases k5:5<=kind
      ·have HF:Hid (idb=true):=Lib.hid (by rw [<- HID.out];exact decide_eq_true (.inr (.inl k5)))
       clear HO2 HOB HBP
       go_wp2_with fail
       go_meet
       exact ⟨by rw [HF.out],rfl⟩
      ·by_cases k4:kind=4
       ·by_cases hn:1<=n/\n<=1048576
        ·have HF:Hid (idb=false):=Lib.hid (by
          rw [<- HID.out]
          refine decide_eq_false (fun h=>?_)
          rcases h with h | h | ⟨-,h⟩
          ·exact k1 h
          ·exact k5 h
          ·exact h hn)
         have KM:=Lib.hid (refMay_ok wr 1 n (by decide) (by decide) hn.1 hn.2)
         subst k4
         clear HO2 HOB HBP
         go_wp2_with fail
         refine KM.out.mono ?_
         rintro e w9 ⟨rfl,rfl⟩
         go_wp2_with fail
         go_meet
         exact ⟨by rw [HF.out],rfl⟩
        ·have HF:Hid (idb=true):=Lib.hid (by rw [<- HID.out];exact decide_eq_true (.inr (.inr ⟨k4,hn⟩)))
         have KM:=Lib.hid (refMay_capacity wr 1 n (by decide) (by decide) (by omega))
         subst k4
         clear HO2 HOB HBP
         go_wp2_with fail
         refine KM.out.mono ?_
         rintro e w9 ⟨rfl,rfl⟩
         go_wp2_with fail
         go_meet
         exact ⟨by rw [HF.out],rfl⟩
       ·have HF:Hid (idb=false):=Lib.hid (by
         rw [<- HID.out]
         refine decide_eq_false (fun h=>?_)
         rcases h with h | h | ⟨h,-⟩
         ·exact k1 h
         ·exact k5 h
         ·exact k4 h)
        clear HO2 HOB HBP
        go_wp2_with fail
        go_meet
        exact ⟨by rw [HF.out],rfl⟩
    case rest =>
     obtain ⟨rfl,rfl⟩:=hcut
     obtain ⟨x,hbx,hsx⟩:=HLP.out.box
     have HE9:=Lib.hid HLP.out.err
     have HL9:=Lib.hid HLP.out.low
     have KST:=step13_any HA.out HE9.out hsx HOKF.out.1 HOKF.out.2 HO2.out
     have l1:=load24 hbx
     obtain ⟨c,hc1⟩:∃ c,x.C=c:=⟨_,rfl⟩
     rw [hc1] at KST l1
     have KST:=Lib.hid KST
     have R1:=Lib.hid l1
     have HC1:=Lib.hid hc1
     have HBX:=Lib.hid hbx
     have HSX:=Lib.hid hsx
     have hb8lt:=(head_row hbx).lt
     clear l1 hc1 hbx hsx HLP
     go_wp2_with (refine wpList_load_mid rfl PT13 (.tmp 8) rfl b8 0 rfl c.toList _ R1.out.1 Tryz.underlying42 rfl R1.out.2 ?_)
     refine KST.out.mono ?_
     rintro e w2 ⟨x2,F2,k2,d2,rfl,hb2,hs2,hp2⟩
     obtain ⟨mt,hmt⟩:∃ mt,m.step oo=mt:=⟨_,rfl⟩
     obtain ⟨an,han⟩:∃ an,m.ans oo=an:=⟨_,rfl⟩
     rw [hmt] at hs2
     rw [han] at hp2
     have hmtok:mt.Ok:=by rw [<- hmt];exact HOKF.out.1.stepI HO2.out
     have HIDL:=Lib.hid (show idb=true->mt=m/\an.out=[]/\an.hit=false from fun h=>by
      rw [<- HID.out] at h
      have h2:=M13.idle m (of_decide_eq_true h)
      rw [hmt,han] at h2
      exact h2)
     have hk2:k2=an.out.length:=by
      obtain ⟨F',c',e,_⟩:=hp2.mem
      injection e
     have t2:=st2 w2 x2 an.hit an.val an.n an.err F2 k2 d2
     have hl2:=hb2.trans (t2.low.mono hb2.size)
     have HL2:=Lib.hid (HL9.out.trans (hl2.mono HL9.out.size))
     have hsx2:=HSX.out.below hl2
     have hbx2:=(hl2.block _ hb8lt).trans HBX.out
     have hst2:=hs2.below t2.low
     have hbt2:=t2.box1
     have hba2:=t2.box2
     obtain ⟨V9,hV9⟩:∃ V,((((w2.alloc (.cells z13 PT13)).alloc (.cells zA AnsT)).setCells w2.heap.size 0 x2.C.toList).setCells (w2.heap.size+1) 0 (an13C an.hit an.val an.n an.err F2 k2 d2).toList)=V:=⟨_,rfl⟩
     rw [hV9] at HL2 hsx2 hbx2 hst2 hbt2 hba2
     obtain ⟨ct,hct⟩:∃ ct,x2.C=ct:=⟨_,rfl⟩
     obtain ⟨a2,ha2⟩:∃ a,an13C an.hit an.val an.n an.err F2 k2 d2=a:=⟨_,rfl⟩
     rw [hct,ha2] at t2 hV9
     rw [han,hct,ha2]
     have T2:=Lib.hid t2
     have HSX2:=Lib.hid hsx2
     have HST2:=Lib.hid hst2
     have HBX2:=Lib.hid hbx2
     have HBT2:=Lib.hid hbt2
     have HBA2:=Lib.hid hba2
     have HCT0:=Lib.hid hct
     have HMT:=Lib.hid hmtok
     clear hb2 hs2 hp2 hl2 hsx2 hbx2 hst2 hbt2 hba2 hct ha2 t2 KST R1 HBX HSX hmt han hmtok
     go_upto_region 12 with (first | (refine wpList_store_mid rfl PT13 (.tmp 14) (.tmp 69) rfl w2.heap.size 0 ct rfl rfl T2.out.th1 T2.out.inf1 T2.out.one1 ?_) | (refine wpList_store_mid rfl AnsT (.tmp 15) (.tmp 70) rfl (w2.heap.size+1) 0 a2 rfl rfl T2.out.th2 T2.out.inf2 T2.out.one2 ?_))
     try rw [hV9]
     try simp only [Act.put]
     clear hV9 T2
     obtain ⟨bt,hbt⟩:∃ b,w2.heap.size=b:=⟨_,rfl⟩
     rw [hbt] at HBT2 HBA2 ⊢
     clear hbt
     obtain ⟨r1,hr1⟩:∃ r,decide (m.ps.keys=mt.ps.keys)=r:=⟨_,rfl⟩
     obtain ⟨r2,hr2⟩:∃ r,decide (m.prs=mt.prs)=r:=⟨_,rfl⟩
     obtain ⟨r3,hr3⟩:∃ r,decide (m.hits=mt.hits/\m.misses=mt.misses/\m.ev=mt.ev)=r:=⟨_,rfl⟩
     obtain ⟨r4,hr4⟩:∃ r,(((m.ps.ghosts:Nat):Int) == ((mt.ps.ghosts:Nat):Int))=r:=⟨_,rfl⟩
     obtain ⟨r5,hr5⟩:∃ r,(((m.ps.cap:Nat):Int) == ((mt.ps.cap:Nat):Int))=r:=⟨_,rfl⟩
     have HI1:=Lib.hid (show idb=true->r1=true from fun h=>by rw [<- hr1,(HIDL.out h).1];exact decide_eq_true rfl)
     have HI2:=Lib.hid (show idb=true->r2=true from fun h=>by rw [<- hr2,(HIDL.out h).1];exact decide_eq_true rfl)
     have HI3:=Lib.hid (show idb=true->r3=true from fun h=>by rw [<- hr3,(HIDL.out h).1];simp)
     have HI4:=Lib.hid (show idb=true->r4=true from fun h=>by rw [<- hr4,(HIDL.out h).1];simp)
     have HI5:=Lib.hid (show idb=true->r5=true from fun h=>by rw [<- hr5,(HIDL.out h).1];simp)
     have HR3:=Lib.hid hr3
     have HR4:=Lib.hid hr4
     have HR5:=Lib.hid hr5
     have hkl:m.ps.keys.length<=100000000:=by have:=HOKF.out.1.ps.len;have:=HOKF.out.1.ps.capLe;omega
     have hpl:m.prs.length<=100000000:=by have:=HOKF.out.1.lenCap;have:=HOKF.out.1.ps.capLe;omega
     have KKS:=fun W (hW:Below V9.heap.size V9 W)=>keys13_walk HA.out (HSX2.out.below hW) HOKF.out.1
     have KKT:=fun W (hW:Below V9.heap.size V9 W)=>keys13_walk HA.out (HST2.out.below hW) HMT.out
     have KGS:=fun W (hW:Below V9.heap.size V9 W)=>ghosts13_walk HA.out (HSX2.out.below hW) HOKF.out.1
     have KGT:=fun W (hW:Below V9.heap.size V9 W)=>ghosts13_walk HA.out (HST2.out.below hW) HMT.out
     have KCS:=fun W (hW:Below V9.heap.size V9 W)=>capacity13_walk HA.out (HSX2.out.below hW) HOKF.out.1
     have KCT:=fun W (hW:Below V9.heap.size V9 W)=>capacity13_walk HA.out (HST2.out.below hW) HMT.out
     rw [HC1.out] at KKS KGS KCS
     rw [HCT0.out] at KKT KGT KCT
     have HKS:=Lib.hid KKS
     have HKT:=Lib.hid KKT
     have HGS:=Lib.hid KGS
     have HGT:=Lib.hid KGT
     have HCS:=Lib.hid KCS
     have HCT:=Lib.hid KCT
     obtain ⟨F8,hF8⟩:∃ q,x.pr.F=q:=⟨_,rfl⟩
     obtain ⟨n8,hn8⟩:∃ q,x.pr.n=q:=⟨_,rfl⟩
     obtain ⟨d8,hd8⟩:∃ q,x.pr.c=q:=⟨_,rfl⟩
     obtain ⟨Ft,hFt⟩:∃ q,x2.pr.F=q:=⟨_,rfl⟩
     obtain ⟨nt,hnt⟩:∃ q,x2.pr.n=q:=⟨_,rfl⟩
     obtain ⟨dt,hdt⟩:∃ q,x2.pr.c=q:=⟨_,rfl⟩
     have HSM:=Lib.hid (show ∀ W,Below V9.heap.size V9 W->∀ v1 v2,KV W v1 m.ps.keys->KV W v2 mt.ps.keys->Calls Tryz.prog 15 #[v1,v2] W (fun e w'=>e = .returned (.bool r1)/\Below W.heap.size W w') from fun W _ v1 v2 h1 h2=>by
      rw [<- hr1]
      exact same_walk h1 h2 hkl)
     have HSP:=Lib.hid (show ∀ W,Below V9.heap.size V9 W->Calls Tryz.prog 14 #[.slice F8 n8 d8,.slice Ft nt dt] W (fun e w'=>e = .returned (.bool r2)/\Below W.heap.size W w') from fun W hW=>by
      rw [<- hr2,<- hF8,<- hn8,<- hd8,<- hFt,<- hnt,<- hdt]
      exact samep_walk (HSX2.out.prs.below hW) (HST2.out.prs.below hW) hpl)
     have HSR:=Lib.hid (show ∀ W,Below V9.heap.size V9 W->W.rangeAt b8 0 c.toList/\W.rangeAt bt 0 ct.toList/\W.cell? ⟨b8,20,none⟩=some (.slice F8 n8 d8)/\W.cell? ⟨b8,21,none⟩=some (.int .i64 (m.hits:Nat))/\W.cell? ⟨b8,22,none⟩=some (.int .i64 (m.misses:Nat))/\W.cell? ⟨b8,23,none⟩=some (.int .i64 (m.ev:Nat))/\W.cell? ⟨bt,20,none⟩=some (.slice Ft nt dt)/\W.cell? ⟨bt,21,none⟩=some (.int .i64 (mt.hits:Nat))/\W.cell? ⟨bt,22,none⟩=some (.int .i64 (mt.misses:Nat))/\W.cell? ⟨bt,23,none⟩=some (.int .i64 (mt.ev:Nat)) from fun W hW=>by
      have g1:=(hW.block _ (head_row HBX2.out).lt).trans HBX2.out
      have g2:=(hW.block _ (head_row HBT2.out).lt).trans HBT2.out
      obtain ⟨-,-,-,-,-,-,-,-,-,-,-,-,-,-,-,-,-,-,-,-,q0,q1,q2,q3⟩:=box_cells g1
      obtain ⟨-,-,-,-,-,-,-,-,-,-,-,-,-,-,-,-,-,-,-,-,p0,p1,p2,p3⟩:=box_cells g2
      rw [hF8,hn8,hd8] at q0
      rw [hFt,hnt,hdt] at p0
      rw [HSX2.out.hi] at q1
      rw [HSX2.out.mi] at q2
      rw [HSX2.out.ev] at q3
      rw [HST2.out.hi] at p1
      rw [HST2.out.mi] at p2
      rw [HST2.out.ev] at p3
      rw [<- HC1.out,<- HCT0.out]
      exact ⟨range_of g1,range_of g2,q0,q1,q2,q3,p0,p1,p2,p3⟩)
     have I8:=Lib.hid (show (Tryz.prog.info? PT13).map (·.size)=some c.toList.length from by rw [<- HC1.out];kernel_rfl)
     have IT:=Lib.hid (show (Tryz.prog.info? PT13).map (·.size)=some ct.toList.length from by rw [<- HCT0.out];kernel_rfl)
     clear KKS KKT KGS KGT KCS KCT hr1 hr2 hr3 hr4 hr5 hF8 hn8 hd8 hFt hnt hdt hkl hpl
     go_cut [16] (fun s16 wx=>∃ r:Bool,s16 = .bool r/\(idb=true->r=true)/\Hid (Below V9.heap.size V9 wx))
     case first =>
      refine wp_region_held_drew (S:=fun W=>W.rangeAt b8 0 c.toList/\W.rangeAt bt 0 ct.toList/\W.cell? ⟨b8,20,none⟩=some (.slice F8 n8 d8)/\W.cell? ⟨b8,21,none⟩=some (.int .i64 (m.hits:Nat))/\W.cell? ⟨b8,22,none⟩=some (.int .i64 (m.misses:Nat))/\W.cell? ⟨b8,23,none⟩=some (.int .i64 (m.ev:Nat))/\W.cell? ⟨bt,20,none⟩=some (.slice Ft nt dt)/\W.cell? ⟨bt,21,none⟩=some (.int .i64 (mt.hits:Nat))/\W.cell? ⟨bt,22,none⟩=some (.int .i64 (mt.misses:Nat))/\W.cell? ⟨bt,23,none⟩=some (.int .i64 (mt.ev:Nat))) (by kernel_rfl) (HSR.out _ (Below.refl V9.heap.size V9).drew) (fun hH=>?_)
      have hb_0:=(Below.refl V9.heap.size V9).drew
      obtain ⟨X0,hX0⟩:∃ X,V9.drew=X:=⟨_,rfl⟩
      rw [hX0] at hb_0 hH ⊢
      refine wpAnyH_take (i:=0) (oi:=ieO0) rfl (by kernel_rfl) (by kernel_rfl) (by kernel_rfl) (fun _ _ _ h=>h) (yieldsIf_load_mid (by rfl) PT13 (.tmp 8) rfl b8 0 rfl c.toList _ (fun W h=>h.1) Tryz.underlying42 rfl I8.out) hH ?_
      simp only [Act.put,List.setIfInBounds_toArray,List.set_cons_zero,List.set_cons_succ]
      refine wpAnyH_take (i:=2) (oi:=ieO2) rfl (by kernel_rfl) (by kernel_rfl) (by kernel_rfl) (fun _ _ _ h=>h) (yieldsIf_load_mid (by rfl) PT13 (.tmp 14) rfl bt 0 rfl ct.toList _ (fun W h=>h.2.1) Tryz.underlying42 rfl IT.out) hH ?_
      simp only [Act.put,List.setIfInBounds_toArray,List.set_cons_zero,List.set_cons_succ]
      refine wpAnyH_ready (rs:=[1]) (by kernel_rfl) (by simp) ?_
      refine AllReadyH.cons (o:=ieO1) rfl (fun K hK=>?_) AllReadyH.nil
      dsimp only [ieO1]
      go_simp
      refine (HKS.out X0 hb_0).mono ?_
      rintro e W1 ⟨v1,rfl,hbs,k1⟩
      have hb_1:=hb_0.trans (hbs.mono hb_0.size)
      clear hbs
      refine hK.out _ _ (HSR.out _ hb_1) (fun hH=>?_)
      try simp only [Act.put,List.setIfInBounds_toArray,List.set_cons_zero,List.set_cons_succ]
      refine wpAnyH_ready (rs:=[3]) (by kernel_rfl) (by simp) ?_
      refine AllReadyH.cons (o:=ieO3) rfl (fun K hK=>?_) AllReadyH.nil
      dsimp only [ieO3]
      go_simp
      refine (HKT.out W1 hb_1).mono ?_
      rintro e W2 ⟨v2,rfl,hbs,k2⟩
      have hb_2:=hb_1.trans (hbs.mono hb_1.size)
      replace k1:=k1.below hbs
      clear hbs
      refine hK.out _ _ (HSR.out _ hb_2) (fun hH=>?_)
      try simp only [Act.put,List.setIfInBounds_toArray,List.set_cons_zero,List.set_cons_succ]
      refine wpAnyH_ready (rs:=[4]) (by kernel_rfl) (by simp) ?_
      refine AllReadyH.cons (o:=ieO4) rfl (fun K hK=>?_) AllReadyH.nil
      dsimp only [ieO4]
      go_simp
      refine (HSM.out W2 hb_2 v1 v2 k1 k2).mono ?_
      rintro e W3 ⟨rfl,hbs⟩
      have hb_3:=hb_2.trans (hbs.mono hb_2.size)
      clear k1 k2
      clear hbs
      refine hK.out _ _ (HSR.out _ hb_3) (fun hH=>?_)
      try simp only [Act.put,List.setIfInBounds_toArray,List.set_cons_zero,List.set_cons_succ]
      cases r1 with
      | false =>
       refine wpAnyH_take (i:=5) (oi:=ieO5) (v := .bool false) rfl (by kernel_rfl) (by kernel_rfl) (by kernel_rfl) (fun _ _ _ h=>h) (Or.inl ⟨by rfl,fun W hW=>?h5⟩) hH ?_
       case h5=>dsimp only [ieO5];go_simp
       simp only [Act.put,List.setIfInBounds_toArray,List.set_cons_zero,List.set_cons_succ]
       refine wpAnyH_take (i:=6) (oi:=ieO6) (v:=undef) rfl (by kernel_rfl) (by kernel_rfl) (by kernel_rfl) (fun _ _ _ h=>h) (Or.inr ⟨by rfl,rfl⟩) hH ?_
       simp only [Act.put,List.setIfInBounds_toArray,List.set_cons_zero,List.set_cons_succ]
       refine wpAnyH_take (i:=7) (oi:=ieO7) (v:=undef) rfl (by kernel_rfl) (by kernel_rfl) (by kernel_rfl) (fun _ _ _ h=>h) (Or.inr ⟨by rfl,rfl⟩) hH ?_
       simp only [Act.put,List.setIfInBounds_toArray,List.set_cons_zero,List.set_cons_succ]
       refine wpAnyH_take (i:=8) (oi:=ieO8) (v:=undef) rfl (by kernel_rfl) (by kernel_rfl) (by kernel_rfl) (fun _ _ _ h=>h) (Or.inr ⟨by rfl,rfl⟩) hH ?_
       simp only [Act.put,List.setIfInBounds_toArray,List.set_cons_zero,List.set_cons_succ]
       refine wpAnyH_take (i:=9) (oi:=ieO9) (v:=undef) rfl (by kernel_rfl) (by kernel_rfl) (by kernel_rfl) (fun _ _ _ h=>h) (Or.inr ⟨by rfl,rfl⟩) hH ?_
       simp only [Act.put,List.setIfInBounds_toArray,List.set_cons_zero,List.set_cons_succ]
       refine wpAnyH_take (i:=10) (oi:=ieO10) (v:=undef) rfl (by kernel_rfl) (by kernel_rfl) (by kernel_rfl) (fun _ _ _ h=>h) (Or.inr ⟨by rfl,rfl⟩) hH ?_
       simp only [Act.put,List.setIfInBounds_toArray,List.set_cons_zero,List.set_cons_succ]
       refine wpAnyH_take (i:=11) (oi:=ieO11) (v := .bool false) rfl (by kernel_rfl) (by kernel_rfl) (by kernel_rfl) (fun _ _ _ h=>h) (Or.inl ⟨by rfl,fun W hW=>?h11⟩) hH ?_
       case h11=>dsimp only [ieO11];go_simp
       simp only [Act.put,List.setIfInBounds_toArray,List.set_cons_zero,List.set_cons_succ]
       refine wpAnyH_take (i:=12) (oi:=ieO12) (v := .bool false) rfl (by kernel_rfl) (by kernel_rfl) (by kernel_rfl) (fun _ _ _ h=>h) (Or.inl ⟨by rfl,fun W hW=>?h12⟩) hH ?_
       case h12=>dsimp only [ieO12];go_simp
       simp only [Act.put,List.setIfInBounds_toArray,List.set_cons_zero,List.set_cons_succ]
       refine wpAnyH_take (i:=13) (oi:=ieO13) (v:=undef) rfl (by kernel_rfl) (by kernel_rfl) (by kernel_rfl) (fun _ _ _ h=>h) (Or.inr ⟨by rfl,rfl⟩) hH ?_
       simp only [Act.put,List.setIfInBounds_toArray,List.set_cons_zero,List.set_cons_succ]
       refine wpAnyH_take (i:=14) (oi:=ieO14) (v:=undef) rfl (by kernel_rfl) (by kernel_rfl) (by kernel_rfl) (fun _ _ _ h=>h) (Or.inr ⟨by rfl,rfl⟩) hH ?_
       simp only [Act.put,List.setIfInBounds_toArray,List.set_cons_zero,List.set_cons_succ]
       refine wpAnyH_take (i:=15) (oi:=ieO15) (v:=undef) rfl (by kernel_rfl) (by kernel_rfl) (by kernel_rfl) (fun _ _ _ h=>h) (Or.inr ⟨by rfl,rfl⟩) hH ?_
       simp only [Act.put,List.setIfInBounds_toArray,List.set_cons_zero,List.set_cons_succ]
       refine wpAnyH_take (i:=16) (oi:=ieO16) (v:=undef) rfl (by kernel_rfl) (by kernel_rfl) (by kernel_rfl) (fun _ _ _ h=>h) (Or.inr ⟨by rfl,rfl⟩) hH ?_
       simp only [Act.put,List.setIfInBounds_toArray,List.set_cons_zero,List.set_cons_succ]
       refine wpAnyH_take (i:=17) (oi:=ieO17) (v:=undef) rfl (by kernel_rfl) (by kernel_rfl) (by kernel_rfl) (fun _ _ _ h=>h) (Or.inr ⟨by rfl,rfl⟩) hH ?_
       simp only [Act.put,List.setIfInBounds_toArray,List.set_cons_zero,List.set_cons_succ]
       refine wpAnyH_take (i:=18) (oi:=ieO18) (v := .bool false) rfl (by kernel_rfl) (by kernel_rfl) (by kernel_rfl) (fun _ _ _ h=>h) (Or.inl ⟨by rfl,fun W hW=>?h18⟩) hH ?_
       case h18=>dsimp only [ieO18];go_simp
       simp only [Act.put,List.setIfInBounds_toArray,List.set_cons_zero,List.set_cons_succ]
       refine wpAnyH_take (i:=19) (oi:=ieO19) (v := .bool false) rfl (by kernel_rfl) (by kernel_rfl) (by kernel_rfl) (fun _ _ _ h=>h) (Or.inl ⟨by rfl,fun W hW=>?h19⟩) hH ?_
       case h19=>dsimp only [ieO19];go_simp
       simp only [Act.put,List.setIfInBounds_toArray,List.set_cons_zero,List.set_cons_succ]
       refine wpAnyH_take (i:=20) (oi:=ieO20) (v:=undef) rfl (by kernel_rfl) (by kernel_rfl) (by kernel_rfl) (fun _ _ _ h=>h) (Or.inr ⟨by rfl,rfl⟩) hH ?_
       simp only [Act.put,List.setIfInBounds_toArray,List.set_cons_zero,List.set_cons_succ]
       refine wpAnyH_take (i:=21) (oi:=ieO21) (v:=undef) rfl (by kernel_rfl) (by kernel_rfl) (by kernel_rfl) (fun _ _ _ h=>h) (Or.inr ⟨by rfl,rfl⟩) hH ?_
       simp only [Act.put,List.setIfInBounds_toArray,List.set_cons_zero,List.set_cons_succ]
       refine wpAnyH_take (i:=22) (oi:=ieO22) (v:=undef) rfl (by kernel_rfl) (by kernel_rfl) (by kernel_rfl) (fun _ _ _ h=>h) (Or.inr ⟨by rfl,rfl⟩) hH ?_
       simp only [Act.put,List.setIfInBounds_toArray,List.set_cons_zero,List.set_cons_succ]
       refine wpAnyH_take (i:=23) (oi:=ieO23) (v:=undef) rfl (by kernel_rfl) (by kernel_rfl) (by kernel_rfl) (fun _ _ _ h=>h) (Or.inr ⟨by rfl,rfl⟩) hH ?_
       simp only [Act.put,List.setIfInBounds_toArray,List.set_cons_zero,List.set_cons_succ]
       refine wpAnyH_take (i:=24) (oi:=ieO24) (v:=undef) rfl (by kernel_rfl) (by kernel_rfl) (by kernel_rfl) (fun _ _ _ h=>h) (Or.inr ⟨by rfl,rfl⟩) hH ?_
       simp only [Act.put,List.setIfInBounds_toArray,List.set_cons_zero,List.set_cons_succ]
       refine wpAnyH_take (i:=25) (oi:=ieO25) (v := .bool false) rfl (by kernel_rfl) (by kernel_rfl) (by kernel_rfl) (fun _ _ _ h=>h) (Or.inl ⟨by rfl,fun W hW=>?h25⟩) hH ?_
       case h25=>dsimp only [ieO25];go_simp
       simp only [Act.put,List.setIfInBounds_toArray,List.set_cons_zero,List.set_cons_succ]
       refine wpAnyH_take (i:=26) (oi:=ieO26) (v := .bool false) rfl (by kernel_rfl) (by kernel_rfl) (by kernel_rfl) (fun _ _ _ h=>h) (Or.inl ⟨by rfl,fun W hW=>?h26⟩) hH ?_
       case h26=>dsimp only [ieO26];go_simp
       simp only [Act.put,List.setIfInBounds_toArray,List.set_cons_zero,List.set_cons_succ]
       refine wpAnyH_take (i:=27) (oi:=ieO27) (v:=undef) rfl (by kernel_rfl) (by kernel_rfl) (by kernel_rfl) (fun _ _ _ h=>h) (Or.inr ⟨by rfl,rfl⟩) hH ?_
       simp only [Act.put,List.setIfInBounds_toArray,List.set_cons_zero,List.set_cons_succ]
       refine wpAnyH_take (i:=28) (oi:=ieO28) (v:=undef) rfl (by kernel_rfl) (by kernel_rfl) (by kernel_rfl) (fun _ _ _ h=>h) (Or.inr ⟨by rfl,rfl⟩) hH ?_
       simp only [Act.put,List.setIfInBounds_toArray,List.set_cons_zero,List.set_cons_succ]
       refine wpAnyH_take (i:=29) (oi:=ieO29) (v:=undef) rfl (by kernel_rfl) (by kernel_rfl) (by kernel_rfl) (fun _ _ _ h=>h) (Or.inr ⟨by rfl,rfl⟩) hH ?_
       simp only [Act.put,List.setIfInBounds_toArray,List.set_cons_zero,List.set_cons_succ]
       refine wpAnyH_take (i:=30) (oi:=ieO30) (v:=undef) rfl (by kernel_rfl) (by kernel_rfl) (by kernel_rfl) (fun _ _ _ h=>h) (Or.inr ⟨by rfl,rfl⟩) hH ?_
       simp only [Act.put,List.setIfInBounds_toArray,List.set_cons_zero,List.set_cons_succ]
       refine wpAnyH_take (i:=31) (oi:=ieO31) (v:=undef) rfl (by kernel_rfl) (by kernel_rfl) (by kernel_rfl) (fun _ _ _ h=>h) (Or.inr ⟨by rfl,rfl⟩) hH ?_
       simp only [Act.put,List.setIfInBounds_toArray,List.set_cons_zero,List.set_cons_succ]
       refine wpAnyH_take (i:=32) (oi:=ieO32) (v := .bool false) rfl (by kernel_rfl) (by kernel_rfl) (by kernel_rfl) (fun _ _ _ h=>h) (Or.inl ⟨by rfl,fun W hW=>?h32⟩) hH ?_
       case h32=>dsimp only [ieO32];go_simp
       simp only [Act.put,List.setIfInBounds_toArray,List.set_cons_zero,List.set_cons_succ]
       refine wpAnyH_take (i:=33) (oi:=ieO33) (v := .bool false) rfl (by kernel_rfl) (by kernel_rfl) (by kernel_rfl) (fun _ _ _ h=>h) (Or.inl ⟨by rfl,fun W hW=>?h33⟩) hH ?_
       case h33=>dsimp only [ieO33];go_simp
       simp only [Act.put,List.setIfInBounds_toArray,List.set_cons_zero,List.set_cons_succ]
       refine wpAnyH_done (by kernel_rfl) ?_ _
       clear hH
       go_wp2_with fail
       go_meet
       exact ⟨false,rfl,fun hi=>absurd (HI1.out hi) (by decide),Lib.hid hb_3⟩
      | true =>
       refine wpAnyH_take (i:=5) (oi:=ieO5) (v := .bool true) rfl (by kernel_rfl) (by kernel_rfl) (by kernel_rfl) (fun _ _ _ h=>h) (Or.inl ⟨by rfl,fun W hW=>?h5⟩) hH ?_
       case h5=>dsimp only [ieO5];go_simp
       simp only [Act.put,List.setIfInBounds_toArray,List.set_cons_zero,List.set_cons_succ]
       refine wpAnyH_take (i:=6) (oi:=ieO6) (v := .pointer (some ⟨b8,20,none⟩)) rfl (by kernel_rfl) (by kernel_rfl) (by kernel_rfl) (fun _ _ _ h=>h) (Or.inl ⟨by rfl,fun W hW=>?h6⟩) hH ?_
       case h6=>dsimp only [ieO6];go_simp
       simp only [Act.put,List.setIfInBounds_toArray,List.set_cons_zero,List.set_cons_succ]
       refine wpAnyH_take (i:=7) (oi:=ieO7) (v := .slice F8 n8 d8) rfl (by kernel_rfl) (by kernel_rfl) (by kernel_rfl) (fun _ _ _ h=>h) (Or.inl ⟨by rfl,fun W hW=>?h7⟩) hH ?_
       case h7 =>
        dsimp only [ieO7]
        obtain ⟨-,-,q0,q1,q2,q3,p0,p1,p2,p3⟩:=hW
        go_simp
       simp only [Act.put,List.setIfInBounds_toArray,List.set_cons_zero,List.set_cons_succ]
       refine wpAnyH_take (i:=8) (oi:=ieO8) (v := .pointer (some ⟨bt,20,none⟩)) rfl (by kernel_rfl) (by kernel_rfl) (by kernel_rfl) (fun _ _ _ h=>h) (Or.inl ⟨by rfl,fun W hW=>?h8⟩) hH ?_
       case h8=>dsimp only [ieO8];go_simp
       simp only [Act.put,List.setIfInBounds_toArray,List.set_cons_zero,List.set_cons_succ]
       refine wpAnyH_take (i:=9) (oi:=ieO9) (v := .slice Ft nt dt) rfl (by kernel_rfl) (by kernel_rfl) (by kernel_rfl) (fun _ _ _ h=>h) (Or.inl ⟨by rfl,fun W hW=>?h9⟩) hH ?_
       case h9 =>
        dsimp only [ieO9]
        obtain ⟨-,-,q0,q1,q2,q3,p0,p1,p2,p3⟩:=hW
        go_simp
       simp only [Act.put,List.setIfInBounds_toArray,List.set_cons_zero,List.set_cons_succ]
       refine wpAnyH_ready (rs:=[10]) (by kernel_rfl) (by simp) ?_
       refine AllReadyH.cons (o:=ieO10) rfl (fun K hK=>?_) AllReadyH.nil
       dsimp only [ieO10]
       rw [if_pos (show Region.wanted _ _=true from by rfl)]
       go_simp
       refine (HSP.out W3 hb_3).mono ?_
       rintro e W4 ⟨rfl,hbs⟩
       have hb_4:=hb_3.trans (hbs.mono hb_3.size)
       clear hbs
       refine hK.out _ _ (HSR.out _ hb_4) (fun hH=>?_)
       try simp only [Act.put,List.setIfInBounds_toArray,List.set_cons_zero,List.set_cons_succ]
       cases r2 with
       | false =>
        refine wpAnyH_take (i:=11) (oi:=ieO11) (v := .bool false) rfl (by kernel_rfl) (by kernel_rfl) (by kernel_rfl) (fun _ _ _ h=>h) (Or.inl ⟨by rfl,fun W hW=>?h11⟩) hH ?_
        case h11=>dsimp only [ieO11];go_simp
        simp only [Act.put,List.setIfInBounds_toArray,List.set_cons_zero,List.set_cons_succ]
        refine wpAnyH_take (i:=12) (oi:=ieO12) (v := .bool false) rfl (by kernel_rfl) (by kernel_rfl) (by kernel_rfl) (fun _ _ _ h=>h) (Or.inl ⟨by rfl,fun W hW=>?h12⟩) hH ?_
        case h12=>dsimp only [ieO12];go_simp
        simp only [Act.put,List.setIfInBounds_toArray,List.set_cons_zero,List.set_cons_succ]
        refine wpAnyH_take (i:=13) (oi:=ieO13) (v:=undef) rfl (by kernel_rfl) (by kernel_rfl) (by kernel_rfl) (fun _ _ _ h=>h) (Or.inr ⟨by rfl,rfl⟩) hH ?_
        simp only [Act.put,List.setIfInBounds_toArray,List.set_cons_zero,List.set_cons_succ]
        refine wpAnyH_take (i:=14) (oi:=ieO14) (v:=undef) rfl (by kernel_rfl) (by kernel_rfl) (by kernel_rfl) (fun _ _ _ h=>h) (Or.inr ⟨by rfl,rfl⟩) hH ?_
        simp only [Act.put,List.setIfInBounds_toArray,List.set_cons_zero,List.set_cons_succ]
        refine wpAnyH_take (i:=15) (oi:=ieO15) (v:=undef) rfl (by kernel_rfl) (by kernel_rfl) (by kernel_rfl) (fun _ _ _ h=>h) (Or.inr ⟨by rfl,rfl⟩) hH ?_
        simp only [Act.put,List.setIfInBounds_toArray,List.set_cons_zero,List.set_cons_succ]
        refine wpAnyH_take (i:=16) (oi:=ieO16) (v:=undef) rfl (by kernel_rfl) (by kernel_rfl) (by kernel_rfl) (fun _ _ _ h=>h) (Or.inr ⟨by rfl,rfl⟩) hH ?_
        simp only [Act.put,List.setIfInBounds_toArray,List.set_cons_zero,List.set_cons_succ]
        refine wpAnyH_take (i:=17) (oi:=ieO17) (v:=undef) rfl (by kernel_rfl) (by kernel_rfl) (by kernel_rfl) (fun _ _ _ h=>h) (Or.inr ⟨by rfl,rfl⟩) hH ?_
        simp only [Act.put,List.setIfInBounds_toArray,List.set_cons_zero,List.set_cons_succ]
        refine wpAnyH_take (i:=18) (oi:=ieO18) (v := .bool false) rfl (by kernel_rfl) (by kernel_rfl) (by kernel_rfl) (fun _ _ _ h=>h) (Or.inl ⟨by rfl,fun W hW=>?h18⟩) hH ?_
        case h18=>dsimp only [ieO18];go_simp
        simp only [Act.put,List.setIfInBounds_toArray,List.set_cons_zero,List.set_cons_succ]
        refine wpAnyH_take (i:=19) (oi:=ieO19) (v := .bool false) rfl (by kernel_rfl) (by kernel_rfl) (by kernel_rfl) (fun _ _ _ h=>h) (Or.inl ⟨by rfl,fun W hW=>?h19⟩) hH ?_
        case h19=>dsimp only [ieO19];go_simp
        simp only [Act.put,List.setIfInBounds_toArray,List.set_cons_zero,List.set_cons_succ]
        refine wpAnyH_take (i:=20) (oi:=ieO20) (v:=undef) rfl (by kernel_rfl) (by kernel_rfl) (by kernel_rfl) (fun _ _ _ h=>h) (Or.inr ⟨by rfl,rfl⟩) hH ?_
        simp only [Act.put,List.setIfInBounds_toArray,List.set_cons_zero,List.set_cons_succ]
        refine wpAnyH_take (i:=21) (oi:=ieO21) (v:=undef) rfl (by kernel_rfl) (by kernel_rfl) (by kernel_rfl) (fun _ _ _ h=>h) (Or.inr ⟨by rfl,rfl⟩) hH ?_
        simp only [Act.put,List.setIfInBounds_toArray,List.set_cons_zero,List.set_cons_succ]
        refine wpAnyH_take (i:=22) (oi:=ieO22) (v:=undef) rfl (by kernel_rfl) (by kernel_rfl) (by kernel_rfl) (fun _ _ _ h=>h) (Or.inr ⟨by rfl,rfl⟩) hH ?_
        simp only [Act.put,List.setIfInBounds_toArray,List.set_cons_zero,List.set_cons_succ]
        refine wpAnyH_take (i:=23) (oi:=ieO23) (v:=undef) rfl (by kernel_rfl) (by kernel_rfl) (by kernel_rfl) (fun _ _ _ h=>h) (Or.inr ⟨by rfl,rfl⟩) hH ?_
        simp only [Act.put,List.setIfInBounds_toArray,List.set_cons_zero,List.set_cons_succ]
        refine wpAnyH_take (i:=24) (oi:=ieO24) (v:=undef) rfl (by kernel_rfl) (by kernel_rfl) (by kernel_rfl) (fun _ _ _ h=>h) (Or.inr ⟨by rfl,rfl⟩) hH ?_
        simp only [Act.put,List.setIfInBounds_toArray,List.set_cons_zero,List.set_cons_succ]
        refine wpAnyH_take (i:=25) (oi:=ieO25) (v := .bool false) rfl (by kernel_rfl) (by kernel_rfl) (by kernel_rfl) (fun _ _ _ h=>h) (Or.inl ⟨by rfl,fun W hW=>?h25⟩) hH ?_
        case h25=>dsimp only [ieO25];go_simp
        simp only [Act.put,List.setIfInBounds_toArray,List.set_cons_zero,List.set_cons_succ]
        refine wpAnyH_take (i:=26) (oi:=ieO26) (v := .bool false) rfl (by kernel_rfl) (by kernel_rfl) (by kernel_rfl) (fun _ _ _ h=>h) (Or.inl ⟨by rfl,fun W hW=>?h26⟩) hH ?_
        case h26=>dsimp only [ieO26];go_simp
        simp only [Act.put,List.setIfInBounds_toArray,List.set_cons_zero,List.set_cons_succ]
        refine wpAnyH_take (i:=27) (oi:=ieO27) (v:=undef) rfl (by kernel_rfl) (by kernel_rfl) (by kernel_rfl) (fun _ _ _ h=>h) (Or.inr ⟨by rfl,rfl⟩) hH ?_
        simp only [Act.put,List.setIfInBounds_toArray,List.set_cons_zero,List.set_cons_succ]
        refine wpAnyH_take (i:=28) (oi:=ieO28) (v:=undef) rfl (by kernel_rfl) (by kernel_rfl) (by kernel_rfl) (fun _ _ _ h=>h) (Or.inr ⟨by rfl,rfl⟩) hH ?_
        simp only [Act.put,List.setIfInBounds_toArray,List.set_cons_zero,List.set_cons_succ]
        refine wpAnyH_take (i:=29) (oi:=ieO29) (v:=undef) rfl (by kernel_rfl) (by kernel_rfl) (by kernel_rfl) (fun _ _ _ h=>h) (Or.inr ⟨by rfl,rfl⟩) hH ?_
        simp only [Act.put,List.setIfInBounds_toArray,List.set_cons_zero,List.set_cons_succ]
        refine wpAnyH_take (i:=30) (oi:=ieO30) (v:=undef) rfl (by kernel_rfl) (by kernel_rfl) (by kernel_rfl) (fun _ _ _ h=>h) (Or.inr ⟨by rfl,rfl⟩) hH ?_
        simp only [Act.put,List.setIfInBounds_toArray,List.set_cons_zero,List.set_cons_succ]
        refine wpAnyH_take (i:=31) (oi:=ieO31) (v:=undef) rfl (by kernel_rfl) (by kernel_rfl) (by kernel_rfl) (fun _ _ _ h=>h) (Or.inr ⟨by rfl,rfl⟩) hH ?_
        simp only [Act.put,List.setIfInBounds_toArray,List.set_cons_zero,List.set_cons_succ]
        refine wpAnyH_take (i:=32) (oi:=ieO32) (v := .bool false) rfl (by kernel_rfl) (by kernel_rfl) (by kernel_rfl) (fun _ _ _ h=>h) (Or.inl ⟨by rfl,fun W hW=>?h32⟩) hH ?_
        case h32=>dsimp only [ieO32];go_simp
        simp only [Act.put,List.setIfInBounds_toArray,List.set_cons_zero,List.set_cons_succ]
        refine wpAnyH_take (i:=33) (oi:=ieO33) (v := .bool false) rfl (by kernel_rfl) (by kernel_rfl) (by kernel_rfl) (fun _ _ _ h=>h) (Or.inl ⟨by rfl,fun W hW=>?h33⟩) hH ?_
        case h33=>dsimp only [ieO33];go_simp
        simp only [Act.put,List.setIfInBounds_toArray,List.set_cons_zero,List.set_cons_succ]
        refine wpAnyH_done (by kernel_rfl) ?_ _
        clear hH
        go_wp2_with fail
        go_meet
        exact ⟨false,rfl,fun hi=>absurd (HI2.out hi) (by decide),Lib.hid hb_4⟩
       | true =>
        refine wpAnyH_take (i:=11) (oi:=ieO11) (v := .bool true) rfl (by kernel_rfl) (by kernel_rfl) (by kernel_rfl) (fun _ _ _ h=>h) (Or.inl ⟨by rfl,fun W hW=>?h11⟩) hH ?_
        case h11=>dsimp only [ieO11];go_simp
        simp only [Act.put,List.setIfInBounds_toArray,List.set_cons_zero,List.set_cons_succ]
        refine wpAnyH_take (i:=12) (oi:=ieO12) (v := .bool true) rfl (by kernel_rfl) (by kernel_rfl) (by kernel_rfl) (fun _ _ _ h=>h) (Or.inl ⟨by rfl,fun W hW=>?h12⟩) hH ?_
        case h12=>dsimp only [ieO12];go_simp
        simp only [Act.put,List.setIfInBounds_toArray,List.set_cons_zero,List.set_cons_succ]
        refine wpAnyH_take (i:=13) (oi:=ieO13) (v := .pointer (some ⟨b8,21,none⟩)) rfl (by kernel_rfl) (by kernel_rfl) (by kernel_rfl) (fun _ _ _ h=>h) (Or.inl ⟨by rfl,fun W hW=>?h13⟩) hH ?_
        case h13=>dsimp only [ieO13];go_simp
        simp only [Act.put,List.setIfInBounds_toArray,List.set_cons_zero,List.set_cons_succ]
        refine wpAnyH_take (i:=14) (oi:=ieO14) (v := .agg #[.int .i64 (m.hits:Nat),.int .i64 (m.misses:Nat),.int .i64 (m.ev:Nat)]) rfl (by kernel_rfl) (by kernel_rfl) (by kernel_rfl) (fun _ _ _ h=>h) (Or.inl ⟨by rfl,fun W hW=>?h14⟩) hH ?_
        case h14 =>
         dsimp only [ieO14]
         obtain ⟨-,-,q0,q1,q2,q3,p0,p1,p2,p3⟩:=hW
         go_simp
        simp only [Act.put,List.setIfInBounds_toArray,List.set_cons_zero,List.set_cons_succ]
        refine wpAnyH_take (i:=15) (oi:=ieO15) (v := .pointer (some ⟨bt,21,none⟩)) rfl (by kernel_rfl) (by kernel_rfl) (by kernel_rfl) (fun _ _ _ h=>h) (Or.inl ⟨by rfl,fun W hW=>?h15⟩) hH ?_
        case h15=>dsimp only [ieO15];go_simp
        simp only [Act.put,List.setIfInBounds_toArray,List.set_cons_zero,List.set_cons_succ]
        refine wpAnyH_take (i:=16) (oi:=ieO16) (v := .agg #[.int .i64 (mt.hits:Nat),.int .i64 (mt.misses:Nat),.int .i64 (mt.ev:Nat)]) rfl (by kernel_rfl) (by kernel_rfl) (by kernel_rfl) (fun _ _ _ h=>h) (Or.inl ⟨by rfl,fun W hW=>?h16⟩) hH ?_
        case h16 =>
         dsimp only [ieO16]
         obtain ⟨-,-,q0,q1,q2,q3,p0,p1,p2,p3⟩:=hW
         go_simp
        simp only [Act.put,List.setIfInBounds_toArray,List.set_cons_zero,List.set_cons_succ]
        cases r3 with
        | false =>
         refine wpAnyH_take (i:=17) (oi:=ieO17) (v := .bool false) rfl (by kernel_rfl) (by kernel_rfl) (by kernel_rfl) (fun _ _ _ h=>h) (Or.inl ⟨by rfl,fun W hW=>?h17⟩) hH ?_
         case h17 =>
          dsimp only [ieO17]
          go_simp
          intro h1 h2 h3
          exact of_decide_eq_false HR3.out ⟨by omega,by omega,by omega⟩
         simp only [Act.put,List.setIfInBounds_toArray,List.set_cons_zero,List.set_cons_succ]
         refine wpAnyH_take (i:=18) (oi:=ieO18) (v := .bool false) rfl (by kernel_rfl) (by kernel_rfl) (by kernel_rfl) (fun _ _ _ h=>h) (Or.inl ⟨by rfl,fun W hW=>?h18⟩) hH ?_
         case h18=>dsimp only [ieO18];go_simp
         simp only [Act.put,List.setIfInBounds_toArray,List.set_cons_zero,List.set_cons_succ]
         refine wpAnyH_take (i:=19) (oi:=ieO19) (v := .bool false) rfl (by kernel_rfl) (by kernel_rfl) (by kernel_rfl) (fun _ _ _ h=>h) (Or.inl ⟨by rfl,fun W hW=>?h19⟩) hH ?_
         case h19=>dsimp only [ieO19];go_simp
         simp only [Act.put,List.setIfInBounds_toArray,List.set_cons_zero,List.set_cons_succ]
         refine wpAnyH_take (i:=20) (oi:=ieO20) (v:=undef) rfl (by kernel_rfl) (by kernel_rfl) (by kernel_rfl) (fun _ _ _ h=>h) (Or.inr ⟨by rfl,rfl⟩) hH ?_
         simp only [Act.put,List.setIfInBounds_toArray,List.set_cons_zero,List.set_cons_succ]
         refine wpAnyH_take (i:=21) (oi:=ieO21) (v:=undef) rfl (by kernel_rfl) (by kernel_rfl) (by kernel_rfl) (fun _ _ _ h=>h) (Or.inr ⟨by rfl,rfl⟩) hH ?_
         simp only [Act.put,List.setIfInBounds_toArray,List.set_cons_zero,List.set_cons_succ]
         refine wpAnyH_take (i:=22) (oi:=ieO22) (v:=undef) rfl (by kernel_rfl) (by kernel_rfl) (by kernel_rfl) (fun _ _ _ h=>h) (Or.inr ⟨by rfl,rfl⟩) hH ?_
         simp only [Act.put,List.setIfInBounds_toArray,List.set_cons_zero,List.set_cons_succ]
         refine wpAnyH_take (i:=23) (oi:=ieO23) (v:=undef) rfl (by kernel_rfl) (by kernel_rfl) (by kernel_rfl) (fun _ _ _ h=>h) (Or.inr ⟨by rfl,rfl⟩) hH ?_
         simp only [Act.put,List.setIfInBounds_toArray,List.set_cons_zero,List.set_cons_succ]
         refine wpAnyH_take (i:=24) (oi:=ieO24) (v:=undef) rfl (by kernel_rfl) (by kernel_rfl) (by kernel_rfl) (fun _ _ _ h=>h) (Or.inr ⟨by rfl,rfl⟩) hH ?_
         simp only [Act.put,List.setIfInBounds_toArray,List.set_cons_zero,List.set_cons_succ]
         refine wpAnyH_take (i:=25) (oi:=ieO25) (v := .bool false) rfl (by kernel_rfl) (by kernel_rfl) (by kernel_rfl) (fun _ _ _ h=>h) (Or.inl ⟨by rfl,fun W hW=>?h25⟩) hH ?_
         case h25=>dsimp only [ieO25];go_simp
         simp only [Act.put,List.setIfInBounds_toArray,List.set_cons_zero,List.set_cons_succ]
         refine wpAnyH_take (i:=26) (oi:=ieO26) (v := .bool false) rfl (by kernel_rfl) (by kernel_rfl) (by kernel_rfl) (fun _ _ _ h=>h) (Or.inl ⟨by rfl,fun W hW=>?h26⟩) hH ?_
         case h26=>dsimp only [ieO26];go_simp
         simp only [Act.put,List.setIfInBounds_toArray,List.set_cons_zero,List.set_cons_succ]
         refine wpAnyH_take (i:=27) (oi:=ieO27) (v:=undef) rfl (by kernel_rfl) (by kernel_rfl) (by kernel_rfl) (fun _ _ _ h=>h) (Or.inr ⟨by rfl,rfl⟩) hH ?_
         simp only [Act.put,List.setIfInBounds_toArray,List.set_cons_zero,List.set_cons_succ]
         refine wpAnyH_take (i:=28) (oi:=ieO28) (v:=undef) rfl (by kernel_rfl) (by kernel_rfl) (by kernel_rfl) (fun _ _ _ h=>h) (Or.inr ⟨by rfl,rfl⟩) hH ?_
         simp only [Act.put,List.setIfInBounds_toArray,List.set_cons_zero,List.set_cons_succ]
         refine wpAnyH_take (i:=29) (oi:=ieO29) (v:=undef) rfl (by kernel_rfl) (by kernel_rfl) (by kernel_rfl) (fun _ _ _ h=>h) (Or.inr ⟨by rfl,rfl⟩) hH ?_
         simp only [Act.put,List.setIfInBounds_toArray,List.set_cons_zero,List.set_cons_succ]
         refine wpAnyH_take (i:=30) (oi:=ieO30) (v:=undef) rfl (by kernel_rfl) (by kernel_rfl) (by kernel_rfl) (fun _ _ _ h=>h) (Or.inr ⟨by rfl,rfl⟩) hH ?_
         simp only [Act.put,List.setIfInBounds_toArray,List.set_cons_zero,List.set_cons_succ]
         refine wpAnyH_take (i:=31) (oi:=ieO31) (v:=undef) rfl (by kernel_rfl) (by kernel_rfl) (by kernel_rfl) (fun _ _ _ h=>h) (Or.inr ⟨by rfl,rfl⟩) hH ?_
         simp only [Act.put,List.setIfInBounds_toArray,List.set_cons_zero,List.set_cons_succ]
         refine wpAnyH_take (i:=32) (oi:=ieO32) (v := .bool false) rfl (by kernel_rfl) (by kernel_rfl) (by kernel_rfl) (fun _ _ _ h=>h) (Or.inl ⟨by rfl,fun W hW=>?h32⟩) hH ?_
         case h32=>dsimp only [ieO32];go_simp
         simp only [Act.put,List.setIfInBounds_toArray,List.set_cons_zero,List.set_cons_succ]
         refine wpAnyH_take (i:=33) (oi:=ieO33) (v := .bool false) rfl (by kernel_rfl) (by kernel_rfl) (by kernel_rfl) (fun _ _ _ h=>h) (Or.inl ⟨by rfl,fun W hW=>?h33⟩) hH ?_
         case h33=>dsimp only [ieO33];go_simp
         simp only [Act.put,List.setIfInBounds_toArray,List.set_cons_zero,List.set_cons_succ]
         refine wpAnyH_done (by kernel_rfl) ?_ _
         clear hH
         go_wp2_with fail
         go_meet
         exact ⟨false,rfl,fun hi=>absurd (HI3.out hi) (by decide),Lib.hid hb_4⟩
        | true =>
         refine wpAnyH_take (i:=17) (oi:=ieO17) (v := .bool true) rfl (by kernel_rfl) (by kernel_rfl) (by kernel_rfl) (fun _ _ _ h=>h) (Or.inl ⟨by rfl,fun W hW=>?h17⟩) hH ?_
         case h17 =>
          dsimp only [ieO17]
          have hr3:=of_decide_eq_true HR3.out
          have h1:(m.hits:Int)=(mt.hits:Int):=by omega
          have h2:(m.misses:Int)=(mt.misses:Int):=by omega
          have h3:(m.ev:Int)=(mt.ev:Int):=by omega
          go_simp
         simp only [Act.put,List.setIfInBounds_toArray,List.set_cons_zero,List.set_cons_succ]
         refine wpAnyH_take (i:=18) (oi:=ieO18) (v := .bool true) rfl (by kernel_rfl) (by kernel_rfl) (by kernel_rfl) (fun _ _ _ h=>h) (Or.inl ⟨by rfl,fun W hW=>?h18⟩) hH ?_
         case h18=>dsimp only [ieO18];go_simp
         simp only [Act.put,List.setIfInBounds_toArray,List.set_cons_zero,List.set_cons_succ]
         refine wpAnyH_take (i:=19) (oi:=ieO19) (v := .bool true) rfl (by kernel_rfl) (by kernel_rfl) (by kernel_rfl) (fun _ _ _ h=>h) (Or.inl ⟨by rfl,fun W hW=>?h19⟩) hH ?_
         case h19=>dsimp only [ieO19];go_simp
         simp only [Act.put,List.setIfInBounds_toArray,List.set_cons_zero,List.set_cons_succ]
         refine wpAnyH_take (i:=20) (oi:=ieO20) rfl (by kernel_rfl) (by kernel_rfl) (by kernel_rfl) (fun _ _ _ h=>h) (yieldsIf_load_mid (by rfl) PT13 (.tmp 8) rfl b8 0 rfl c.toList _ (fun W h=>h.1) Tryz.underlying42 rfl I8.out) hH ?_
         simp only [Act.put,List.setIfInBounds_toArray,List.set_cons_zero,List.set_cons_succ]
         refine wpAnyH_take (i:=22) (oi:=ieO22) rfl (by kernel_rfl) (by kernel_rfl) (by kernel_rfl) (fun _ _ _ h=>h) (yieldsIf_load_mid (by rfl) PT13 (.tmp 14) rfl bt 0 rfl ct.toList _ (fun W h=>h.2.1) Tryz.underlying42 rfl IT.out) hH ?_
         simp only [Act.put,List.setIfInBounds_toArray,List.set_cons_zero,List.set_cons_succ]
         refine wpAnyH_ready (rs:=[21]) (by kernel_rfl) (by simp) ?_
         refine AllReadyH.cons (o:=ieO21) rfl (fun K hK=>?_) AllReadyH.nil
         dsimp only [ieO21]
         rw [if_pos (show Region.wanted _ _=true from by rfl)]
         go_simp
         refine (HGS.out W4 hb_4).mono ?_
         rintro e W5 ⟨rfl,hbs⟩
         have hb_5:=hb_4.trans (hbs.mono hb_4.size)
         clear hbs
         refine hK.out _ _ (HSR.out _ hb_5) (fun hH=>?_)
         try simp only [Act.put,List.setIfInBounds_toArray,List.set_cons_zero,List.set_cons_succ]
         refine wpAnyH_ready (rs:=[23]) (by kernel_rfl) (by simp) ?_
         refine AllReadyH.cons (o:=ieO23) rfl (fun K hK=>?_) AllReadyH.nil
         dsimp only [ieO23]
         rw [if_pos (show Region.wanted _ _=true from by rfl)]
         go_simp
         refine (HGT.out W5 hb_5).mono ?_
         rintro e W6 ⟨rfl,hbs⟩
         have hb_6:=hb_5.trans (hbs.mono hb_5.size)
         clear hbs
         refine hK.out _ _ (HSR.out _ hb_6) (fun hH=>?_)
         try simp only [Act.put,List.setIfInBounds_toArray,List.set_cons_zero,List.set_cons_succ]
         cases r4 with
         | false =>
          refine wpAnyH_take (i:=24) (oi:=ieO24) (v := .bool false) rfl (by kernel_rfl) (by kernel_rfl) (by kernel_rfl) (fun _ _ _ h=>h) (Or.inl ⟨by rfl,fun W hW=>?h24⟩) hH ?_
          case h24 =>
           dsimp only [ieO24]
           have hr4:=HR4.out
           go_simp
          simp only [Act.put,List.setIfInBounds_toArray,List.set_cons_zero,List.set_cons_succ]
          refine wpAnyH_take (i:=25) (oi:=ieO25) (v := .bool false) rfl (by kernel_rfl) (by kernel_rfl) (by kernel_rfl) (fun _ _ _ h=>h) (Or.inl ⟨by rfl,fun W hW=>?h25⟩) hH ?_
          case h25=>dsimp only [ieO25];go_simp
          simp only [Act.put,List.setIfInBounds_toArray,List.set_cons_zero,List.set_cons_succ]
          refine wpAnyH_take (i:=26) (oi:=ieO26) (v := .bool false) rfl (by kernel_rfl) (by kernel_rfl) (by kernel_rfl) (fun _ _ _ h=>h) (Or.inl ⟨by rfl,fun W hW=>?h26⟩) hH ?_
          case h26=>dsimp only [ieO26];go_simp
          simp only [Act.put,List.setIfInBounds_toArray,List.set_cons_zero,List.set_cons_succ]
          refine wpAnyH_take (i:=27) (oi:=ieO27) (v:=undef) rfl (by kernel_rfl) (by kernel_rfl) (by kernel_rfl) (fun _ _ _ h=>h) (Or.inr ⟨by rfl,rfl⟩) hH ?_
          simp only [Act.put,List.setIfInBounds_toArray,List.set_cons_zero,List.set_cons_succ]
          refine wpAnyH_take (i:=28) (oi:=ieO28) (v:=undef) rfl (by kernel_rfl) (by kernel_rfl) (by kernel_rfl) (fun _ _ _ h=>h) (Or.inr ⟨by rfl,rfl⟩) hH ?_
          simp only [Act.put,List.setIfInBounds_toArray,List.set_cons_zero,List.set_cons_succ]
          refine wpAnyH_take (i:=29) (oi:=ieO29) (v:=undef) rfl (by kernel_rfl) (by kernel_rfl) (by kernel_rfl) (fun _ _ _ h=>h) (Or.inr ⟨by rfl,rfl⟩) hH ?_
          simp only [Act.put,List.setIfInBounds_toArray,List.set_cons_zero,List.set_cons_succ]
          refine wpAnyH_take (i:=30) (oi:=ieO30) (v:=undef) rfl (by kernel_rfl) (by kernel_rfl) (by kernel_rfl) (fun _ _ _ h=>h) (Or.inr ⟨by rfl,rfl⟩) hH ?_
          simp only [Act.put,List.setIfInBounds_toArray,List.set_cons_zero,List.set_cons_succ]
          refine wpAnyH_take (i:=31) (oi:=ieO31) (v:=undef) rfl (by kernel_rfl) (by kernel_rfl) (by kernel_rfl) (fun _ _ _ h=>h) (Or.inr ⟨by rfl,rfl⟩) hH ?_
          simp only [Act.put,List.setIfInBounds_toArray,List.set_cons_zero,List.set_cons_succ]
          refine wpAnyH_take (i:=32) (oi:=ieO32) (v := .bool false) rfl (by kernel_rfl) (by kernel_rfl) (by kernel_rfl) (fun _ _ _ h=>h) (Or.inl ⟨by rfl,fun W hW=>?h32⟩) hH ?_
          case h32=>dsimp only [ieO32];go_simp
          simp only [Act.put,List.setIfInBounds_toArray,List.set_cons_zero,List.set_cons_succ]
          refine wpAnyH_take (i:=33) (oi:=ieO33) (v := .bool false) rfl (by kernel_rfl) (by kernel_rfl) (by kernel_rfl) (fun _ _ _ h=>h) (Or.inl ⟨by rfl,fun W hW=>?h33⟩) hH ?_
          case h33=>dsimp only [ieO33];go_simp
          simp only [Act.put,List.setIfInBounds_toArray,List.set_cons_zero,List.set_cons_succ]
          refine wpAnyH_done (by kernel_rfl) ?_ _
          clear hH
          go_wp2_with fail
          go_meet
          exact ⟨false,rfl,fun hi=>absurd (HI4.out hi) (by decide),Lib.hid hb_6⟩
         | true =>
          refine wpAnyH_take (i:=24) (oi:=ieO24) (v := .bool true) rfl (by kernel_rfl) (by kernel_rfl) (by kernel_rfl) (fun _ _ _ h=>h) (Or.inl ⟨by rfl,fun W hW=>?h24⟩) hH ?_
          case h24 =>
           dsimp only [ieO24]
           have hr4:=HR4.out
           go_simp
          simp only [Act.put,List.setIfInBounds_toArray,List.set_cons_zero,List.set_cons_succ]
          refine wpAnyH_take (i:=25) (oi:=ieO25) (v := .bool true) rfl (by kernel_rfl) (by kernel_rfl) (by kernel_rfl) (fun _ _ _ h=>h) (Or.inl ⟨by rfl,fun W hW=>?h25⟩) hH ?_
          case h25=>dsimp only [ieO25];go_simp
          simp only [Act.put,List.setIfInBounds_toArray,List.set_cons_zero,List.set_cons_succ]
          refine wpAnyH_take (i:=26) (oi:=ieO26) (v := .bool true) rfl (by kernel_rfl) (by kernel_rfl) (by kernel_rfl) (fun _ _ _ h=>h) (Or.inl ⟨by rfl,fun W hW=>?h26⟩) hH ?_
          case h26=>dsimp only [ieO26];go_simp
          simp only [Act.put,List.setIfInBounds_toArray,List.set_cons_zero,List.set_cons_succ]
          refine wpAnyH_take (i:=27) (oi:=ieO27) rfl (by kernel_rfl) (by kernel_rfl) (by kernel_rfl) (fun _ _ _ h=>h) (yieldsIf_load_mid (by rfl) PT13 (.tmp 8) rfl b8 0 rfl c.toList _ (fun W h=>h.1) Tryz.underlying42 rfl I8.out) hH ?_
          simp only [Act.put,List.setIfInBounds_toArray,List.set_cons_zero,List.set_cons_succ]
          refine wpAnyH_take (i:=29) (oi:=ieO29) rfl (by kernel_rfl) (by kernel_rfl) (by kernel_rfl) (fun _ _ _ h=>h) (yieldsIf_load_mid (by rfl) PT13 (.tmp 14) rfl bt 0 rfl ct.toList _ (fun W h=>h.2.1) Tryz.underlying42 rfl IT.out) hH ?_
          simp only [Act.put,List.setIfInBounds_toArray,List.set_cons_zero,List.set_cons_succ]
          refine wpAnyH_ready (rs:=[28]) (by kernel_rfl) (by simp) ?_
          refine AllReadyH.cons (o:=ieO28) rfl (fun K hK=>?_) AllReadyH.nil
          dsimp only [ieO28]
          rw [if_pos (show Region.wanted _ _=true from by rfl)]
          go_simp
          refine (HCS.out W6 hb_6).mono ?_
          rintro e W7 ⟨rfl,hbs⟩
          have hb_7:=hb_6.trans (hbs.mono hb_6.size)
          clear hbs
          refine hK.out _ _ (HSR.out _ hb_7) (fun hH=>?_)
          try simp only [Act.put,List.setIfInBounds_toArray,List.set_cons_zero,List.set_cons_succ]
          refine wpAnyH_ready (rs:=[30]) (by kernel_rfl) (by simp) ?_
          refine AllReadyH.cons (o:=ieO30) rfl (fun K hK=>?_) AllReadyH.nil
          dsimp only [ieO30]
          rw [if_pos (show Region.wanted _ _=true from by rfl)]
          go_simp
          refine (HCT.out W7 hb_7).mono ?_
          rintro e W8 ⟨rfl,hbs⟩
          have hb_8:=hb_7.trans (hbs.mono hb_7.size)
          clear hbs
          refine hK.out _ _ (HSR.out _ hb_8) (fun hH=>?_)
          try simp only [Act.put,List.setIfInBounds_toArray,List.set_cons_zero,List.set_cons_succ]
          cases r5 with
          | false =>
           refine wpAnyH_take (i:=31) (oi:=ieO31) (v := .bool false) rfl (by kernel_rfl) (by kernel_rfl) (by kernel_rfl) (fun _ _ _ h=>h) (Or.inl ⟨by rfl,fun W hW=>?h31⟩) hH ?_
           case h31 =>
            dsimp only [ieO31]
            have hr5:=HR5.out
            go_simp
           simp only [Act.put,List.setIfInBounds_toArray,List.set_cons_zero,List.set_cons_succ]
           refine wpAnyH_take (i:=32) (oi:=ieO32) (v := .bool false) rfl (by kernel_rfl) (by kernel_rfl) (by kernel_rfl) (fun _ _ _ h=>h) (Or.inl ⟨by rfl,fun W hW=>?h32⟩) hH ?_
           case h32=>dsimp only [ieO32];go_simp
           simp only [Act.put,List.setIfInBounds_toArray,List.set_cons_zero,List.set_cons_succ]
           refine wpAnyH_take (i:=33) (oi:=ieO33) (v := .bool false) rfl (by kernel_rfl) (by kernel_rfl) (by kernel_rfl) (fun _ _ _ h=>h) (Or.inl ⟨by rfl,fun W hW=>?h33⟩) hH ?_
           case h33=>dsimp only [ieO33];go_simp
           simp only [Act.put,List.setIfInBounds_toArray,List.set_cons_zero,List.set_cons_succ]
           refine wpAnyH_done (by kernel_rfl) ?_ _
           clear hH
           go_wp2_with fail
           go_meet
           exact ⟨false,rfl,fun hi=>absurd (HI5.out hi) (by decide),Lib.hid hb_8⟩
          | true =>
           refine wpAnyH_take (i:=31) (oi:=ieO31) (v := .bool true) rfl (by kernel_rfl) (by kernel_rfl) (by kernel_rfl) (fun _ _ _ h=>h) (Or.inl ⟨by rfl,fun W hW=>?h31⟩) hH ?_
           case h31 =>
            dsimp only [ieO31]
            have hr5:=HR5.out
            go_simp
           simp only [Act.put,List.setIfInBounds_toArray,List.set_cons_zero,List.set_cons_succ]
           refine wpAnyH_take (i:=32) (oi:=ieO32) (v := .bool true) rfl (by kernel_rfl) (by kernel_rfl) (by kernel_rfl) (fun _ _ _ h=>h) (Or.inl ⟨by rfl,fun W hW=>?h32⟩) hH ?_
           case h32=>dsimp only [ieO32];go_simp
           simp only [Act.put,List.setIfInBounds_toArray,List.set_cons_zero,List.set_cons_succ]
           refine wpAnyH_take (i:=33) (oi:=ieO33) (v := .bool true) rfl (by kernel_rfl) (by kernel_rfl) (by kernel_rfl) (fun _ _ _ h=>h) (Or.inl ⟨by rfl,fun W hW=>?h33⟩) hH ?_
           case h33=>dsimp only [ieO33];go_simp
           simp only [Act.put,List.setIfInBounds_toArray,List.set_cons_zero,List.set_cons_succ]
           refine wpAnyH_done (by kernel_rfl) ?_ _
           clear hH
           go_wp2_with fail
           go_meet
           exact ⟨true,rfl,fun _=>rfl,Lib.hid hb_8⟩
     case rest =>
      obtain ⟨r,rfl,hri,HBW⟩:=hcut
      have hba3:=(HBW.out.block _ (head_row HBA2.out).lt).trans HBA2.out
      have HLW:=Lib.hid (HLO.out.trans ((HL2.out.trans (HBW.out.mono HL2.out.size)).mono HLO.out.size))
      cases idb with
      | false =>
       clear HIDL hri HBW HI1 HI2 HI3 HI4 HI5 hba3
       go_wp2_with fail
       go_ret
       exact ⟨by simp,HLW.out⟩
      | true =>
       have hr:r=true:=hri rfl
       obtain ⟨-,hout,hhit⟩:=HIDL.out rfl
       rw [hout] at hk2
       subst hr hk2
       rw [hhit] at hba3
       obtain ⟨⟨a0,-,-,a3,-⟩,-⟩:=c5_at hba3
       clear HIDL hri HBW HI1 HI2 HI3 HI4 HI5 hba3 hout hhit
       go_wp2_with fail
       go_ret
       exact ⟨by simp,HLW.out⟩
end Go.Proofs.YtcpggonengkgiaaGreatDoor
