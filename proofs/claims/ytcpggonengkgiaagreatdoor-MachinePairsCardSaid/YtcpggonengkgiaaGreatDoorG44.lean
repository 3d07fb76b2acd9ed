/- Words and walks: McAw McRN8 McRN9 McRN10. -/
import Derived.Test.YtcpggonengkgiaaGreatDoorG0
import Derived.Test.YtcpggonengkgiaaGreatDoorG33
import Derived.Test.YtcpggonengkgiaaGreatDoorG4
import Derived.Test.YtcpggonengkgiaaGreatDoorG43
import Derived.Test.YtcpggonengkgiaaGreatDoorG5
import Derived.Test.YtcpggonengkgiaaGreatDoorG8
namespace Go.Proofs.YtcpggonengkgiaaGreatDoor
open Go Go.RowKit Go.Deep
set_option maxRecDepth 8000
theorem wpList_load_mid_g {P:Program} {ops:Array Oper} {rest:List Oper} {op:Oper} {a:Act} {w:World} {Q:Exit->Act->World->Prop} (hw:Region.wanted op (yielded ops a.tmps)=true) (ty:TypeId) (x:Operand) (ho:op.op = .load ty x)
  (b o:Nat) (hx:a.eval x = .pointer (some ⟨b,o,none⟩)) (cs:List Value) (d:TypeDesc) (hc:w.rangeAt b o cs) (hu:P.underlying ty=some d) (hd:d.isRow=true) (hi:(P.info? ty).map (·.size)=some cs.length)
  (h:wpList P ops Q rest (a.put op.dst (.agg cs.toArray)) w):wpList P ops Q (op :: rest) a w :=
 wpList_step fun K hK=>by
  rw [if_pos hw]
  exact wp_load_mid ty x ho b o hx cs d hc hu hd hi (hK _ _ h)
structure St1 (w:World) (cs:Array Value):Prop where
 th:(w.alloc (.cells z13 PT13)).there w.heap.size 0 cs.size
 inf:(Tryz.prog.info? PT13).map (·.size)=some cs.size
 one:cs.all (·.oneCell')=true
 low:Below w.heap.size w ((w.alloc (.cells z13 PT13)).setCells w.heap.size 0 cs.toList)
 box:((w.alloc (.cells z13 PT13)).setCells w.heap.size 0 cs.toList).heap[w.heap.size]? = some (.cells cs PT13 (0,0))
theorem st1 (w:World) (x:V13):St1 w x.C:=by
 have h0:=heap_alloc_new w (.cells z13 PT13)
 have ho:Only [w.heap.size] (w.alloc (.cells z13 PT13)) ((w.alloc (.cells z13 PT13)).setCells w.heap.size 0 x.C.toList):=only_setCells (by simp) _ _ _ _ (Only.refl _ _)
 exact ⟨there_of h0 rfl,by kernel_rfl,V13.one _,(low_one w _).trans (ho.below (by simp) (by simp)),block_whole h0 rfl⟩
structure St2 (w:World) (cs ca:Array Value):Prop where
 th1:((w.alloc (.cells z13 PT13)).alloc (.cells zA AnsT)).there w.heap.size 0 cs.size
 th2:(((w.alloc (.cells z13 PT13)).alloc (.cells zA AnsT)).setCells w.heap.size 0 cs.toList).there (w.heap.size+1) 0 ca.size
 inf1:(Tryz.prog.info? PT13).map (·.size)=some cs.size
 inf2:(Tryz.prog.info? AnsT).map (·.size)=some ca.size
 inf3:(Tryz.prog.info? PT13).map (·.size)=some cs.toList.length
 one1:cs.all (·.oneCell')=true
 one2:ca.all (·.oneCell')=true
 low:Below w.heap.size w ((((w.alloc (.cells z13 PT13)).alloc (.cells zA AnsT)).setCells w.heap.size 0 cs.toList).setCells (w.heap.size+1) 0 ca.toList)
 box1:((((w.alloc (.cells z13 PT13)).alloc (.cells zA AnsT)).setCells w.heap.size 0 cs.toList).setCells (w.heap.size+1) 0 ca.toList).heap[w.heap.size]? = some (.cells cs PT13 (0,0))
 box2:((((w.alloc (.cells z13 PT13)).alloc (.cells zA AnsT)).setCells w.heap.size 0 cs.toList).setCells (w.heap.size+1) 0 ca.toList).heap[w.heap.size+1]? = some (.cells ca AnsT (0,0))
theorem st2 (w:World) (x:V13) (hit:Bool) (v n er:Nat) (F:Option Addr) (k d:Nat):St2 w x.C (an13C hit v n er F k d):=by
 have h0:((w.alloc (.cells z13 PT13)).alloc (.cells zA AnsT)).heap[w.heap.size]? = some (.cells z13 PT13 (0,0)):=by
  rw [Below.heap_alloc _ _ _ (by simp)]
  exact heap_alloc_new w _
 have h1:((w.alloc (.cells z13 PT13)).alloc (.cells zA AnsT)).heap[w.heap.size+1]? = some (.cells zA AnsT (0,0)):=by
  have:=heap_alloc_new (w.alloc (.cells z13 PT13)) (.cells zA AnsT)
  rwa [World.size_alloc] at this
 have ho:Only [w.heap.size] ((w.alloc (.cells z13 PT13)).alloc (.cells zA AnsT)) (((w.alloc (.cells z13 PT13)).alloc (.cells zA AnsT)).setCells w.heap.size 0 x.C.toList):=only_setCells (by simp) _ _ _ _ (Only.refl _ _)
 have g0:=block_whole (vs:=x.C) h0 rfl
 have g1:=(ho.block _ (head_row h1).lt (by simp)).trans h1
 have hp:Only [w.heap.size+1] (((w.alloc (.cells z13 PT13)).alloc (.cells zA AnsT)).setCells w.heap.size 0 x.C.toList) ((((w.alloc (.cells z13 PT13)).alloc (.cells zA AnsT)).setCells w.heap.size 0 x.C.toList).setCells (w.heap.size+1) 0 (an13C hit v n er F k d).toList):=only_setCells (by simp) _ _ _ _ (Only.refl _ _)
 have hl:=(low_two w (.cells z13 PT13) (.cells zA AnsT)).trans (ho.below (by simp) (by simp;omega))
 exact ⟨there_of h0 rfl,there_of g1 rfl,by kernel_rfl,by kernel_rfl,by kernel_rfl,V13.one _,an_one _ _ _ _ _ _ _,hl.trans (hp.below (by simp) hl.size),(hp.block _ (head_row g0).lt (by simp)).trans g0,block_whole g1 rfl⟩
theorem load24 {w:World} {b:Nat} {x:V13} (h:w.heap[b]? = some (.cells x.C PT13 (0,0))):w.rangeAt b 0 x.C.toList/\(Tryz.prog.info? PT13).map (·.size)=some x.C.toList.length:=⟨range_of h,by kernel_rfl⟩
set_option maxHeartbeats 3000000 in
theorem awake13 (A:AllOk) {w:World} (hE:ErrT w):Calls Tryz.prog 8 #[] w (RetB w true):=by
 have HA:=Lib.hid A
 have hw0:=hE.lt
 have HE:=Lib.hid hE
 have K1:=Lib.hid (new13_walk (w:=w) A 1 1 (by decide) (by decide) (by decide) (by decide))
 clear A hE
 go_enter Tryz.func8,Tryz.ntmps8
 go_wp2_with fail
 refine K1.out.mono ?_
 rintro e w1 ⟨x1,rfl,hb1,hs1⟩
 have t1:=st1 w1 x1
 have hl1:=hb1.trans (t1.low.mono hb1.size)
 have HL1:=Lib.hid hl1
 have HE1:=Lib.hid (HE.out.below hl1 hw0)
 have HS1:=Lib.hid (show St13 _ Aw.m0 x1 from hs1.below t1.low)
 have HB1:=Lib.hid t1.box
 have l1:=load24 t1.box
 obtain ⟨V1,hV1⟩:∃ V,((w1.alloc (.cells z13 PT13)).setCells w1.heap.size 0 x1.C.toList)=V:=⟨_,rfl⟩
 have K2:=step13_walk HA.out HE1.out HS1.out Aw.mk0 Aw.lw0 Aw.ok1 Aw.sm1
 rw [hV1] at l1 K2 HL1 HE1 HS1 HB1
 obtain ⟨c1,hc1⟩:∃ c,x1.C=c:=⟨_,rfl⟩
 rw [hc1] at t1 l1 K2 hV1 HB1
 have T1:=Lib.hid t1
 have R1:=Lib.hid l1
 have HC1:=Lib.hid hc1
 have K2:=Lib.hid K2
 clear K1 hb1 hs1 t1 hl1 l1 HE hc1
 go_upto_region 2 with (refine wpList_store_mid rfl PT13 (.tmp 1) (.tmp 15) rfl w1.heap.size 0 c1 rfl (congrArg Value.agg HC1.out) T1.out.th T1.out.inf T1.out.one ?_)
 try rw [hV1]
 clear hV1 T1
 go_wp2_with (refine wpList_load_mid rfl PT13 (.tmp 1) rfl w1.heap.size 0 rfl c1.toList _ R1.out.1 Tryz.underlying42 rfl R1.out.2 ?_)
 refine K2.out.mono ?_
 rintro e w2 ⟨x2,F2,k2,d2,rfl,hb2,hs2,hp2⟩
 have t2:=st2 w2 x2 (Aw.m0.ans Aw.o1).hit (Aw.m0.ans Aw.o1).val (Aw.m0.ans Aw.o1).n (Aw.m0.ans Aw.o1).err F2 k2 d2
 have hl2:=hb2.trans (t2.low.mono hb2.size)
 have HL2:=Lib.hid (HL1.out.trans (hl2.mono HL1.out.size))
 have HE2:=Lib.hid (HE1.out.below hl2 (by have:=HL1.out.size;omega))
 have HS2:=Lib.hid (show St13 _ Aw.m1 x2 from hs2.below t2.low)
 have HP2:=Lib.hid (hp2.below t2.low)
 have HB2:=Lib.hid t2.box1
 have HA2:=Lib.hid t2.box2
 have l2:=load24 t2.box1
 obtain ⟨V2,hV2⟩:∃ V,((((w2.alloc (.cells z13 PT13)).alloc (.cells zA AnsT)).setCells w2.heap.size 0 x2.C.toList).setCells (w2.heap.size+1) 0 (an13C (Aw.m0.ans Aw.o1).hit (Aw.m0.ans Aw.o1).val (Aw.m0.ans Aw.o1).n (Aw.m0.ans Aw.o1).err F2 k2 d2).toList)=V:=⟨_,rfl⟩
 have K3:=step13_walk HA.out HE2.out HS2.out Aw.mk1 Aw.lw1 Aw.ok2 Aw.sm2
 rw [hV2] at l2 HL2 HE2 HS2 HP2 HB2 HA2 K3
 obtain ⟨c2,hc2⟩:∃ c,x2.C=c:=⟨_,rfl⟩
 obtain ⟨a2,ha2⟩:∃ a,an13C (Aw.m0.ans Aw.o1).hit (Aw.m0.ans Aw.o1).val (Aw.m0.ans Aw.o1).n (Aw.m0.ans Aw.o1).err F2 k2 d2=a:=⟨_,rfl⟩
 rw [hc2] at t2 l2 hV2 HB2 K3
 rw [ha2] at t2 hV2 HA2
 have T2:=Lib.hid t2
 have R2:=Lib.hid l2
 have HC2:=Lib.hid hc2
 have HN2:=Lib.hid ha2
 have K3:=Lib.hid K3
 clear K2 hb2 hs2 hp2 t2 hl2 l2 hc2 ha2 R1 HE1 HL1
 go_upto_region 3 with (first | (refine wpList_store_mid rfl PT13 (.tmp 3) (.tmp 21) rfl w2.heap.size 0 c2 rfl (congrArg Value.agg HC2.out) T2.out.th1 T2.out.inf1 T2.out.one1 ?_) | (refine wpList_store_mid rfl AnsT (.tmp 4) (.tmp 22) rfl (w2.heap.size+1) 0 a2 rfl (congrArg Value.agg HN2.out) T2.out.th2 T2.out.inf2 T2.out.one2 ?_))
 try rw [hV2]
 clear hV2 T2
 go_wp2_with (refine wpList_load_mid rfl PT13 (.tmp 3) rfl w2.heap.size 0 rfl c2.toList _ R2.out.1 Tryz.underlying42 rfl R2.out.2 ?_)
 refine K3.out.mono ?_
 rintro e w3 ⟨x3,F3,k3,d3,rfl,hb3,hs3,hp3⟩
 have t3:=st2 w3 x3 (Aw.m1.ans Aw.o2).hit (Aw.m1.ans Aw.o2).val (Aw.m1.ans Aw.o2).n (Aw.m1.ans Aw.o2).err F3 k3 d3
 have hl3:=hb3.trans (t3.low.mono hb3.size)
 have HL3:=Lib.hid (HL2.out.trans (hl3.mono HL2.out.size))
 have HE3:=Lib.hid (HE2.out.below hl3 (by have:=HL2.out.size;omega))
 have HS3:=Lib.hid (show St13 _ Aw.m2 x3 from hs3.below t3.low)
 have HP3:=Lib.hid (hp3.below t3.low)
 have HB3:=Lib.hid t3.box1
 have HA3:=Lib.hid t3.box2
 have l3:=load24 t3.box1
 obtain ⟨V3,hV3⟩:∃ V,((((w3.alloc (.cells z13 PT13)).alloc (.cells zA AnsT)).setCells w3.heap.size 0 x3.C.toList).setCells (w3.heap.size+1) 0 (an13C (Aw.m1.ans Aw.o2).hit (Aw.m1.ans Aw.o2).val (Aw.m1.ans Aw.o2).n (Aw.m1.ans Aw.o2).err F3 k3 d3).toList)=V:=⟨_,rfl⟩
 have K4:=step13_walk HA.out HE3.out HS3.out Aw.mk2 Aw.lw2 Aw.ok3 Aw.sm3
 rw [hV3] at l3 HL3 HE3 HS3 HP3 HB3 HA3 K4
 obtain ⟨c3,hc3⟩:∃ c,x3.C=c:=⟨_,rfl⟩
 obtain ⟨a3,ha3⟩:∃ a,an13C (Aw.m1.ans Aw.o2).hit (Aw.m1.ans Aw.o2).val (Aw.m1.ans Aw.o2).n (Aw.m1.ans Aw.o2).err F3 k3 d3=a:=⟨_,rfl⟩
 rw [hc3] at t3 l3 hV3 HB3 K4
 rw [ha3] at t3 hV3 HA3
 have T3:=Lib.hid t3
 have R3:=Lib.hid l3
 have HC3:=Lib.hid hc3
 have HN3:=Lib.hid ha3
 have K4:=Lib.hid K4
 clear K3 hb3 hs3 hp3 t3 hl3 l3 hc3 ha3 R2 HE2 HL2
 go_upto_region 4 with (first | (refine wpList_store_mid rfl PT13 (.tmp 5) (.tmp 27) rfl w3.heap.size 0 c3 rfl (congrArg Value.agg HC3.out) T3.out.th1 T3.out.inf1 T3.out.one1 ?_) | (refine wpList_store_mid rfl AnsT (.tmp 6) (.tmp 28) rfl (w3.heap.size+1) 0 a3 rfl (congrArg Value.agg HN3.out) T3.out.th2 T3.out.inf2 T3.out.one2 ?_))
 try rw [hV3]
 clear hV3 T3
 go_wp2_with (refine wpList_load_mid rfl PT13 (.tmp 5) rfl w3.heap.size 0 rfl c3.toList _ R3.out.1 Tryz.underlying42 rfl R3.out.2 ?_)
 refine K4.out.mono ?_
 rintro e w4 ⟨x4,F4,k4,d4,rfl,hb4,hs4,hp4⟩
 have t4:=st2 w4 x4 (Aw.m2.ans Aw.o3).hit (Aw.m2.ans Aw.o3).val (Aw.m2.ans Aw.o3).n (Aw.m2.ans Aw.o3).err F4 k4 d4
 have hl4:=hb4.trans (t4.low.mono hb4.size)
 have HL4:=Lib.hid (HL3.out.trans (hl4.mono HL3.out.size))
 have HE4:=Lib.hid (HE3.out.below hl4 (by have:=HL3.out.size;omega))
 have HS4:=Lib.hid (show St13 _ Aw.m3 x4 from hs4.below t4.low)
 have HP4:=Lib.hid (hp4.below t4.low)
 have HB4:=Lib.hid t4.box1
 have HA4:=Lib.hid t4.box2
 have l4:=load24 t4.box1
 have GA3_4:=Lib.hid ((hl4.block _ (head_row HA3.out).lt).trans HA3.out)
 have GP3_4:=Lib.hid (HP3.out.below hl4)
 obtain ⟨V4,hV4⟩:∃ V,((((w4.alloc (.cells z13 PT13)).alloc (.cells zA AnsT)).setCells w4.heap.size 0 x4.C.toList).setCells (w4.heap.size+1) 0 (an13C (Aw.m2.ans Aw.o3).hit (Aw.m2.ans Aw.o3).val (Aw.m2.ans Aw.o3).n (Aw.m2.ans Aw.o3).err F4 k4 d4).toList)=V:=⟨_,rfl⟩
 have K5:=step13_walk HA.out HE4.out HS4.out Aw.mk3 Aw.lw3 Aw.ok4 Aw.sm4
 rw [hV4] at l4 HL4 HE4 HS4 HP4 HB4 HA4 GA3_4 GP3_4 K5
 obtain ⟨c4,hc4⟩:∃ c,x4.C=c:=⟨_,rfl⟩
 obtain ⟨a4,ha4⟩:∃ a,an13C (Aw.m2.ans Aw.o3).hit (Aw.m2.ans Aw.o3).val (Aw.m2.ans Aw.o3).n (Aw.m2.ans Aw.o3).err F4 k4 d4=a:=⟨_,rfl⟩
 rw [hc4] at t4 l4 hV4 HB4 K5
 rw [ha4] at t4 hV4 HA4
 have T4:=Lib.hid t4
 have R4:=Lib.hid l4
 have HC4:=Lib.hid hc4
 have HN4:=Lib.hid ha4
 have K5:=Lib.hid K5
 clear K4 hb4 hs4 hp4 t4 hl4 l4 hc4 ha4 R3 HE3 HL3
 go_upto_region 5 with (first | (refine wpList_store_mid rfl PT13 (.tmp 7) (.tmp 33) rfl w4.heap.size 0 c4 rfl (congrArg Value.agg HC4.out) T4.out.th1 T4.out.inf1 T4.out.one1 ?_) | (refine wpList_store_mid rfl AnsT (.tmp 8) (.tmp 34) rfl (w4.heap.size+1) 0 a4 rfl (congrArg Value.agg HN4.out) T4.out.th2 T4.out.inf2 T4.out.one2 ?_))
 try rw [hV4]
 clear hV4 T4
 go_wp2_with (refine wpList_load_mid rfl PT13 (.tmp 7) rfl w4.heap.size 0 rfl c4.toList _ R4.out.1 Tryz.underlying42 rfl R4.out.2 ?_)
 refine K5.out.mono ?_
 rintro e w5 ⟨x5,F5,k5,d5,rfl,hb5,hs5,hp5⟩
 have t5:=st2 w5 x5 (Aw.m3.ans Aw.o4).hit (Aw.m3.ans Aw.o4).val (Aw.m3.ans Aw.o4).n (Aw.m3.ans Aw.o4).err F5 k5 d5
 have hl5:=hb5.trans (t5.low.mono hb5.size)
 have HL5:=Lib.hid (HL4.out.trans (hl5.mono HL4.out.size))
 have HE5:=Lib.hid (HE4.out.below hl5 (by have:=HL4.out.size;omega))
 have HS5:=Lib.hid (hs5.below t5.low)
 have HP5:=Lib.hid (hp5.below t5.low)
 have HB5:=Lib.hid t5.box1
 have HA5:=Lib.hid t5.box2
 have l5:=load24 t5.box1
 have GA3_5:=Lib.hid ((hl5.block _ (head_row GA3_4.out).lt).trans GA3_4.out)
 have GA4_5:=Lib.hid ((hl5.block _ (head_row HA4.out).lt).trans HA4.out)
 have GP3_5:=Lib.hid (GP3_4.out.below hl5)
 have GB4_5:=Lib.hid ((hl5.block _ (head_row HB4.out).lt).trans HB4.out)
 have GS4_5:=Lib.hid (HS4.out.below hl5)
 obtain ⟨V5,hV5⟩:∃ V,((((w5.alloc (.cells z13 PT13)).alloc (.cells zA AnsT)).setCells w5.heap.size 0 x5.C.toList).setCells (w5.heap.size+1) 0 (an13C (Aw.m3.ans Aw.o4).hit (Aw.m3.ans Aw.o4).val (Aw.m3.ans Aw.o4).n (Aw.m3.ans Aw.o4).err F5 k5 d5).toList)=V:=⟨_,rfl⟩
 rw [hV5] at l5 HL5 HE5 HS5 HP5 HB5 HA5 GA3_5 GA4_5 GP3_5 GB4_5 GS4_5
 obtain ⟨c5,hc5⟩:∃ c,x5.C=c:=⟨_,rfl⟩
 obtain ⟨a5,ha5⟩:∃ a,an13C (Aw.m3.ans Aw.o4).hit (Aw.m3.ans Aw.o4).val (Aw.m3.ans Aw.o4).n (Aw.m3.ans Aw.o4).err F5 k5 d5=a:=⟨_,rfl⟩
 rw [hc5] at t5 l5 hV5 HB5
 rw [ha5] at t5 hV5 HA5
 have T5:=Lib.hid t5
 have R5:=Lib.hid l5
 have HC5:=Lib.hid hc5
 have HN5:=Lib.hid ha5
 clear K5 hb5 hs5 hp5 t5 hl5 l5 hc5 ha5 R4 HE4 HL4
 obtain ⟨c6,hc6⟩:∃ c,(x13 0).C=c:=⟨_,rfl⟩
 have HC6:=Lib.hid hc6
 have K6:=Lib.hid (new13_bad (w:=V5) 1 0 sCapacity 0 (may_capacity _ 1 0 (by decide) (by decide) (.inl (by decide))))
 clear hc6
 go_upto_region 6 with (first | (refine wpList_store_mid rfl PT13 (.tmp 9) (.tmp 39) rfl w5.heap.size 0 c5 rfl (congrArg Value.agg HC5.out) T5.out.th1 T5.out.inf1 T5.out.one1 ?_) | (refine wpList_store_mid rfl AnsT (.tmp 10) (.tmp 40) rfl (w5.heap.size+1) 0 a5 rfl (congrArg Value.agg HN5.out) T5.out.th2 T5.out.inf2 T5.out.one2 ?_))
 try rw [hV5]
 clear hV5 T5
 go_wp2_with fail
 refine K6.out.mono ?_
 rintro e w6 ⟨ba,rfl,hbad,hb6⟩
 have t6:=st1 w6 (x13 0)
 have hl6:=hb6.trans (t6.low.mono hb6.size)
 have HL6:=Lib.hid (HL5.out.trans (hl6.mono HL5.out.size))
 have gp3:=GP3_5.out.below hl6
 have ga3:=(hl6.block _ (head_row GA3_5.out).lt).trans GA3_5.out
 have ga4:=(hl6.block _ (head_row GA4_5.out).lt).trans GA4_5.out
 have ga5:=(hl6.block _ (head_row HA5.out).lt).trans HA5.out
 have gb4:=(hl6.block _ (head_row GB4_5.out).lt).trans GB4_5.out
 have gs4:=GS4_5.out.below hl6
 have gbad:=hbad.below t6.low hbad.lt
 rw [<- HN3.out] at ga3
 rw [<- HN4.out] at ga4
 rw [<- HN5.out] at ga5
 rw [<- HC4.out] at gb4
 have l4:=load24 gb4
 rw [Aw.out2] at gp3
 obtain ⟨V6,hV6⟩:∃ V,((w6.alloc (.cells z13 PT13)).setCells w6.heap.size 0 (x13 0).C.toList)=V:=⟨_,rfl⟩
 rw [hV6] at HL6 gp3 ga3 ga4 ga5 gb4 gs4 l4 gbad
 have KC:=capacity13_walk HA.out gs4 Aw.mk3
 rw [Aw.at3.2.2.2,HC4.out] at KC
 rw [HC4.out] at l4
 rw [HC6.out] at t6 hV6
 obtain ⟨F',d',e',-,-,hat⟩:=gp3.at_
 injection e' with e1 e2 e3
 subst e1 e2 e3
 obtain ⟨g,off,hF,-,q0,q1⟩:=hat 0 (by decide)
 subst hF
 obtain ⟨⟨-,-,-,u3,-⟩,-⟩:=c5_at ga3
 obtain ⟨⟨v0,v1,-,-,-⟩,-⟩:=c5_at ga4
 obtain ⟨⟨-,-,-,-,p4⟩,-⟩:=c5_at ga5
 obtain ⟨-,-,-,-,-,-,-,-,-,-,-,-,-,-,-,-,-,-,-,-,-,y21,y22,y23⟩:=box_cells gb4
 rw [gs4.hi,Aw.at3.1] at y21
 rw [gs4.mi,Aw.at3.2.1] at y22
 rw [gs4.ev,Aw.at3.2.2.1] at y23
 rw [Aw.ans3.1] at v0
 rw [Aw.ans3.2] at v1
 rw [Aw.ans4] at p4
 simp only [Nat.zero_mul,Nat.add_zero,List.getElem_cons_zero] at q0 q1
 have T6:=Lib.hid t6
 have R4:=Lib.hid l4
 have KC:=Lib.hid KC
 have GBD:=Lib.hid gbad
 clear K6 hbad hb6 t6 hl6 gp3 ga3 ga4 ga5 gb4 gs4 gbad l4 hat HL5 HE5 GP3_5 GA3_5 GA4_5 HA5 GB4_5 GS4_5 HN3 HN4 HN5 HS5 HP5 HB5 R5
 go_upto_region 7 with (refine wpList_store_mid rfl PT13 (.tmp 11) (.tmp 43) rfl w6.heap.size 0 c6 rfl (congrArg Value.agg HC6.out) T6.out.th T6.out.inf T6.out.one ?_)
 try rw [hV6]
 clear hV6 T6
 go_wp2_with (refine wpList_load_mid_g (by rfl) PT13 (.tmp 7) rfl w4.heap.size 0 rfl c4.toList _ R4.out.1 Tryz.underlying42 rfl R4.out.2 ?_)
 refine KC.out.mono ?_
 rintro e w7 ⟨rfl,hb7⟩
 have KI:=Lib.hid (is_chain w7 1 (.iface 212 (.pointer (some ⟨ba,0,none⟩))) 1 1 ⟨_,_,_,_,rfl,GBD.out.below hb7 GBD.out.lt,rfl⟩ true rfl)
 have HL7:=Lib.hid (HL6.out.trans (hb7.mono HL6.out.size))
 clear hb7 KC
 go_wp2_with fail
 refine KI.out.mono ?_
 rintro e w8 ⟨rfl,rfl⟩
 go_wp2_with fail
 exact bodyPost_ret (v := .bool true) (by simp [results,Tryz.results8]) rfl ⟨rfl,HL7.out⟩
set_option maxRecDepth 8000
theorem results_box {W:World} {tm:Array Value} {b4:Nat} {cs:Array Value} (h4:tm.getD 4 undef = .pointer (some ⟨b4,0,none⟩)) (hb:W.rangeAt b4 0 cs.toList) (hs:cs.size=24) :
  (results Tryz.f27 tm).run Tryz.prog W = .ok (.agg cs) W:=by
 have h24:(Tryz.prog.info? T13).map (·.size)=some cs.toList.length:=by rw [Array.length_toList,hs];kernel_rfl
 have l4:=run_loadVar_mid W b4 0 T13 cs.toList _ hb Tryz.underlying53 rfl h24
 clear hb h24 hs
 unfold results
 rw [Tryz.results27]
 have e4:asAddr (tm.getD 4 undef)=(pure ⟨b4,0,none⟩:Sem Addr):=by rw [h4];rfl
 simp only [Array.getD_eq_getD_getElem?] at e4
 simp [e4,l4]
section
variable {w:World}
set_option maxHeartbeats 3000000 in
theorem r13new8_walk (n:Int) (hn1 : -9223372036854775808<=n) (hn2:n<=9223372036854775807) :
  Calls Tryz.prog 27 #[.int .i64 1,.int .i64 n] w (fun e w'=>∃ x:V13,e = .returned (.agg x.C)/\Below w.heap.size w w'/\St13 w' (M13.new 1 n) x):=by
 obtain ⟨cb,hcb⟩:∃ cb,(x13 1).C=cb:=⟨_,rfl⟩
 have HCB:=Lib.hid hcb
 have hbs:cb.size=24:=by rw [<- hcb];rfl
 have hr0:((w.alloc (.cells z13 T13)).alloc (.cells z13 T13)).heap[w.heap.size]? = some (.cells z13 T13 (0,0)):=by
  rw [Below.heap_alloc _ _ _ (by simp)]
  exact heap_alloc_new w _
 have hn0:((w.alloc (.cells z13 T13)).alloc (.cells z13 T13)).heap[w.heap.size+1]? = some (.cells z13 T13 (0,0)):=by
  have:=heap_alloc_new (w.alloc (.cells z13 T13)) (.cells z13 T13)
  rwa [World.size_alloc] at this
 have HT1:=Lib.hid (show ((w.alloc (.cells z13 T13)).alloc (.cells z13 T13)).there (w.heap.size+1) 0 cb.size from by rw [hbs];exact there_of hn0 rfl)
 have HI1:=Lib.hid (show (Tryz.prog.info? T13).map (·.size)=some cb.size from by rw [hbs];kernel_rfl)
 have HO1:=Lib.hid (show cb.all (·.oneCell')=true from by rw [<- hcb];exact V13.one _)
 obtain ⟨W2,hW2⟩:∃ W2,((w.alloc (.cells z13 T13)).alloc (.cells z13 T13)).setCells (w.heap.size+1) 0 cb.toList=W2:=⟨_,rfl⟩
 have ho2:Only [w.heap.size+1] ((w.alloc (.cells z13 T13)).alloc (.cells z13 T13)) W2:=by rw [<- hW2];exact only_setCells (by simp) _ _ _ _ (Only.refl _ _)
 have HB2:=Lib.hid (show W2.heap[w.heap.size+1]? = some (.cells (x13 1).C T13 (0,0)) from by rw [<- hW2,hcb];exact block_whole hn0 (by rw [hbs];rfl))
 have HR2:=Lib.hid ((ho2.block _ (head_row hr0).lt (by simp)).trans hr0)
 have HL2:=Lib.hid ((low_two w (.cells z13 T13) (.cells z13 T13)).trans (ho2.below (by simp) (by simp;omega)))
 have K:=Lib.hid (r8new_walk (w:=W2) n hn1 hn2)
 clear hcb hbs hr0 hn0 ho2
 go_enter Tryz.func27,Tryz.ntmps27
 go_wp2_with (refine wpList_store_mid rfl T13 (.tmp 5) (.tmp 7) rfl (w.heap.size+1) 0 cb rfl (congrArg Value.agg HCB.out) HT1.out HI1.out HO1.out ?_)
 try rw [hW2]
 refine K.out.mono ?_
 rintro e w3 ⟨u0,rfl,hb3,hk3⟩
 obtain ⟨F0,n0,d0,rfl⟩:=hk3.form1
 have hb3b:=(hb3.block _ (head_row HB2.out).lt).trans HB2.out
 have hb3r:=(hb3.block _ (head_row HR2.out).lt).trans HR2.out
 have hl3:=HL2.out.trans (hb3.mono HL2.out.size)
 obtain ⟨j1,j2⟩:=box_set8 hb3b ((L8.new n).c:Nat) F0 n0 d0
 have hbx:∀ j∈[w.heap.size+1],Bx w3 j:=fun j hj=>by
  have e:j=w.heap.size+1:=by simpa using hj
  rw [e]
  exact ⟨_,_,hb3b,(x13 1).nou,by decide⟩
 obtain ⟨W4,hW4⟩:∃ W4,((w3.setCell ⟨w.heap.size+1,1,none⟩ (.int .i64 ((L8.new n).c:Nat))).setCell ⟨w.heap.size+1,2,none⟩ (.slice F0 n0 d0))=W4:=⟨_,rfl⟩
 rw [hW4] at j1 j2
 have hr4:=(j2.block _ (head_row hb3r).lt (by simp)).trans hb3r
 have hl4:=hl3.trans (j2.below (by simp) hl3.size)
 have hs4:St13 W4 (M13.new 1 n) { x13 1 with c8:=((L8.new n).c:Nat),l8:=⟨F0,n0,d0⟩ }:=⟨⟨rfl,rfl,⟨hk3.g1.only j2 hbx⟩⟩,PV.nil _,rfl,rfl,rfl⟩
 obtain ⟨x4,hx4⟩:∃ x4:V13,{ x13 1 with c8:=((L8.new n).c:Nat),l8:=⟨F0,n0,d0⟩ }=x4:=⟨_,rfl⟩
 rw [hx4] at hs4 j1
 obtain ⟨cc,hcc⟩:∃ cc,x4.C=cc:=⟨_,rfl⟩
 have hcs:cc.size=24:=by rw [<- hcc];rfl
 have HRA:=Lib.hid (show W4.rangeAt (w.heap.size+1) 0 cc.toList from by rw [<- hcc];exact range_of j1)
 have HTH:=Lib.hid (show W4.there w.heap.size 0 cc.size from by rw [hcs];exact there_of hr4 rfl)
 have HI4:=Lib.hid (show (Tryz.prog.info? T13).map (·.size)=some cc.size from by rw [hcs];kernel_rfl)
 have HI5:=Lib.hid (show (Tryz.prog.info? T13).map (·.size)=some cc.toList.length from by rw [Array.length_toList,hcs];kernel_rfl)
 have HO4:=Lib.hid (show cc.all (·.oneCell')=true from by rw [<- hcc];exact V13.one _)
 obtain ⟨W5,hW5⟩:∃ W5,W4.setCells w.heap.size 0 cc.toList=W5:=⟨_,rfl⟩
 have ho5:Only [w.heap.size] W4 W5:=by rw [<- hW5];exact only_setCells (by simp) _ _ _ _ (Only.refl _ _)
 have HB5:=Lib.hid (show W5.heap[w.heap.size]? = some (.cells cc T13 (0,0)) from by rw [<- hW5];exact block_whole hr4 (by rw [hcs];rfl))
 have HS5:=Lib.hid (hs4.only ho5 (fun g hg=>by
  have e:g=w.heap.size:=by simpa using hg
  rw [e]
  exact ⟨_,_,hr4,rfl,by decide⟩))
 have HL5:=Lib.hid (hl4.trans (ho5.below (by simp) hl4.size))
 have HCC:=Lib.hid hcc
 have HCS:=Lib.hid hcs
 obtain ⟨e0,e1,e2,e3,e4,e5,e6,e7,e8,e9,e10,e11,e12,e13,e14,e15,e16,e17,e18,e19,e20,e21,e22,e23⟩:=box_cells hb3b
 have bf:=fun i=>(head_row hb3b).frozen i
 clear hb3 hk3 hb3b hb3r hl3 j1 j2 hbx hr4 hl4 hs4 hx4 hcc hcs ho5 K HB2 HR2 HL2 hW2 HT1 HI1 HO1 HCB
 go_upto_region 12 with fail
 try rw [hW4]
 clear hW4 bf e0 e1 e2 e3 e4 e5 e6 e7 e8 e9 e10 e11 e12 e13 e14 e15 e16 e17 e18 e19 e20 e21 e22 e23
 go_wp2_with (first | (refine wpList_load_mid rfl T13 (.tmp 5) rfl (w.heap.size+1) 0 rfl cc.toList _ HRA.out Tryz.underlying53 rfl HI5.out ?_) | (refine wpList_store_mid rfl T13 (.tmp 4) (.tmp 32) rfl w.heap.size 0 cc rfl rfl HTH.out HI4.out HO4.out ?_))
 try rw [hW5]
 exact bodyPost_ret (v := .agg cc) (results_box rfl (range_of HB5.out) HCS.out) rfl ⟨x4,by rw [HCC.out],HL5.out,HS5.out⟩
end
set_option maxRecDepth 8000
section
variable {w:World}
set_option maxHeartbeats 3000000 in
theorem r13new9_walk (n:Int) (hn1 : -9223372036854775808<=n) (hn2:n<=9223372036854775807) :
  Calls Tryz.prog 27 #[.int .i64 2,.int .i64 n] w (fun e w'=>∃ x:V13,e = .returned (.agg x.C)/\Below w.heap.size w w'/\St13 w' (M13.new 2 n) x):=by
 obtain ⟨cb,hcb⟩:∃ cb,(x13 2).C=cb:=⟨_,rfl⟩
 have HCB:=Lib.hid hcb
 have hbs:cb.size=24:=by rw [<- hcb];rfl
 have hr0:((w.alloc (.cells z13 T13)).alloc (.cells z13 T13)).heap[w.heap.size]? = some (.cells z13 T13 (0,0)):=by
  rw [Below.heap_alloc _ _ _ (by simp)]
  exact heap_alloc_new w _
 have hn0:((w.alloc (.cells z13 T13)).alloc (.cells z13 T13)).heap[w.heap.size+1]? = some (.cells z13 T13 (0,0)):=by
  have:=heap_alloc_new (w.alloc (.cells z13 T13)) (.cells z13 T13)
  rwa [World.size_alloc] at this
 have HT1:=Lib.hid (show ((w.alloc (.cells z13 T13)).alloc (.cells z13 T13)).there (w.heap.size+1) 0 cb.size from by rw [hbs];exact there_of hn0 rfl)
 have HI1:=Lib.hid (show (Tryz.prog.info? T13).map (·.size)=some cb.size from by rw [hbs];kernel_rfl)
 have HO1:=Lib.hid (show cb.all (·.oneCell')=true from by rw [<- hcb];exact V13.one _)
 obtain ⟨W2,hW2⟩:∃ W2,((w.alloc (.cells z13 T13)).alloc (.cells z13 T13)).setCells (w.heap.size+1) 0 cb.toList=W2:=⟨_,rfl⟩
 have ho2:Only [w.heap.size+1] ((w.alloc (.cells z13 T13)).alloc (.cells z13 T13)) W2:=by rw [<- hW2];exact only_setCells (by simp) _ _ _ _ (Only.refl _ _)
 have HB2:=Lib.hid (show W2.heap[w.heap.size+1]? = some (.cells (x13 2).C T13 (0,0)) from by rw [<- hW2,hcb];exact block_whole hn0 (by rw [hbs];rfl))
 have HR2:=Lib.hid ((ho2.block _ (head_row hr0).lt (by simp)).trans hr0)
 have HL2:=Lib.hid ((low_two w (.cells z13 T13) (.cells z13 T13)).trans (ho2.below (by simp) (by simp;omega)))
 have K:=Lib.hid (r9new_walk (w:=W2) n hn1 hn2)
 clear hcb hbs hr0 hn0 ho2
 go_enter Tryz.func27,Tryz.ntmps27
 go_wp2_with (refine wpList_store_mid rfl T13 (.tmp 5) (.tmp 7) rfl (w.heap.size+1) 0 cb rfl (congrArg Value.agg HCB.out) HT1.out HI1.out HO1.out ?_)
 try rw [hW2]
 refine K.out.mono ?_
 rintro e w3 ⟨u0,u1,u2,rfl,hb3,hk3⟩
 obtain ⟨F0,n0,d0,rfl⟩:=hk3.form1
 obtain ⟨F1,n1,d1,rfl⟩:=hk3.form2
 obtain ⟨F2,n2,d2,rfl⟩:=hk3.form3
 have hb3b:=(hb3.block _ (head_row HB2.out).lt).trans HB2.out
 have hb3r:=(hb3.block _ (head_row HR2.out).lt).trans HR2.out
 have hl3:=HL2.out.trans (hb3.mono HL2.out.size)
 obtain ⟨j1,j2⟩:=box_set9 hb3b ((L9.new n).c:Nat) F0 n0 d0 F1 n1 d1 F2 n2 d2
 have hbx:∀ j∈[w.heap.size+1],Bx w3 j:=fun j hj=>by
  have e:j=w.heap.size+1:=by simpa using hj
  rw [e]
  exact ⟨_,_,hb3b,(x13 2).nou,by decide⟩
 obtain ⟨W4,hW4⟩:∃ W4,((((w3.setCell ⟨w.heap.size+1,3,none⟩ (.int .i64 ((L9.new n).c:Nat))).setCell ⟨w.heap.size+1,4,none⟩ (.slice F0 n0 d0)).setCell ⟨w.heap.size+1,5,none⟩ (.slice F1 n1 d1)).setCell ⟨w.heap.size+1,6,none⟩ (.slice F2 n2 d2))=W4:=⟨_,rfl⟩
 rw [hW4] at j1 j2
 have hr4:=(j2.block _ (head_row hb3r).lt (by simp)).trans hb3r
 have hl4:=hl3.trans (j2.below (by simp) hl3.size)
 have hs4:St13 W4 (M13.new 2 n) { x13 2 with c9:=((L9.new n).c:Nat),i9:=⟨F0,n0,d0⟩,o9:=⟨F1,n1,d1⟩,m9:=⟨F2,n2,d2⟩ }:=⟨⟨rfl,rfl,⟨hk3.g1.only j2 hbx,hk3.g2.only j2 hbx,hk3.g3.only j2 hbx⟩⟩,PV.nil _,rfl,rfl,rfl⟩
 obtain ⟨x4,hx4⟩:∃ x4:V13,{ x13 2 with c9:=((L9.new n).c:Nat),i9:=⟨F0,n0,d0⟩,o9:=⟨F1,n1,d1⟩,m9:=⟨F2,n2,d2⟩ }=x4:=⟨_,rfl⟩
 rw [hx4] at hs4 j1
 obtain ⟨cc,hcc⟩:∃ cc,x4.C=cc:=⟨_,rfl⟩
 have hcs:cc.size=24:=by rw [<- hcc];rfl
 have HRA:=Lib.hid (show W4.rangeAt (w.heap.size+1) 0 cc.toList from by rw [<- hcc];exact range_of j1)
 have HTH:=Lib.hid (show W4.there w.heap.size 0 cc.size from by rw [hcs];exact there_of hr4 rfl)
 have HI4:=Lib.hid (show (Tryz.prog.info? T13).map (·.size)=some cc.size from by rw [hcs];kernel_rfl)
 have HI5:=Lib.hid (show (Tryz.prog.info? T13).map (·.size)=some cc.toList.length from by rw [Array.length_toList,hcs];kernel_rfl)
 have HO4:=Lib.hid (show cc.all (·.oneCell')=true from by rw [<- hcc];exact V13.one _)
 obtain ⟨W5,hW5⟩:∃ W5,W4.setCells w.heap.size 0 cc.toList=W5:=⟨_,rfl⟩
 have ho5:Only [w.heap.size] W4 W5:=by rw [<- hW5];exact only_setCells (by simp) _ _ _ _ (Only.refl _ _)
 have HB5:=Lib.hid (show W5.heap[w.heap.size]? = some (.cells cc T13 (0,0)) from by rw [<- hW5];exact block_whole hr4 (by rw [hcs];rfl))
 have HS5:=Lib.hid (hs4.only ho5 (fun g hg=>by
  have e:g=w.heap.size:=by simpa using hg
  rw [e]
  exact ⟨_,_,hr4,rfl,by decide⟩))
 have HL5:=Lib.hid (hl4.trans (ho5.below (by simp) hl4.size))
 have HCC:=Lib.hid hcc
 have HCS:=Lib.hid hcs
 obtain ⟨e0,e1,e2,e3,e4,e5,e6,e7,e8,e9,e10,e11,e12,e13,e14,e15,e16,e17,e18,e19,e20,e21,e22,e23⟩:=box_cells hb3b
 have bf:=fun i=>(head_row hb3b).frozen i
 clear hb3 hk3 hb3b hb3r hl3 j1 j2 hbx hr4 hl4 hs4 hx4 hcc hcs ho5 K HB2 HR2 HL2 hW2 HT1 HI1 HO1 HCB
 go_upto_region 12 with fail
 try rw [hW4]
 clear hW4 bf e0 e1 e2 e3 e4 e5 e6 e7 e8 e9 e10 e11 e12 e13 e14 e15 e16 e17 e18 e19 e20 e21 e22 e23
 go_wp2_with (first | (refine wpList_load_mid rfl T13 (.tmp 5) rfl (w.heap.size+1) 0 rfl cc.toList _ HRA.out Tryz.underlying53 rfl HI5.out ?_) | (refine wpList_store_mid rfl T13 (.tmp 4) (.tmp 32) rfl w.heap.size 0 cc rfl rfl HTH.out HI4.out HO4.out ?_))
 try rw [hW5]
 exact bodyPost_ret (v := .agg cc) (results_box rfl (range_of HB5.out) HCS.out) rfl ⟨x4,by rw [HCC.out],HL5.out,HS5.out⟩
end
set_option maxRecDepth 8000
section
variable {w:World}
set_option maxHeartbeats 3000000 in
theorem r13new10_walk (n:Int) (hn1 : -9223372036854775808<=n) (hn2:n<=9223372036854775807) :
  Calls Tryz.prog 27 #[.int .i64 3,.int .i64 n] w (fun e w'=>∃ x:V13,e = .returned (.agg x.C)/\Below w.heap.size w w'/\St13 w' (M13.new 3 n) x):=by
 obtain ⟨cb,hcb⟩:∃ cb,(x13 3).C=cb:=⟨_,rfl⟩
 have HCB:=Lib.hid hcb
 have hbs:cb.size=24:=by rw [<- hcb];rfl
 have hr0:((w.alloc (.cells z13 T13)).alloc (.cells z13 T13)).heap[w.heap.size]? = some (.cells z13 T13 (0,0)):=by
  rw [Below.heap_alloc _ _ _ (by simp)]
  exact heap_alloc_new w _
 have hn0:((w.alloc (.cells z13 T13)).alloc (.cells z13 T13)).heap[w.heap.size+1]? = some (.cells z13 T13 (0,0)):=by
  have:=heap_alloc_new (w.alloc (.cells z13 T13)) (.cells z13 T13)
  rwa [World.size_alloc] at this
 have HT1:=Lib.hid (show ((w.alloc (.cells z13 T13)).alloc (.cells z13 T13)).there (w.heap.size+1) 0 cb.size from by rw [hbs];exact there_of hn0 rfl)
 have HI1:=Lib.hid (show (Tryz.prog.info? T13).map (·.size)=some cb.size from by rw [hbs];kernel_rfl)
 have HO1:=Lib.hid (show cb.all (·.oneCell')=true from by rw [<- hcb];exact V13.one _)
 obtain ⟨W2,hW2⟩:∃ W2,((w.alloc (.cells z13 T13)).alloc (.cells z13 T13)).setCells (w.heap.size+1) 0 cb.toList=W2:=⟨_,rfl⟩
 have ho2:Only [w.heap.size+1] ((w.alloc (.cells z13 T13)).alloc (.cells z13 T13)) W2:=by rw [<- hW2];exact only_setCells (by simp) _ _ _ _ (Only.refl _ _)
 have HB2:=Lib.hid (show W2.heap[w.heap.size+1]? = some (.cells (x13 3).C T13 (0,0)) from by rw [<- hW2,hcb];exact block_whole hn0 (by rw [hbs];rfl))
 have HR2:=Lib.hid ((ho2.block _ (head_row hr0).lt (by simp)).trans hr0)
 have HL2:=Lib.hid ((low_two w (.cells z13 T13) (.cells z13 T13)).trans (ho2.below (by simp) (by simp;omega)))
 have K:=Lib.hid (r10new_walk (w:=W2) n hn1 hn2)
 clear hcb hbs hr0 hn0 ho2
 go_enter Tryz.func27,Tryz.ntmps27
 go_wp2_with (refine wpList_store_mid rfl T13 (.tmp 5) (.tmp 7) rfl (w.heap.size+1) 0 cb rfl (congrArg Value.agg HCB.out) HT1.out HI1.out HO1.out ?_)
 try rw [hW2]
 refine K.out.mono ?_
 rintro e w3 ⟨u0,u1,u2,rfl,hb3,hk3⟩
 obtain ⟨F0,n0,d0,rfl⟩:=hk3.form1
 obtain ⟨F1,n1,d1,rfl⟩:=hk3.form2
 obtain ⟨F2,n2,d2,rfl⟩:=hk3.form3
 have hb3b:=(hb3.block _ (head_row HB2.out).lt).trans HB2.out
 have hb3r:=(hb3.block _ (head_row HR2.out).lt).trans HR2.out
 have hl3:=HL2.out.trans (hb3.mono HL2.out.size)
 obtain ⟨j1,j2⟩:=box_set10 hb3b ((L10.new n).c:Nat) F0 n0 d0 F1 n1 d1 F2 n2 d2
 have hbx:∀ j∈[w.heap.size+1],Bx w3 j:=fun j hj=>by
  have e:j=w.heap.size+1:=by simpa using hj
  rw [e]
  exact ⟨_,_,hb3b,(x13 3).nou,by decide⟩
 obtain ⟨W4,hW4⟩:∃ W4,((((w3.setCell ⟨w.heap.size+1,7,none⟩ (.int .i64 ((L10.new n).c:Nat))).setCell ⟨w.heap.size+1,8,none⟩ (.slice F0 n0 d0)).setCell ⟨w.heap.size+1,9,none⟩ (.slice F1 n1 d1)).setCell ⟨w.heap.size+1,10,none⟩ (.slice F2 n2 d2))=W4:=⟨_,rfl⟩
 rw [hW4] at j1 j2
 have hr4:=(j2.block _ (head_row hb3r).lt (by simp)).trans hb3r
 have hl4:=hl3.trans (j2.below (by simp) hl3.size)
 have hs4:St13 W4 (M13.new 3 n) { x13 3 with c10:=((L10.new n).c:Nat),s10:=⟨F0,n0,d0⟩,m10:=⟨F1,n1,d1⟩,g10:=⟨F2,n2,d2⟩ }:=⟨⟨rfl,rfl,⟨hk3.g1.only j2 hbx,hk3.g2.only j2 hbx,hk3.g3.only j2 hbx⟩⟩,PV.nil _,rfl,rfl,rfl⟩
 obtain ⟨x4,hx4⟩:∃ x4:V13,{ x13 3 with c10:=((L10.new n).c:Nat),s10:=⟨F0,n0,d0⟩,m10:=⟨F1,n1,d1⟩,g10:=⟨F2,n2,d2⟩ }=x4:=⟨_,rfl⟩
 rw [hx4] at hs4 j1
 obtain ⟨cc,hcc⟩:∃ cc,x4.C=cc:=⟨_,rfl⟩
 have hcs:cc.size=24:=by rw [<- hcc];rfl
 have HRA:=Lib.hid (show W4.rangeAt (w.heap.size+1) 0 cc.toList from by rw [<- hcc];exact range_of j1)
 have HTH:=Lib.hid (show W4.there w.heap.size 0 cc.size from by rw [hcs];exact there_of hr4 rfl)
 have HI4:=Lib.hid (show (Tryz.prog.info? T13).map (·.size)=some cc.size from by rw [hcs];kernel_rfl)
 have HI5:=Lib.hid (show (Tryz.prog.info? T13).map (·.size)=some cc.toList.length from by rw [Array.length_toList,hcs];kernel_rfl)
 have HO4:=Lib.hid (show cc.all (·.oneCell')=true from by rw [<- hcc];exact V13.one _)
 obtain ⟨W5,hW5⟩:∃ W5,W4.setCells w.heap.size 0 cc.toList=W5:=⟨_,rfl⟩
 have ho5:Only [w.heap.size] W4 W5:=by rw [<- hW5];exact only_setCells (by simp) _ _ _ _ (Only.refl _ _)
 have HB5:=Lib.hid (show W5.heap[w.heap.size]? = some (.cells cc T13 (0,0)) from by rw [<- hW5];exact block_whole hr4 (by rw [hcs];rfl))
 have HS5:=Lib.hid (hs4.only ho5 (fun g hg=>by
  have e:g=w.heap.size:=by simpa using hg
  rw [e]
  exact ⟨_,_,hr4,rfl,by decide⟩))
 have HL5:=Lib.hid (hl4.trans (ho5.below (by simp) hl4.size))
 have HCC:=Lib.hid hcc
 have HCS:=Lib.hid hcs
 obtain ⟨e0,e1,e2,e3,e4,e5,e6,e7,e8,e9,e10,e11,e12,e13,e14,e15,e16,e17,e18,e19,e20,e21,e22,e23⟩:=box_cells hb3b
 have bf:=fun i=>(head_row hb3b).frozen i
 clear hb3 hk3 hb3b hb3r hl3 j1 j2 hbx hr4 hl4 hs4 hx4 hcc hcs ho5 K HB2 HR2 HL2 hW2 HT1 HI1 HO1 HCB
 go_upto_region 12 with fail
 try rw [hW4]
 clear hW4 bf e0 e1 e2 e3 e4 e5 e6 e7 e8 e9 e10 e11 e12 e13 e14 e15 e16 e17 e18 e19 e20 e21 e22 e23
 go_wp2_with (first | (refine wpList_load_mid rfl T13 (.tmp 5) rfl (w.heap.size+1) 0 rfl cc.toList _ HRA.out Tryz.underlying53 rfl HI5.out ?_) | (refine wpList_store_mid rfl T13 (.tmp 4) (.tmp 32) rfl w.heap.size 0 cc rfl rfl HTH.out HI4.out HO4.out ?_))
 try rw [hW5]
 exact bodyPost_ret (v := .agg cc) (results_box rfl (range_of HB5.out) HCS.out) rfl ⟨x4,by rw [HCC.out],HL5.out,HS5.out⟩
end
end Go.Proofs.YtcpggonengkgiaaGreatDoor
