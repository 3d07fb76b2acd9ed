/- Words and walks: McRN11 McRN12 McBg McFw McLw. -/
import Derived.Test.YtcpggonengkgiaaGreatDoorG16
import Derived.Test.YtcpggonengkgiaaGreatDoorG22
import Derived.Test.YtcpggonengkgiaaGreatDoorG44
namespace Go.Proofs.YtcpggonengkgiaaGreatDoor
open Go Go.RowKit Go.Deep
set_option maxRecDepth 8000
section
variable {w:World}
set_option maxHeartbeats 3000000 in
theorem r13new11_walk (n:Int) (hn1 : -9223372036854775808<=n) (hn2:n<=9223372036854775807) :
  Calls Tryz.prog 27 #[.int .i64 4,.int .i64 n] w (fun e w'=>∃ x:V13,e = .returned (.agg x.C)/\Below w.heap.size w w'/\St13 w' (M13.new 4 n) x):=by
 obtain ⟨cb,hcb⟩:∃ cb,(x13 4).C=cb:=⟨_,rfl⟩
 have HCB:=Lib.hid hcb
 have hbs:cb.size=24:=by rw [<- hcb];rfl
 have hr0:((w.alloc (.cells z13 T13)).alloc (.cells z13 T13)).heap[w.heap.size]? = some (.cells z13 T13 (0,0)):=by
  rw [Below.heap_alloc _ _ _ (by simp)]
  exact heap_alloc_new w _
 have hn0:((w.alloc (.cells z13 T13)).alloc (.cells z13 T13)).heap[w.heap.size+1]? = some (.cells z13 T13 (0,0)):=by
  have:=heap_alloc_new (w.alloc (.cells z13 T13)) (.cells z13 T13)
  rwa [World.size_alloc] at this
 have HT1:=Lib.hid (show ((w.alloc (.cells z13 T13)).alloc (.cells z13 T13)).there (w.heap.size+1) 0 cb.size from by rw [hbs];exact there_of hn0 rfl)
 have HI1:=Lib.hid (show (Tryz.prog.info? T13).map (·.size)=some cb.size from by rw [hbs];kernel_rfl)
 have HO1:=Lib.hid (show cb.all (·.oneCell')=true from by rw [<- hcb];exact V13.one _)
 obtain ⟨W2,hW2⟩:∃ W2,((w.alloc (.cells z13 T13)).alloc (.cells z13 T13)).setCells (w.heap.size+1) 0 cb.toList=W2:=⟨_,rfl⟩
 have ho2:Only [w.heap.size+1] ((w.alloc (.cells z13 T13)).alloc (.cells z13 T13)) W2:=by rw [<- hW2];exact only_setCells (by simp) _ _ _ _ (Only.refl _ _)
 have HB2:=Lib.hid (show W2.heap[w.heap.size+1]? = some (.cells (x13 4).C T13 (0,0)) from by rw [<- hW2,hcb];exact block_whole hn0 (by rw [hbs];rfl))
 have HR2:=Lib.hid ((ho2.block _ (head_row hr0).lt (by simp)).trans hr0)
 have HL2:=Lib.hid ((low_two w (.cells z13 T13) (.cells z13 T13)).trans (ho2.below (by simp) (by simp;omega)))
 have K:=Lib.hid (r11new_walk (w:=W2) n hn1 hn2)
 clear hcb hbs hr0 hn0 ho2
 go_enter Tryz.func27,Tryz.ntmps27
 go_wp2_with (refine wpList_store_mid rfl T13 (.tmp 5) (.tmp 7) rfl (w.heap.size+1) 0 cb rfl (congrArg Value.agg HCB.out) HT1.out HI1.out HO1.out ?_)
 try rw [hW2]
 refine K.out.mono ?_
 rintro e w3 ⟨u0,u1,u2,u3,rfl,hb3,hk3⟩
 obtain ⟨F0,n0,d0,rfl⟩:=hk3.form1
 obtain ⟨F1,n1,d1,rfl⟩:=hk3.form2
 obtain ⟨F2,n2,d2,rfl⟩:=hk3.form3
 obtain ⟨F3,n3,d3,rfl⟩:=hk3.form4
 have hb3b:=(hb3.block _ (head_row HB2.out).lt).trans HB2.out
 have hb3r:=(hb3.block _ (head_row HR2.out).lt).trans HR2.out
 have hl3:=HL2.out.trans (hb3.mono HL2.out.size)
 obtain ⟨j1,j2⟩:=box_set11 hb3b ((L11.new n).c:Nat) ((L11.new n).p:Nat) F0 n0 d0 F1 n1 d1 F2 n2 d2 F3 n3 d3
 have hbx:∀ j∈[w.heap.size+1],Bx w3 j:=fun j hj=>by
  have e:j=w.heap.size+1:=by simpa using hj
  rw [e]
  exact ⟨_,_,hb3b,(x13 4).nou,by decide⟩
 obtain ⟨W4,hW4⟩:∃ W4,((((((w3.setCell ⟨w.heap.size+1,11,none⟩ (.int .i64 ((L11.new n).c:Nat))).setCell ⟨w.heap.size+1,12,none⟩ (.int .i64 ((L11.new n).p:Nat))).setCell ⟨w.heap.size+1,13,none⟩ (.slice F0 n0 d0)).setCell ⟨w.heap.size+1,14,none⟩ (.slice F1 n1 d1)).setCell ⟨w.heap.size+1,15,none⟩ (.slice F2 n2 d2)).setCell ⟨w.heap.size+1,16,none⟩ (.slice F3 n3 d3))=W4:=⟨_,rfl⟩
 rw [hW4] at j1 j2
 have hr4:=(j2.block _ (head_row hb3r).lt (by simp)).trans hb3r
 have hl4:=hl3.trans (j2.below (by simp) hl3.size)
 have hs4:St13 W4 (M13.new 4 n) { x13 4 with c11:=((L11.new n).c:Nat),p11:=((L11.new n).p:Nat),t11:=⟨F0,n0,d0⟩,u11:=⟨F1,n1,d1⟩,b11:=⟨F2,n2,d2⟩,d11:=⟨F3,n3,d3⟩ }:=⟨⟨rfl,rfl,rfl,⟨hk3.g1.only j2 hbx,hk3.g2.only j2 hbx,hk3.g3.only j2 hbx,hk3.g4.only j2 hbx⟩⟩,PV.nil _,rfl,rfl,rfl⟩
 obtain ⟨x4,hx4⟩:∃ x4:V13,{ x13 4 with c11:=((L11.new n).c:Nat),p11:=((L11.new n).p:Nat),t11:=⟨F0,n0,d0⟩,u11:=⟨F1,n1,d1⟩,b11:=⟨F2,n2,d2⟩,d11:=⟨F3,n3,d3⟩ }=x4:=⟨_,rfl⟩
 rw [hx4] at hs4 j1
 obtain ⟨cc,hcc⟩:∃ cc,x4.C=cc:=⟨_,rfl⟩
 have hcs:cc.size=24:=by rw [<- hcc];rfl
 have HRA:=Lib.hid (show W4.rangeAt (w.heap.size+1) 0 cc.toList from by rw [<- hcc];exact range_of j1)
 have HTH:=Lib.hid (show W4.there w.heap.size 0 cc.size from by rw [hcs];exact there_of hr4 rfl)
 have HI4:=Lib.hid (show (Tryz.prog.info? T13).map (·.size)=some cc.size from by rw [hcs];kernel_rfl)
 have HI5:=Lib.hid (show (Tryz.prog.info? T13).map (·.size)=some cc.toList.length from by rw [Array.length_toList,hcs];kernel_rfl)
 have HO4:=Lib.hid (show cc.all (·.oneCell')=true from by rw [<- hcc];exact V13.one _)
 obtain ⟨W5,hW5⟩:∃ W5,W4.setCells w.heap.size 0 cc.toList=W5:=⟨_,rfl⟩
 have ho5:Only [w.heap.size] W4 W5:=by rw [<- hW5];exact only_setCells (by simp) _ _ _ _ (Only.refl _ _)
 have HB5:=Lib.hid (show W5.heap[w.heap.size]? = some (.cells cc T13 (0,0)) from by rw [<- hW5];exact block_whole hr4 (by rw [hcs];rfl))
 have HS5:=Lib.hid (hs4.only ho5 (fun g hg=>by
  have e:g=w.heap.size:=by simpa using hg
  rw [e]
  exact ⟨_,_,hr4,rfl,by decide⟩))
 have HL5:=Lib.hid (hl4.trans (ho5.below (by simp) hl4.size))
 have HCC:=Lib.hid hcc
 have HCS:=Lib.hid hcs
 obtain ⟨e0,e1,e2,e3,e4,e5,e6,e7,e8,e9,e10,e11,e12,e13,e14,e15,e16,e17,e18,e19,e20,e21,e22,e23⟩:=box_cells hb3b
 have bf:=fun i=>(head_row hb3b).frozen i
 clear hb3 hk3 hb3b hb3r hl3 j1 j2 hbx hr4 hl4 hs4 hx4 hcc hcs ho5 K HB2 HR2 HL2 hW2 HT1 HI1 HO1 HCB
 go_upto_region 12 with fail
 try rw [hW4]
 clear hW4 bf e0 e1 e2 e3 e4 e5 e6 e7 e8 e9 e10 e11 e12 e13 e14 e15 e16 e17 e18 e19 e20 e21 e22 e23
 go_wp2_with (first | (refine wpList_load_mid rfl T13 (.tmp 5) rfl (w.heap.size+1) 0 rfl cc.toList _ HRA.out Tryz.underlying53 rfl HI5.out ?_) | (refine wpList_store_mid rfl T13 (.tmp 4) (.tmp 32) rfl w.heap.size 0 cc rfl rfl HTH.out HI4.out HO4.out ?_))
 try rw [hW5]
 exact bodyPost_ret (v := .agg cc) (results_box rfl (range_of HB5.out) HCS.out) rfl ⟨x4,by rw [HCC.out],HL5.out,HS5.out⟩
end
set_option maxRecDepth 8000
section
variable {w:World}
set_option maxHeartbeats 3000000 in
theorem r13new12_walk (n:Int) (hn1 : -9223372036854775808<=n) (hn2:n<=9223372036854775807) :
  Calls Tryz.prog 27 #[.int .i64 5,.int .i64 n] w (fun e w'=>∃ x:V13,e = .returned (.agg x.C)/\Below w.heap.size w w'/\St13 w' (M13.new 5 n) x):=by
 obtain ⟨cb,hcb⟩:∃ cb,(x13 5).C=cb:=⟨_,rfl⟩
 have HCB:=Lib.hid hcb
 have hbs:cb.size=24:=by rw [<- hcb];rfl
 have hr0:((w.alloc (.cells z13 T13)).alloc (.cells z13 T13)).heap[w.heap.size]? = some (.cells z13 T13 (0,0)):=by
  rw [Below.heap_alloc _ _ _ (by simp)]
  exact heap_alloc_new w _
 have hn0:((w.alloc (.cells z13 T13)).alloc (.cells z13 T13)).heap[w.heap.size+1]? = some (.cells z13 T13 (0,0)):=by
  have:=heap_alloc_new (w.alloc (.cells z13 T13)) (.cells z13 T13)
  rwa [World.size_alloc] at this
 have HT1:=Lib.hid (show ((w.alloc (.cells z13 T13)).alloc (.cells z13 T13)).there (w.heap.size+1) 0 cb.size from by rw [hbs];exact there_of hn0 rfl)
 have HI1:=Lib.hid (show (Tryz.prog.info? T13).map (·.size)=some cb.size from by rw [hbs];kernel_rfl)
 have HO1:=Lib.hid (show cb.all (·.oneCell')=true from by rw [<- hcb];exact V13.one _)
 obtain ⟨W2,hW2⟩:∃ W2,((w.alloc (.cells z13 T13)).alloc (.cells z13 T13)).setCells (w.heap.size+1) 0 cb.toList=W2:=⟨_,rfl⟩
 have ho2:Only [w.heap.size+1] ((w.alloc (.cells z13 T13)).alloc (.cells z13 T13)) W2:=by rw [<- hW2];exact only_setCells (by simp) _ _ _ _ (Only.refl _ _)
 have HB2:=Lib.hid (show W2.heap[w.heap.size+1]? = some (.cells (x13 5).C T13 (0,0)) from by rw [<- hW2,hcb];exact block_whole hn0 (by rw [hbs];rfl))
 have HR2:=Lib.hid ((ho2.block _ (head_row hr0).lt (by simp)).trans hr0)
 have HL2:=Lib.hid ((low_two w (.cells z13 T13) (.cells z13 T13)).trans (ho2.below (by simp) (by simp;omega)))
 have K:=Lib.hid (r12new_walk (w:=W2) n hn1 hn2)
 clear hcb hbs hr0 hn0 ho2
 go_enter Tryz.func27,Tryz.ntmps27
 go_wp2_with (refine wpList_store_mid rfl T13 (.tmp 5) (.tmp 7) rfl (w.heap.size+1) 0 cb rfl (congrArg Value.agg HCB.out) HT1.out HI1.out HO1.out ?_)
 try rw [hW2]
 refine K.out.mono ?_
 rintro e w3 ⟨u0,u1,rfl,hb3,hk3⟩
 obtain ⟨F0,n0,d0,rfl⟩:=hk3.form1
 obtain ⟨F1,n1,d1,rfl⟩:=hk3.form2
 have hb3b:=(hb3.block _ (head_row HB2.out).lt).trans HB2.out
 have hb3r:=(hb3.block _ (head_row HR2.out).lt).trans HR2.out
 have hl3:=HL2.out.trans (hb3.mono HL2.out.size)
 obtain ⟨j1,j2⟩:=box_set12 hb3b ((L12.new n).c:Nat) F0 n0 d0 F1 n1 d1
 have hbx:∀ j∈[w.heap.size+1],Bx w3 j:=fun j hj=>by
  have e:j=w.heap.size+1:=by simpa using hj
  rw [e]
  exact ⟨_,_,hb3b,(x13 5).nou,by decide⟩
 obtain ⟨W4,hW4⟩:∃ W4,(((w3.setCell ⟨w.heap.size+1,17,none⟩ (.int .i64 ((L12.new n).c:Nat))).setCell ⟨w.heap.size+1,18,none⟩ (.slice F0 n0 d0)).setCell ⟨w.heap.size+1,19,none⟩ (.slice F1 n1 d1))=W4:=⟨_,rfl⟩
 rw [hW4] at j1 j2
 have hr4:=(j2.block _ (head_row hb3r).lt (by simp)).trans hb3r
 have hl4:=hl3.trans (j2.below (by simp) hl3.size)
 have hs4:St13 W4 (M13.new 5 n) { x13 5 with c12:=((L12.new n).c:Nat),s12:=⟨F0,n0,d0⟩,q12:=⟨F1,n1,d1⟩ }:=⟨⟨rfl,rfl,⟨hk3.g1.only j2 hbx,hk3.g2.only j2 hbx⟩⟩,PV.nil _,rfl,rfl,rfl⟩
 obtain ⟨x4,hx4⟩:∃ x4:V13,{ x13 5 with c12:=((L12.new n).c:Nat),s12:=⟨F0,n0,d0⟩,q12:=⟨F1,n1,d1⟩ }=x4:=⟨_,rfl⟩
 rw [hx4] at hs4 j1
 obtain ⟨cc,hcc⟩:∃ cc,x4.C=cc:=⟨_,rfl⟩
 have hcs:cc.size=24:=by rw [<- hcc];rfl
 have HRA:=Lib.hid (show W4.rangeAt (w.heap.size+1) 0 cc.toList from by rw [<- hcc];exact range_of j1)
 have HTH:=Lib.hid (show W4.there w.heap.size 0 cc.size from by rw [hcs];exact there_of hr4 rfl)
 have HI4:=Lib.hid (show (Tryz.prog.info? T13).map (·.size)=some cc.size from by rw [hcs];kernel_rfl)
 have HI5:=Lib.hid (show (Tryz.prog.info? T13).map (·.size)=some cc.toList.length from by rw [Array.length_toList,hcs];kernel_rfl)
 have HO4:=Lib.hid (show cc.all (·.oneCell')=true from by rw [<- hcc];exact V13.one _)
 obtain ⟨W5,hW5⟩:∃ W5,W4.setCells w.heap.size 0 cc.toList=W5:=⟨_,rfl⟩
 have ho5:Only [w.heap.size] W4 W5:=by rw [<- hW5];exact only_setCells (by simp) _ _ _ _ (Only.refl _ _)
 have HB5:=Lib.hid (show W5.heap[w.heap.size]? = some (.cells cc T13 (0,0)) from by rw [<- hW5];exact block_whole hr4 (by rw [hcs];rfl))
 have HS5:=Lib.hid (hs4.only ho5 (fun g hg=>by
  have e:g=w.heap.size:=by simpa using hg
  rw [e]
  exact ⟨_,_,hr4,rfl,by decide⟩))
 have HL5:=Lib.hid (hl4.trans (ho5.below (by simp) hl4.size))
 have HCC:=Lib.hid hcc
 have HCS:=Lib.hid hcs
 obtain ⟨e0,e1,e2,e3,e4,e5,e6,e7,e8,e9,e10,e11,e12,e13,e14,e15,e16,e17,e18,e19,e20,e21,e22,e23⟩:=box_cells hb3b
 have bf:=fun i=>(head_row hb3b).frozen i
 clear hb3 hk3 hb3b hb3r hl3 j1 j2 hbx hr4 hl4 hs4 hx4 hcc hcs ho5 K HB2 HR2 HL2 hW2 HT1 HI1 HO1 HCB
 go_upto_region 12 with fail
 try rw [hW4]
 clear hW4 bf e0 e1 e2 e3 e4 e5 e6 e7 e8 e9 e10 e11 e12 e13 e14 e15 e16 e17 e18 e19 e20 e21 e22 e23
 go_wp2_with (first | (refine wpList_load_mid rfl T13 (.tmp 5) rfl (w.heap.size+1) 0 rfl cc.toList _ HRA.out Tryz.underlying53 rfl HI5.out ?_) | (refine wpList_store_mid rfl T13 (.tmp 4) (.tmp 32) rfl w.heap.size 0 cc rfl rfl HTH.out HI4.out HO4.out ?_))
 try rw [hW5]
 exact bodyPost_ret (v := .agg cc) (results_box rfl (range_of HB5.out) HCS.out) rfl ⟨x4,by rw [HCC.out],HL5.out,HS5.out⟩
end
set_option maxRecDepth 8000
theorem results_begin {W:World} {tm:Array Value} {b4 b5:Nat} {cs ca:Array Value} (h4:tm.getD 4 undef = .pointer (some ⟨b4,0,none⟩)) (h5:tm.getD 5 undef = .pointer (some ⟨b5,0,none⟩)) (hb:W.rangeAt b4 0 cs.toList) (ha:W.rangeAt b5 0 ca.toList) (hs:cs.size=24) (hz:ca.size=24) :
  (results Tryz.f10 tm).run Tryz.prog W = .ok (.tuple #[.agg cs,.agg ca]) W:=by
 have h24:(Tryz.prog.info? PT13).map (·.size)=some cs.toList.length:=by rw [Array.length_toList,hs];kernel_rfl
 have h25:(Tryz.prog.info? T13).map (·.size)=some ca.toList.length:=by rw [Array.length_toList,hz];kernel_rfl
 have l4:=run_loadVar_mid W b4 0 PT13 cs.toList _ hb Tryz.underlying42 rfl h24
 have l5:=run_loadVar_mid W b5 0 T13 ca.toList _ ha Tryz.underlying53 rfl h25
 clear hb ha h24 h25 hs hz
 unfold results
 rw [Tryz.results10]
 have e4:asAddr (tm.getD 4 undef)=(pure ⟨b4,0,none⟩:Sem Addr):=by rw [h4];rfl
 have e5:asAddr (tm.getD 5 undef)=(pure ⟨b5,0,none⟩:Sem Addr):=by rw [h5];rfl
 simp only [Array.getD_eq_getD_getElem?] at e4 e5
 simp [e4,e5,Sem.run_bind,l4,l5]
theorem r13new_walk {w:World} (t:Nat) (n:Int) (h1:1<=t) (h5:t<=5) (hn1 : -9223372036854775808<=n) (hn2:n<=9223372036854775807) :
  Calls Tryz.prog 27 #[.int .i64 (t:Nat),.int .i64 n] w (fun e w'=>∃ x:V13,e = .returned (.agg x.C)/\Below w.heap.size w w'/\St13 w' (M13.new t n) x):=by
 rcases (by omega:t=1∨t=2∨t=3∨t=4∨t=5) with rfl | rfl | rfl | rfl | rfl
 ·exact r13new8_walk n hn1 hn2
 ·exact r13new9_walk n hn1 hn2
 ·exact r13new10_walk n hn1 hn2
 ·exact r13new11_walk n hn1 hn2
 ·exact r13new12_walk n hn1 hn2
set_option maxHeartbeats 3000000 in
theorem begin13_walk (A:AllOk) {w:World} (pc cn:Nat) (hp:pc < 256) (hc:cn < 256) :
  Calls Tryz.prog 10 #[.int .u8 (pc:Nat),.int .u8 (cn:Nat)] w (fun e w'=>∃ x y:V13,e = .returned (.tuple #[.agg x.C,.agg y.C])/\Below w.heap.size w w'/\St13 w' (M13.new (1+pc % 5) ((1+cn % 12:Nat):Int)) x/\St13 w' (M13.new (1+pc % 5) ((1+cn % 12:Nat):Int)) y):=by
 obtain ⟨t,ht⟩:∃ t,1+pc % 5=t:=⟨_,rfl⟩
 obtain ⟨n,hn⟩:∃ n,1+cn % 12=n:=⟨_,rfl⟩
 rw [ht,hn]
 have ht1:1<=t:=by omega
 have ht5:t<=5:=by omega
 have hn1:1<=n:=by omega
 have hn12:n<=12:=by omega
 have ep:1+(pc:Int) % 5=(t:Int):=by omega
 have ec:1+(cn:Int) % 12=(n:Int):=by omega
 have wp1:(0:Int)<=(pc:Int):=by omega
 have wp2:(pc:Int)<=255:=by omega
 have wc1:(0:Int)<=(cn:Int):=by omega
 have wc2:(cn:Int)<=255:=by omega
 have wk1:IntKind.i64.wrap (pc:Int)=pc:=by rw [IntKind.wrap_i64];omega
 have wk2:IntKind.i64.wrap (cn:Int)=cn:=by rw [IntKind.wrap_i64];omega
 have wk3:IntKind.i64.wrap (t:Int)=t:=by rw [IntKind.wrap_i64];omega
 have wk4:IntKind.i64.wrap (n:Int)=n:=by rw [IntKind.wrap_i64];omega
 have tm1:(pc:Int).tmod 5=(pc:Int) % 5:=Int.tmod_eq_emod_of_nonneg wp1
 have tm2:(cn:Int).tmod 12=(cn:Int) % 12:=Int.tmod_eq_emod_of_nonneg wc1
 have hl0:=low_two w (.cells z13 PT13) (.cells z13 T13)
 have hr0:((w.alloc (.cells z13 PT13)).alloc (.cells z13 T13)).heap[w.heap.size]? = some (.cells z13 PT13 (0,0)):=by
  rw [Below.heap_alloc _ _ _ (by simp)]
  exact heap_alloc_new w _
 have hq0:((w.alloc (.cells z13 PT13)).alloc (.cells z13 T13)).heap[w.heap.size+1]? = some (.cells z13 T13 (0,0)):=by
  have:=heap_alloc_new (w.alloc (.cells z13 PT13)) (.cells z13 T13)
  rwa [World.size_alloc] at this
 have HL0:=Lib.hid hl0
 have HR0:=Lib.hid hr0
 have HQ0:=Lib.hid hq0
 have K1:=Lib.hid (new13_walk (w:=(w.alloc (.cells z13 PT13)).alloc (.cells z13 T13)) A t (n:Nat) ht1 ht5 (by omega) (by omega))
 clear hl0 hr0 hq0 A ht hn
 go_enter Tryz.func10,Tryz.ntmps10
 go_wp2_with fail
 refine K1.out.mono ?_
 rintro e w1 ⟨x1,rfl,hb1,hs1⟩
 have t1:=st1 w1 x1
 have hl1:=hb1.trans (t1.low.mono hb1.size)
 have HL1:=Lib.hid (HL0.out.trans (hl1.mono HL0.out.size))
 have HR1:=Lib.hid ((hl1.block _ (head_row HR0.out).lt).trans HR0.out)
 have HQ1:=Lib.hid ((hl1.block _ (head_row HQ0.out).lt).trans HQ0.out)
 have HS1:=Lib.hid (hs1.below t1.low)
 have HB1:=Lib.hid t1.box
 have l1:=load24 t1.box
 have hsz:w.heap.size+2<=w1.heap.size:=by have:=hb1.size;simpa using this
 obtain ⟨V1,hV1⟩:∃ V,((w1.alloc (.cells z13 PT13)).setCells w1.heap.size 0 x1.C.toList)=V:=⟨_,rfl⟩
 rw [hV1] at HL1 HR1 HQ1 HS1 HB1 l1
 obtain ⟨c1,hc1⟩:∃ c,x1.C=c:=⟨_,rfl⟩
 rw [hc1] at t1 hV1 l1
 have T1:=Lib.hid t1
 have R1:=Lib.hid l1
 have HC1:=Lib.hid hc1
 clear K1 hb1 hs1 t1 hl1 l1 hc1 HL0 HR0 HQ0
 go_upto_region 2 with (refine wpList_store_mid rfl PT13 (.tmp 6) (.tmp 18) rfl w1.heap.size 0 c1 rfl (congrArg Value.agg HC1.out) T1.out.th T1.out.inf T1.out.one ?_)
 try rw [hV1]
 clear hV1 T1
 have hcs:c1.size=24:=by rw [<- HC1.out];rfl
 have HS0:=Lib.hid (show V1.drew.rangeAt w1.heap.size 0 c1.toList/\V1.drew.there w.heap.size 0 c1.size/\V1.drew.there (w.heap.size+1) 0 c1.size from by
  rw [hcs]
  exact ⟨R1.out.1,there_of (T:=PT13) HR1.out rfl,there_of (T:=T13) HQ1.out rfl⟩)
 have hi2:(Tryz.prog.info? PT13).map (·.size)=some c1.toList.length:=R1.out.2
 have hi3:(Tryz.prog.info? PT13).map (·.size)=some c1.size:=by rw [hcs];kernel_rfl
 have hi4:(Tryz.prog.info? T13).map (·.size)=some c1.size:=by rw [hcs];kernel_rfl
 have ho1:c1.all (·.oneCell')=true:=by rw [<- HC1.out];exact V13.one _
 refine wp_region_held_drew (S:=fun W=>W.rangeAt w1.heap.size 0 c1.toList/\W.there w.heap.size 0 c1.size/\W.there (w.heap.size+1) 0 c1.size) (by kernel_rfl) HS0.out (fun hH=>?_)
 clear HS0
 refine wpAnyH_take (i := 0) (oi := { dst := some 20, op := Op.load 42 (Operand.tmp 6), type := 42, pos := "law.go:28", after := #[], guard := none }) rfl (by kernel_rfl) (by kernel_rfl) (by kernel_rfl) (fun _ _ _ h => h) (yieldsIf_load_mid (by rfl) PT13 (.tmp 6) rfl w1.heap.size 0 rfl c1.toList _ (fun W h => h.1) Tryz.underlying42 rfl hi2) hH ?_
 simp only [Act.put,List.setIfInBounds_toArray,List.set_cons_zero,List.set_cons_succ]
 refine wpAnyH_take (i := 1) (oi := { dst := some 21, op := Op.move (Operand.tmp 0), type := 5, pos := "law.go:28", after := #[], guard := none }) (v := .int .u8 (pc : Nat)) rfl (by kernel_rfl) (by kernel_rfl) (by kernel_rfl) (fun _ _ _ h => h) (Or.inl ⟨by rfl, fun W _ => ?h1⟩) hH ?_
 case h1=>go_simp
 simp only [Act.put,List.setIfInBounds_toArray,List.set_cons_zero,List.set_cons_succ]
 refine wpAnyH_take (i := 2) (oi := { dst := some 22, op := Op.convert 5 3 (Operand.tmp 21), type := 3, pos := "law.go:28", after := #[{ on := 1, ground := Ground.data }], guard := none }) (v := .int .i64 (pc : Nat)) rfl (by kernel_rfl) (by kernel_rfl) (by kernel_rfl) (fun _ _ _ h => h) (Or.inl ⟨by rfl, fun W _ => ?h2⟩) hH ?_
 case h2=>go_simp
 simp only [Act.put,List.setIfInBounds_toArray,List.set_cons_zero,List.set_cons_succ]
 refine wpAnyH_take (i := 3) (oi := { dst := some 23, op := Op.binOp BinOp.rem 3 (Operand.tmp 22) (Operand.const (Value.int IntKind.i64 5)) 3, type := 3, pos := "law.go:28", after := #[{ on := 2, ground := Ground.data }], guard := none }) (v := .int .i64 ((pc : Int) % 5)) rfl (by kernel_rfl) (by kernel_rfl) (by kernel_rfl) (fun _ _ _ h => h) (Or.inl ⟨by rfl, fun W _ => ?h3⟩) hH ?_
 case h3=>go_simp
 simp only [Act.put,List.setIfInBounds_toArray,List.set_cons_zero,List.set_cons_succ]
 refine wpAnyH_take (i := 4) (oi := { dst := some 24, op := Op.binOp BinOp.add 3 (Operand.const (Value.int IntKind.i64 1)) (Operand.tmp 23) 3, type := 3, pos := "law.go:28", after := #[{ on := 3, ground := Ground.data }], guard := none }) (v := .int .i64 (t : Nat)) rfl (by kernel_rfl) (by kernel_rfl) (by kernel_rfl) (fun _ _ _ h => h) (Or.inl ⟨by rfl, fun W _ => ?h4⟩) hH ?_
 case h4=>go_simp
 simp only [Act.put,List.setIfInBounds_toArray,List.set_cons_zero,List.set_cons_succ]
 refine wpAnyH_take (i := 5) (oi := { dst := some 25, op := Op.move (Operand.tmp 1), type := 5, pos := "law.go:28", after := #[], guard := none }) (v := .int .u8 (cn : Nat)) rfl (by kernel_rfl) (by kernel_rfl) (by kernel_rfl) (fun _ _ _ h => h) (Or.inl ⟨by rfl, fun W _ => ?h5⟩) hH ?_
 case h5=>go_simp
 simp only [Act.put,List.setIfInBounds_toArray,List.set_cons_zero,List.set_cons_succ]
 refine wpAnyH_take (i := 6) (oi := { dst := some 26, op := Op.convert 5 3 (Operand.tmp 25), type := 3, pos := "law.go:28", after := #[{ on := 5, ground := Ground.data }], guard := none }) (v := .int .i64 (cn : Nat)) rfl (by kernel_rfl) (by kernel_rfl) (by kernel_rfl) (fun _ _ _ h => h) (Or.inl ⟨by rfl, fun W _ => ?h6⟩) hH ?_
 case h6=>go_simp
 simp only [Act.put,List.setIfInBounds_toArray,List.set_cons_zero,List.set_cons_succ]
 refine wpAnyH_take (i := 7) (oi := { dst := some 27, op := Op.binOp BinOp.rem 3 (Operand.tmp 26) (Operand.const (Value.int IntKind.i64 12)) 3, type := 3, pos := "law.go:28", after := #[{ on := 6, ground := Ground.data }], guard := none }) (v := .int .i64 ((cn : Int) % 12)) rfl (by kernel_rfl) (by kernel_rfl) (by kernel_rfl) (fun _ _ _ h => h) (Or.inl ⟨by rfl, fun W _ => ?h7⟩) hH ?_
 case h7=>go_simp
 simp only [Act.put,List.setIfInBounds_toArray,List.set_cons_zero,List.set_cons_succ]
 refine wpAnyH_take (i := 8) (oi := { dst := some 28, op := Op.binOp BinOp.add 3 (Operand.const (Value.int IntKind.i64 1)) (Operand.tmp 27) 3, type := 3, pos := "law.go:28", after := #[{ on := 7, ground := Ground.data }], guard := none }) (v := .int .i64 (n : Nat)) rfl (by kernel_rfl) (by kernel_rfl) (by kernel_rfl) (fun _ _ _ h => h) (Or.inl ⟨by rfl, fun W _ => ?h8⟩) hH ?_
 case h8=>go_simp
 simp only [Act.put,List.setIfInBounds_toArray,List.set_cons_zero,List.set_cons_succ]
 refine wpAnyH_ready (rs:=[9]) (by kernel_rfl) (by simp) ?_
 refine AllReadyH.cons (o := { dst := some 29, op := Op.call { callee := Callee.value (Operand.func 27), args := #[Operand.tmp 24, Operand.tmp 28], argTypes := #[3, 3] }, type := 53, pos := "law.go:28", after := #[{ on := 4, ground := Ground.data }, { on := 8, ground := Ground.data }], guard := none }) rfl (fun K hK => ?_) AllReadyH.nil
 go_simp
 refine (r13new_walk (w:=V1.drew) t (n:Nat) ht1 ht5 (by omega) (by omega)).mono ?_
 rintro e w2 ⟨y,rfl,hb2,hs2⟩
 obtain ⟨c2,hc2⟩:∃ c,y.C=c:=⟨_,rfl⟩
 have hc2s:c2.size=c1.size:=by rw [hcs,<- hc2];rfl
 have hB2:w2.heap[w1.heap.size]? = some (.cells x1.C PT13 (0,0)):=(hb2.block _ (head_row HB1.out).lt).trans HB1.out
 have hR2:w2.heap[w.heap.size]? = some (.cells z13 PT13 (0,0)):=(hb2.block _ (head_row HR1.out).lt).trans HR1.out
 have hQ2:w2.heap[w.heap.size+1]? = some (.cells z13 T13 (0,0)):=(hb2.block _ (head_row HQ1.out).lt).trans HQ1.out
 have hS2:w2.rangeAt w1.heap.size 0 c1.toList/\w2.there w.heap.size 0 c1.size/\w2.there (w.heap.size+1) 0 c1.size:=by
  rw [hcs,<- HC1.out]
  exact ⟨range_of hB2,there_of hR2 rfl,there_of hQ2 rfl⟩
 have hbb:Below V1.heap.size V1 w2:=((Below.refl V1.heap.size V1).drew).trans hb2
 have hL2:Below w.heap.size w w2:=HL1.out.trans (hbb.mono HL1.out.size)
 have hsx:St13 w2 (M13.new t (n:Nat)) x1:=HS1.out.below hbb
 have o1:Only [w.heap.size] w2 (w2.setCells w.heap.size 0 c1.toList):=only_setCells (by simp) _ _ _ _ (Only.refl _ _)
 have o2:Only [w.heap.size+1] (w2.setCells w.heap.size 0 c1.toList) ((w2.setCells w.heap.size 0 c1.toList).setCells (w.heap.size+1) 0 c2.toList):=only_setCells (by simp) _ _ _ _ (Only.refl _ _)
 have g1:=block_whole (vs:=c1) hR2 (by rw [hcs];rfl)
 have g2:=(o1.block _ (head_row hQ2).lt (by simp)).trans hQ2
 have b1:∀ g∈[w.heap.size],Bx w2 g:=fun g hg=>by
  have e:g=w.heap.size:=by simpa using hg
  rw [e]
  exact ⟨_,_,hR2,rfl,by decide⟩
 have b2:∀ g∈[w.heap.size+1],Bx (w2.setCells w.heap.size 0 c1.toList) g:=fun g hg=>by
  have e:g=w.heap.size+1:=by simpa using hg
  rw [e]
  exact ⟨_,_,g2,rfl,by decide⟩
 have hsx2:=(hsx.only o1 b1).only o2 b2
 have hsy2:=(hs2.only o1 b1).only o2 b2
 have hL3:=hL2.trans (o1.below (by simp) hL2.size)
 have hL4:=hL3.trans (o2.below (by simp) (Nat.le_trans hL2.size o1.size))
 have g3:=(o2.block _ (head_row g1).lt (by simp)).trans g1
 have g4:=block_whole (vs:=c2) g2 (by rw [hc2s,hcs];rfl)
 have i2:(Tryz.prog.info? T13).map (·.size)=some c2.size:=by rw [hc2s];exact hi4
 have ho2:c2.all (·.oneCell')=true:=by rw [<- hc2];exact V13.one _
 have HEND:=Lib.hid (show _/\_/\_/\_/\_ from ⟨hsx2,hsy2,hL4,g3,g4⟩)
 have HC2:=Lib.hid hc2
 have HS2:=Lib.hid hS2
 have hsne:w.heap.size≠w1.heap.size/\w.heap.size+1≠w1.heap.size:=⟨by omega,by omega⟩
 clear hbb hB2 hR2 hQ2 hL2 hsx o1 o2 g1 g2 b1 b2 hsx2 hsy2 hL3 hL4 g3 g4 hb2 hs2 hc2 hH hS2
 refine hK.out _ _ HS2.out (fun hH2=>?_)
 refine wpAnyH_ready (rs:=[10]) (by kernel_rfl) (by simp) ?_
 refine AllReadyH.cons (o := { dst := none, op := Op.store 42 (Operand.tmp 4) (Operand.tmp 20), type := 0, pos := "law.go:28", after := #[{ on := 0, ground := Ground.data }, { on := 9, ground := Ground.chain }, { on := 0, ground := Ground.phase }, { on := 1, ground := Ground.textOnly Departure.lateStores }, { on := 2, ground := Ground.textOnly Departure.lateStores }, { on := 3, ground := Ground.textOnly Departure.lateStores }, { on := 4, ground := Ground.textOnly Departure.lateStores }, { on := 5, ground := Ground.textOnly Departure.lateStores }, { on := 6, ground := Ground.textOnly Departure.lateStores }, { on := 7, ground := Ground.textOnly Departure.lateStores }, { on := 8, ground := Ground.textOnly Departure.lateStores }, { on := 9, ground := Ground.textOnly Departure.lateStoresUnsure }], guard := none }) rfl (fun K2 hK2 => ?_) AllReadyH.nil
 rw [if_pos (show Region.wanted _ _=true from by rfl)]
 refine wp_store_mid PT13 (.tmp 4) (.tmp 20) rfl w.heap.size 0 c1 rfl rfl hH2.2.1 hi3 ho1 ?_
 refine hK2.out _ _ ?_ (fun hH3=>?_)
 ·exact ⟨World.rangeAt_setCells_apart hH2.1 _ _ _ (.inl (Ne.symm hsne.1)),World.there_setCells hH2.2.1 _ _ _,World.there_setCells hH2.2.2 _ _ _⟩
 simp only [Act.put]
 refine wpAnyH_ready (rs:=[11]) (by kernel_rfl) (by simp) ?_
 refine AllReadyH.cons (o := { dst := none, op := Op.store 53 (Operand.tmp 5) (Operand.tmp 29), type := 0, pos := "law.go:28", after := #[{ on := 9, ground := Ground.data }, { on := 10, ground := Ground.chain }, { on := 0, ground := Ground.phase }, { on := 1, ground := Ground.phase }, { on := 2, ground := Ground.phase }, { on := 3, ground := Ground.phase }, { on := 4, ground := Ground.phase }, { on := 5, ground := Ground.phase }, { on := 6, ground := Ground.phase }, { on := 7, ground := Ground.phase }, { on := 8, ground := Ground.phase }, { on := 9, ground := Ground.phase }, { on := 10, ground := Ground.phase }], guard := none }) rfl (fun K3 hK3 => ?_) AllReadyH.nil
 rw [if_pos (show Region.wanted _ _=true from by rfl)]
 refine wp_store_mid T13 (.tmp 5) (.tmp 29) rfl (w.heap.size+1) 0 c2 rfl (congrArg Value.agg HC2.out) (by rw [hc2s];exact hH3.2.2) i2 ho2 ?_
 refine hK3.out _ _ ?_ (fun _=>?_)
 ·exact ⟨World.rangeAt_setCells_apart hH3.1 _ _ _ (.inl (Ne.symm hsne.2)),World.there_setCells hH3.2.1 _ _ _,World.there_setCells hH3.2.2 _ _ _⟩
 simp only [Act.put]
 refine wpAnyH_done (by kernel_rfl) ?_ _
 have HZ:=Lib.hid (show c1.size=24/\c2.size=24 from ⟨hcs,by rw [hc2s];exact hcs⟩)
 clear hK hK2 hK3 hH2 hH3 hcs hc2s hi2 hi3 hi4 ho1 i2 ho2 HS2 R1
 generalize (w2.setCells w.heap.size 0 c1.toList).setCells (w.heap.size+1) 0 c2.toList=W9 at HEND ⊢
 go_wp2_with fail
 exact bodyPost_ret (v := .tuple #[.agg c1,.agg c2]) (results_begin rfl rfl (range_of HEND.out.2.2.2.1) (range_of HEND.out.2.2.2.2) HZ.out.1 HZ.out.2) rfl ⟨x1,y,by rw [HC1.out,HC2.out],HEND.out.2.2.1,HEND.out.1,HEND.out.2.1⟩
theorem few_bad {l:List Op13} {i:Nat} (hi:i < l.length) (h:14 < l[i].n/\l[i].n<=1048576):few13 l=false:=by
 cases hf:few13 l with
 | false=>rfl
 | true=>exact absurd h (few13_small hf _ (List.getElem_mem hi))
theorem few_long {l:List Op13} (h:60 < l.length):few13 l=false:=by
 cases hf:few13 l with
 | false=>rfl
 | true=>exact absurd (few13_len hf) (by omega)
theorem few_all {l:List Op13} (h:∀ j (hj:j < l.length),l[j].Small):few13 l=decide (l.length<=60):=by
 unfold few13
 rw [show (l.all fun o=>decide (¬ (14 < o.n/\o.n<=1048576)))=true from List.all_eq_true.2 (fun o ho=>by
  obtain ⟨j,hj,rfl⟩:=List.getElem_of_mem ho
  exact decide_eq_true (h j hj)),Bool.and_true]
section
variable {w:World} {v:Value} {l:List Op13}
set_option maxHeartbeats 1000000 in
theorem rfew13_walk (h:OV w v l) :
  Calls Tryz.prog 9 #[v,.int .i64 60] w fun e w'=>e = .returned (.bool (few13 l))/\w'=w:=by
 obtain ⟨A,c,rfl,h1⟩:=h.mem
 have H1:=Lib.hid h1
 obtain ⟨r,hr⟩:∃ r,few13 l=r:=⟨_,rfl⟩
 have HR:=Lib.hid hr
 rw [hr]
 obtain ⟨na,hna⟩:∃ na,l.length=na:=⟨_,rfl⟩
 rw [hna]
 have HNA:=Lib.hid hna
 clear h h1 hna hr
 go_enter Tryz.func9,Tryz.ntmps9
 go_wp2_with fail
 go_loopg [5] na (fun gg s5 wr=>∃ i:Nat,i+gg=na/\s5 = .int .i64 (i:Nat)/\wr=w/\Hid (∀ j (hj:j < l.length),j < i->l[j].Small))
 case atStart=>exact ⟨0,by omega,rfl,rfl,Lib.hid (fun j _ hj=>by omega)⟩
 case round =>
  obtain ⟨i,hi,rfl,rfl,HS⟩:=hrel
  by_cases hlt:i < na
  ·have hltI:(i:Int) < (na:Int):=by omega
   by_cases hm:i<=60
   ·have hmI:(i:Int)<=60:=by omega
    have hil:i < l.length:=by rw [HNA.out];exact hlt
    obtain ⟨ok,g,off,hA,hg,-,-,-,a3⟩:=H1.out i hil
    subst hA
    by_cases h14:14 < l[i].n
    ·by_cases hM:l[i].n<=1048576
     ·have HF:Hid (r=false):=Lib.hid (by rw [<- HR.out];exact few_bad hil ⟨h14,hM⟩)
      generalize l[i].n=nn at a3 h14 hM
      clear ok HS hil
      go_wp2
      go_ret
      rw [HF.out]
      exact ⟨rfl,rfl⟩
     ·have HN:Hid (∀ j (hj:j < l.length),j < i+1->l[j].Small):=Lib.hid (fun j hj h=>by
       rcases Nat.lt_or_ge j i with h2 | h2
       ·exact HS.out j hj h2
       ·have:j=i:=by omega
        subst this
        exact fun h=>hM h.2)
      have hM2:1048576 < l[i].n:=by omega
      generalize l[i].n=nn at a3 h14 hM hM2
      clear ok HS hil
      go_wp2
      go_roundg (na - i - 1)
      case measure=>omega
      case rel=>exact ⟨i+1,by omega,by go_num,rfl,HN⟩
    ·have HN:Hid (∀ j (hj:j < l.length),j < i+1->l[j].Small):=Lib.hid (fun j hj h=>by
      rcases Nat.lt_or_ge j i with h2 | h2
      ·exact HS.out j hj h2
      ·have:j=i:=by omega
       subst this
       exact fun h=>h14 h.1)
     have h14b:l[i].n<=14:=by omega
     generalize l[i].n=nn at a3 h14 h14b
     clear ok HS hil
     go_wp2
     go_roundg (na - i - 1)
     case measure=>omega
     case rel=>exact ⟨i+1,by omega,by go_num,rfl,HN⟩
   ·have hmI:(60:Int) < (i:Int):=by omega
    have hnI:¬ (na:Int)<=60:=by omega
    have HF:Hid (r=false):=Lib.hid (by rw [<- HR.out];exact few_long (by rw [HNA.out];omega))
    go_wp2
    go_ret
    rw [HF.out]
    exact ⟨by simp,rfl⟩
  ·have hltI:¬ (i:Int) < (na:Int):=by omega
   have HF:Hid (r=decide (na<=60)):=Lib.hid (by
    rw [<- HR.out,<- HNA.out]
    exact few_all (fun j hj=>HS.out j hj (by have:=HNA.out;omega)))
   go_wp2
   go_ret
   rw [HF.out]
   refine ⟨?_,rfl⟩
   by_cases h60:na<=60
   ·have:(na:Int)<=60:=by omega
    simp [h60,this]
   ·have:¬ (na:Int)<=60:=by omega
    simp [h60,this]
end
set_option maxRecDepth 8000
structure St3 (w:World) (cs ca:Array Value):Prop where
 th1:((w.alloc (.cells z13 PT13)).alloc (.cells z13 T13)).there w.heap.size 0 cs.size
 th2:(((w.alloc (.cells z13 PT13)).alloc (.cells z13 T13)).setCells w.heap.size 0 cs.toList).there (w.heap.size+1) 0 ca.size
 inf1:(Tryz.prog.info? PT13).map (·.size)=some cs.size
 inf2:(Tryz.prog.info? T13).map (·.size)=some ca.size
 one1:cs.all (·.oneCell')=true
 one2:ca.all (·.oneCell')=true
 low:Below w.heap.size w ((((w.alloc (.cells z13 PT13)).alloc (.cells z13 T13)).setCells w.heap.size 0 cs.toList).setCells (w.heap.size+1) 0 ca.toList)
 box1:((((w.alloc (.cells z13 PT13)).alloc (.cells z13 T13)).setCells w.heap.size 0 cs.toList).setCells (w.heap.size+1) 0 ca.toList).heap[w.heap.size]? = some (.cells cs PT13 (0,0))
 box2:((((w.alloc (.cells z13 PT13)).alloc (.cells z13 T13)).setCells w.heap.size 0 cs.toList).setCells (w.heap.size+1) 0 ca.toList).heap[w.heap.size+1]? = some (.cells ca T13 (0,0))
theorem st3 (w:World) (x y:V13):St3 w x.C y.C:=by
 have h0:((w.alloc (.cells z13 PT13)).alloc (.cells z13 T13)).heap[w.heap.size]? = some (.cells z13 PT13 (0,0)):=by
  rw [Below.heap_alloc _ _ _ (by simp)]
  exact heap_alloc_new w _
 have h1:((w.alloc (.cells z13 PT13)).alloc (.cells z13 T13)).heap[w.heap.size+1]? = some (.cells z13 T13 (0,0)):=by
  have:=heap_alloc_new (w.alloc (.cells z13 PT13)) (.cells z13 T13)
  rwa [World.size_alloc] at this
 have ho:Only [w.heap.size] ((w.alloc (.cells z13 PT13)).alloc (.cells z13 T13)) (((w.alloc (.cells z13 PT13)).alloc (.cells z13 T13)).setCells w.heap.size 0 x.C.toList):=only_setCells (by simp) _ _ _ _ (Only.refl _ _)
 have g0:=block_whole (vs:=x.C) h0 rfl
 have g1:=(ho.block _ (head_row h1).lt (by simp)).trans h1
 have hp:Only [w.heap.size+1] (((w.alloc (.cells z13 PT13)).alloc (.cells z13 T13)).setCells w.heap.size 0 x.C.toList) ((((w.alloc (.cells z13 PT13)).alloc (.cells z13 T13)).setCells w.heap.size 0 x.C.toList).setCells (w.heap.size+1) 0 y.C.toList):=only_setCells (by simp) _ _ _ _ (Only.refl _ _)
 have hl:=(low_two w (.cells z13 PT13) (.cells z13 T13)).trans (ho.below (by simp) (by simp;omega))
 exact ⟨there_of h0 rfl,there_of g1 rfl,by kernel_rfl,by kernel_rfl,V13.one _,V13.one _,hl.trans (hp.below (by simp) hl.size),(hp.block _ (head_row g0).lt (by simp)).trans g0,block_whole g1 rfl⟩
def Af13 (wr:World) (m:M13) (a:An13) (s12 s13:Value) (W:World):Prop:=∃ (pA pB:Nat) (x:V13) (F:Option Addr) (k d:Nat),s12 = .pointer (some ⟨pA,0,none⟩)/\s13 = .pointer (some ⟨pB,0,none⟩)/\Below wr.heap.size wr W/\wr.heap.size<=pA/\wr.heap.size<=pB/\pA≠pB/\W.heap[pA]? = some (.cells x.C PT13 (0,0))/\W.heap[pB]? = some (.cells (an13C a.hit a.val a.n a.err F k d) AnsT (0,0))/\St13 W m x/\PV W (.slice F k d) a.out
structure Lp (w wr:World) (b:Nat) (m:M13):Prop where
 low:Below w.heap.size w wr
 err:ErrT wr
 box:∃ x:V13,wr.heap[b]? = some (.cells x.C PT13 (0,0))/\St13 wr m x
theorem Lp.below {w wr W:World} {b:Nat} {m:M13} (h:Lp w wr b m) (hb:Below wr.heap.size wr W):Lp w W b m:=by
 obtain ⟨x,h1,h2⟩:=h.box
 exact ⟨h.low.trans (hb.mono h.low.size),h.err.below hb h.err.lt,x,(hb.block _ (head_row h1).lt).trans h1,h2.below hb⟩
abbrev CnT:TypeId:=40
abbrev cnC (m:M13):Array Value:=#[.int .i64 (m.hits:Nat),.int .i64 (m.misses:Nat),.int .i64 (m.ev:Nat)]
end Go.Proofs.YtcpggonengkgiaaGreatDoor
