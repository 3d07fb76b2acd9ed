/- Words and walks: McX McY. -/
import Derived.Test.YtcpggonengkgiaaGreatDoorG33
import Derived.Test.YtcpggonengkgiaaGreatDoorG34
import Derived.Test.YtcpggonengkgiaaGreatDoorG36
import Derived.Test.YtcpggonengkgiaaGreatDoorG38
import Derived.Test.YtcpggonengkgiaaGreatDoorG40
import Derived.Test.YtcpggonengkgiaaGreatDoorG42
import Derived.Deep.DeepCutAuto
namespace Go.Proofs.YtcpggonengkgiaaGreatDoor
open Go Go.RowKit Go.Deep
set_option maxRecDepth 8000
structure AllOk:Prop where
 p8:Pol8Ok
 p9:Pol9Ok
 p10:Pol10Ok
 p11:Pol11Ok
 p12:Pol12Ok
theorem policyOf_walk (A:AllOk) (w:World) (t:Nat) (h1:1<=t) (h5:t<=5):Calls Tryz.prog 28 #[.int .i64 (t:Nat)] w fun e w'=>∃ p gs Inv,e = .returned (.tuple #[.agg p.C,.bool true])/\Below w.heap.size w w'/\Inv w'/\PolV p t gs Inv/\PolS p t Inv:=by
 rcases (by omega:t=1∨t=2∨t=3∨t=4∨t=5) with rfl | rfl | rfl | rfl | rfl
 ·exact (policyOf8_walk w).mono (fun e w' h=>⟨_,_,_,h.1,h.2.1,h.2.2,polv8 A.p8 _ _,pols8 A.p8 _ _⟩)
 ·exact (policyOf9_walk w).mono (fun e w' h=>⟨_,_,_,h.1,h.2.1,h.2.2,polv9 A.p9 _ _,pols9 A.p9 _ _⟩)
 ·exact (policyOf10_walk w).mono (fun e w' h=>⟨_,_,_,h.1,h.2.1,h.2.2,polv10 A.p10 _ _,pols10 A.p10 _ _⟩)
 ·exact (policyOf11_walk w).mono (fun e w' h=>⟨_,_,_,h.1,h.2.1,h.2.2,polv11 A.p11 _ _,pols11 A.p11 _ _⟩)
 ·exact (policyOf12_walk w).mono (fun e w' h=>⟨_,_,_,h.1,h.2.1,h.2.2,polv12 A.p12 _ _,pols12 A.p12 _ _⟩)
theorem PolIn.is {w:World} {x:V13} {s:PS} (h:PolIn w x s):x.p=(s.tag:Nat)/\1<=s.tag/\s.tag<=5:=by
 cases s
 ·exact ⟨h.1,Nat.le_refl _,by show (1:Nat)<=5;omega⟩
 ·exact ⟨h.1,by show (1:Nat)<=2;omega,by show (2:Nat)<=5;omega⟩
 ·exact ⟨h.1,by show (1:Nat)<=3;omega,by show (3:Nat)<=5;omega⟩
 ·exact ⟨h.1,by show (1:Nat)<=4;omega,by show (4:Nat)<=5;omega⟩
 ·exact ⟨h.1,by show (1:Nat)<=5;omega,Nat.le_refl _⟩
theorem st13_two {w w1 w2:World} {m:M13} {x:V13} {r4 r5:Nat} {zs za:Array Value} {F:Option Addr} {k d:Nat} {out:Prs} (h:St13 w m x) (hp:PV w (.slice F k d) out) (h4:w.heap[r4]? = some (.cells zs PT13 (0,0))) (h5:w.heap[r5]? = some (.cells za AnsT (0,0))) (hz:NoU zs) (ha:noUU za.toList=true) (hne:r4≠r5)
  (ho:Only [r4] w w1/\Only [r5] w1 w2∨Only [r5] w w1/\Only [r4] w1 w2):St13 w2 m x/\PV w2 (.slice F k d) out/\Only [r4,r5] w w2:=by
 have b4:∀ W:World,W.heap[r4]? = some (.cells zs PT13 (0,0))->∀ g∈[r4],Bx W g:=fun W hW g hg=>by
  have e:g=r4:=by simpa using hg
  rw [e]
  exact ⟨_,_,hW,hz,by decide⟩
 have b5:∀ W:World,W.heap[r5]? = some (.cells za AnsT (0,0))->∀ g∈[r5],Bn W g:=fun W hW g hg=>by
  have e:g=r5:=by simpa using hg
  rw [e]
  exact ⟨_,_,_,hW,by decide⟩
 have b5':∀ W:World,W.heap[r5]? = some (.cells za AnsT (0,0))->∀ g∈[r5], ∃ cs e,W.heap[g]? = some (.cells cs e (0,0))/\noUU cs.toList=true:=fun W hW g hg=>by
  have e:g=r5:=by simpa using hg
  rw [e]
  exact ⟨_,_,hW,ha⟩
 rcases ho with ⟨o1,o2⟩ | ⟨o1,o2⟩
 ·have q5:=(o1.block r5 (head_row h5).lt (by simpa using hne.symm)).trans h5
  have s1:=h.only o1 (b4 w h4)
  exact ⟨⟨s1.pol.onlyN o2 (b5 _ q5),s1.prs.onlyA o2 (b5' _ q5),s1.hi,s1.mi,s1.ev⟩,(hp.only o1 (b4 w h4)).onlyA o2 (b5' _ q5),(o1.mono (by simp)).trans o2 (by simp)⟩
 ·have q4:=(o1.block r4 (head_row h4).lt (by simpa using hne)).trans h4
  have s1:St13 w1 m x:=⟨h.pol.onlyN o1 (b5 w h5),h.prs.onlyA o1 (b5' w h5),h.hi,h.mi,h.ev⟩
  exact ⟨s1.only o2 (b4 _ q4),(hp.onlyA o1 (b5' w h5)).only o2 (b4 _ q4),(o1.mono (by simp)).trans o2 (by simp)⟩
theorem results_two {W:World} {tm:Array Value} {b4 b5:Nat} {cs ca:Array Value} (h4:tm.getD 4 undef = .pointer (some ⟨b4,0,none⟩)) (h5:tm.getD 5 undef = .pointer (some ⟨b5,0,none⟩)) (hb:W.rangeAt b4 0 cs.toList) (ha:W.rangeAt b5 0 ca.toList) (hs:cs.size=24) (hz:ca.size=5) :
  (results Tryz.f11 tm).run Tryz.prog W = .ok (.tuple #[.agg cs,.agg ca]) W:=by
 have h24:(Tryz.prog.info? PT13).map (·.size)=some cs.toList.length:=by rw [Array.length_toList,hs];kernel_rfl
 have h25:(Tryz.prog.info? AnsT).map (·.size)=some ca.toList.length:=by rw [Array.length_toList,hz];kernel_rfl
 have l4:=run_loadVar_mid W b4 0 PT13 cs.toList _ hb Tryz.underlying42 rfl h24
 have l5:=run_loadVar_mid W b5 0 AnsT ca.toList _ ha Tryz.underlying59 rfl h25
 clear hb ha h24 h25 hs hz
 unfold results
 rw [Tryz.results11]
 have e4:asAddr (tm.getD 4 undef)=(pure ⟨b4,0,none⟩:Sem Addr):=by rw [h4];rfl
 have e5:asAddr (tm.getD 5 undef)=(pure ⟨b5,0,none⟩:Sem Addr):=by rw [h5];rfl
 simp only [Array.getD_eq_getD_getElem?] at e4 e5
 simp [e4,e5,Sem.run_bind,l4,l5]
section
variable {w:World} {m:M13} {x:V13}
set_option maxHeartbeats 1600000 in
theorem step13_any (A:AllOk) (hE:ErrT w) (hs:St13 w m x) (ok:m.Ok) (hlow:m.Low 1000) {o:Op13} (ho:o.Ok) :
  Calls Tryz.prog 11 #[.agg x.C,.agg (op13C o)] w (P13 w (m.step o) (m.ans o)):=by
 have HM:=Lib.hid ok
 have HOO:=Lib.hid ho
 have HLW:=Lib.hid hlow
 obtain ⟨htag,ht1,ht5⟩:=hs.pol.is
 obtain ⟨t,ht⟩:∃ t,m.ps.tag=t:=⟨_,rfl⟩
 rw [ht] at htag ht1 ht5
 have HTG:=Lib.hid ht
 have hlo:=((low_two w (.cells x.C PT13) (.cells (op13C o) OpT)).alloc (by simp <;> omega) (.cells z13 PT13)).alloc (by simp <;> omega) (.cells zA AnsT)
 obtain ⟨W0,hW0⟩:∃ W0,((((w.alloc (.cells x.C PT13)).alloc (.cells (op13C o) OpT)).alloc (.cells z13 PT13)).alloc (.cells zA AnsT))=W0:=⟨_,rfl⟩
 have h0:W0.heap[w.heap.size]? = some (.cells x.C PT13 (0,0))/\W0.heap[w.heap.size+1]? = some (.cells (op13C o) OpT (0,0))/\W0.heap[w.heap.size+1+1]? = some (.cells z13 PT13 (0,0))/\W0.heap[w.heap.size+1+1+1]? = some (.cells zA AnsT (0,0))/\W0.heap.size=w.heap.size+1+1+1+1:=by
  rw [<- hW0]
  refine ⟨?_,?_,?_,?_,by simp⟩
  ·rw [Below.heap_alloc _ _ _ (by simp;omega),Below.heap_alloc _ _ _ (by simp;omega),Below.heap_alloc _ _ _ (by simp)]
   exact heap_alloc_new w _
  ·rw [Below.heap_alloc _ _ _ (by simp <;> omega),Below.heap_alloc _ _ _ (by simp)]
   have:=heap_alloc_new (w.alloc (.cells x.C PT13)) (.cells (op13C o) OpT)
   rwa [World.size_alloc] at this
  ·rw [Below.heap_alloc _ _ _ (by simp)]
   have:=heap_alloc_new ((w.alloc (.cells x.C PT13)).alloc (.cells (op13C o) OpT)) (.cells z13 PT13)
   simpa using this
  ·have:=heap_alloc_new (((w.alloc (.cells x.C PT13)).alloc (.cells (op13C o) OpT)).alloc (.cells z13 PT13)) (.cells zA AnsT)
   simpa using this
 rw [hW0] at hlo
 have HB0:Hid (S13 W0 PT13 w.heap.size m x):=Lib.hid ⟨h0.1,by decide,hs.below hlo⟩
 have HBX:=Lib.hid h0
 have HL0:=Lib.hid hlo
 have HE0:=Lib.hid (hE.below hlo hE.lt)
 have HPO:=Lib.hid (policyOf_walk A W0 t ht1 ht5)
 have hw0:w.heap.size≠0:=by have:=hE.lt;omega
 obtain ⟨p0,-⟩:=box_cells h0.1
 rw [htag] at p0
 clear hs ok hlow ho hlo h0 hE ht A
 go_enter Tryz.func11,Tryz.ntmps11
 go_wp2_with fail
 try rw [hW0]
 refine HPO.out.mono ?_
 rintro e w1 ⟨p,gs,Inv,rfl,hb1,hi1,PVV,-⟩
 have HPV:=Lib.hid PVV
 have hb1':=hb1.trans ((low_one w1 (.cells p.C PolT)).mono hb1.size)
 have HB1:=Lib.hid (HB0.out.below hb1')
 have HI1:=Lib.hid (PVV.below hi1 (low_one w1 (.cells p.C PolT)))
 have HE1:=Lib.hid (HE0.out.below hb1' HE0.out.lt)
 have HX1:Hid (∀ W,Below (w1.alloc (.cells p.C PolT)).heap.size (w1.alloc (.cells p.C PolT)) W->W.heap[w.heap.size+1]? = some (.cells (op13C o) OpT (0,0))/\W.heap[w.heap.size+1+1]? = some (.cells z13 PT13 (0,0))/\W.heap[w.heap.size+1+1+1]? = some (.cells zA AnsT (0,0))/\W.heap[w1.heap.size]? = some (.cells p.C PolT (0,0))):=Lib.hid (fun W hW=>by
  obtain ⟨-,q1,q2,q3,-⟩:=HBX.out
  have hc:=hb1'.trans (hW.mono hb1'.size)
  exact ⟨(hc.block _ (head_row q1).lt).trans q1,(hc.block _ (head_row q2).lt).trans q2,(hc.block _ (head_row q3).lt).trans q3,(hW.block _ (by simp)).trans (heap_alloc_new w1 _)⟩)
 have HS1:Hid (w.heap.size+1+1+1+1<=w1.heap.size):=Lib.hid (by
  have:=hb1.size
  have h5:=HBX.out.2.2.2.2
  omega)
 have HL1:=Lib.hid (HL0.out.trans (hb1'.mono HL0.out.size))
 obtain ⟨-,-,-,-,-,-,-,-,-,-,-,-,-,-,-,-,-,-,-,-,p20,-⟩:=box_cells HB1.out.box
 have hne1:w.heap.size≠w1.heap.size:=by have:=HS1.out;omega
 have hne2:w1.heap.size≠w.heap.size:=Ne.symm hne1
 have hlen:m.prs.length<=10000000:=by have:=HM.out.lenCap;have:=HM.out.ps.capLe;omega
 have HSRC:=Lib.hid HB1.out.st.prs
 have HNIL:=Lib.hid (OwnP.nil (Below.refl (w1.alloc (.cells p.C PolT)).heap.size (w1.alloc (.cells p.C PolT))))
 clear hb1 hb1' hi1 PVV HPO p0 HB0 HE0 HBX HL0 hW0
 go_wp2_with (at_builtin;refine wpList_append_pv rfl _ _ rfl (w1.alloc (.cells p.C PolT)).heap.size (by kernel_rfl) (by kernel_rfl) (.slice none 0 0) [] rfl HNIL.out _ m.prs rfl HSRC.out (by simp;omega) (Nat.le_refl _) ?_)
 intro v6 w6 hown6 _ _
 replace hown6:OwnP (w1.alloc (.cells p.C PolT)).heap.size (w1.alloc (.cells p.C PolT)) w6 v6 m.prs:=by
  rw [World.size_alloc]
  first | exact hown6 | (rw [List.nil_append] at hown6;exact hown6)
 obtain ⟨F6,n6,d6,rfl⟩:=hown6.pv.form
 have hb6:=HB1.out.below hown6.low
 obtain ⟨k1,k2⟩:=box_setp hb6.box F6 n6 d6
 have hst6:=hb6.st.only k2 hb6.bx
 have HB7:Hid (S13 (w6.setCell ⟨w.heap.size,20,none⟩ (.slice F6 n6 d6)) PT13 w.heap.size m { x with pr:=⟨F6,n6,d6⟩ }):=Lib.hid ⟨k1,by decide,⟨hst6.pol,hown6.pv.only k2 hb6.bx,hst6.hi,hst6.mi,hst6.ev⟩⟩
 have HI7:=Lib.hid (HPV.out.only (HPV.out.below HI1.out hown6.low) hb6 k2)
 have HE7:=Lib.hid ((HE1.out.below hown6.low HE1.out.lt).only k2 (by simpa using hw0.symm))
 have HL7:Hid (Below w.heap.size w (w6.setCell ⟨w.heap.size,20,none⟩ (.slice F6 n6 d6))):=Lib.hid ((HL1.out.trans (hown6.low.mono HL1.out.size)).trans (k2.below (by simp) (Nat.le_trans HL1.out.size hown6.low.size)))
 have HX7:Hid ((w6.setCell ⟨w.heap.size,20,none⟩ (.slice F6 n6 d6)).heap[w.heap.size+1]? = some (.cells (op13C o) OpT (0,0))/\(w6.setCell ⟨w.heap.size,20,none⟩ (.slice F6 n6 d6)).heap[w.heap.size+1+1]? = some (.cells z13 PT13 (0,0))/\(w6.setCell ⟨w.heap.size,20,none⟩ (.slice F6 n6 d6)).heap[w.heap.size+1+1+1]? = some (.cells zA AnsT (0,0))/\(w6.setCell ⟨w.heap.size,20,none⟩ (.slice F6 n6 d6)).heap[w1.heap.size]? = some (.cells p.C PolT (0,0))):=Lib.hid (by
  obtain ⟨q1,q2,q3,q4⟩:=HX1.out w6 hown6.low
  exact ⟨(k2.block _ (head_row q1).lt (by simp)).trans q1,(k2.block _ (head_row q2).lt (by simp;omega)).trans q2,(k2.block _ (head_row q3).lt (by simp;omega)).trans q3,(k2.block _ (head_row q4).lt (by simpa using hne2)).trans q4⟩)
 have HGP:Hid (∃ gp,gp < (w6.setCell ⟨w.heap.size,20,none⟩ (.slice F6 n6 d6)).heap.size/\(gp=w.heap.size∨w1.heap.size < gp)/\∃ c,m.prs=[]∨(Value.slice F6 n6 d6) = .slice (some ⟨gp,0,none⟩) m.prs.length c/\m.prs.length<=c/\PairsAt (w6.setCell ⟨w.heap.size,20,none⟩ (.slice F6 n6 d6)) gp m.prs):=Lib.hid (by
  rcases own_at hown6.own with ⟨-,h2⟩ | ⟨g,c,h1,h2,h3,h4⟩
  ·exact ⟨w.heap.size,HB7.out.lt,.inl rfl,0,.inl h2⟩
  ·have h5:=HS1.out
   simp only [World.size_alloc] at h3
   have h6:=h4.keep (k2.block g h4.lt (by simp;omega))
   exact ⟨g,h6.lt,.inr (by omega),c,.inr ⟨h1,h2,h6⟩⟩)
 obtain ⟨-,-,-,-,-,-,-,-,-,-,-,-,-,-,-,-,-,-,-,-,p20',-⟩:=box_cells hb6.box
 have pf20':=box_free hb6.box 20
 clear hown6 hb6 k1 k2 hst6 HB1 HI1 HE1 HX1 HL1 HSRC HNIL p20
 obtain ⟨W7,hW7⟩:∃ W7,w6.setCell ⟨w.heap.size,20,none⟩ (.slice F6 n6 d6)=W7:=⟨_,rfl⟩
 rw [hW7] at HB7 HI7 HE7 HL7 HX7 HGP
 obtain ⟨gp,hgp,hgp2,c,hpr⟩:=HGP.out
 have KD:=Lib.hid (do_walk (gp:=gp) (g:=gp) (c:=c) HPV.out HI7.out HB7.out HTG.out HM.out (HLW.out.mono (by decide)) hgp HE7.out HOO.out (hpr.imp id (fun h=>⟨rfl,h⟩)))
 obtain ⟨⟨z0,z1,z2,z3,z4,z5,z6,z7,z8,z9⟩,-⟩:=c10_at HX7.out.2.2.2
 obtain ⟨⟨o0,o1,o2,o3⟩,-⟩:=c4_at HX7.out.1
 clear hpr HGP HE7 HI7
 go_wp2_with fail
 try rw [hW7]
 refine KD.out.mono ?_
 rintro e w8 ⟨x8,F8,n8,d8,rfl,ho8,hs8,hp8⟩
 have hcnt:=(M13.counts m o).2.2
 have hk8:n8=(m.ans o).out.length:=by
  obtain ⟨F',c',e,_⟩:=hp8.mem
  injection e
 have hout:=HM.out.outI HOO.out
 have hevl:=HLW.out.ev
 obtain ⟨E,hEv⟩:∃ E,(m.step o).ev=E:=⟨_,rfl⟩
 rw [hEv] at hcnt
 have hevI:(m.ev:Int)+(n8:Int)=(E:Int):=by omega
 have hev1:(m.ev:Int)<=100000000000:=by omega
 have hn81:(n8:Int)<=2000000:=by omega
 have hszb:W7.heap.size<=w8.heap.size:=ho8.size
 have hsz1:=HS1.out
 have hgw:=(head_row HX7.out.2.2.2).lt
 have hr4:w8.heap[w.heap.size+1+1]? = some (.cells z13 PT13 (0,0)):=(ho8.block _ (head_row HX7.out.2.1).lt (by simp;omega)).trans HX7.out.2.1
 have hr5:w8.heap[w.heap.size+1+1+1]? = some (.cells zA AnsT (0,0)):=(ho8.block _ (head_row HX7.out.2.2.1).lt (by simp;omega)).trans HX7.out.2.2.1
 have hE8:x8.ev=(m.ev:Nat):=hs8.st.ev
 have hla:=low_one w8 (.cells (an13C (m.ans o).hit (m.ans o).val (m.ans o).n (m.ans o).err F8 n8 d8) AnsT)
 have hsa:=hs8.below hla
 have haa:=heap_alloc_new w8 (.cells (an13C (m.ans o).hit (m.ans o).val (m.ans o).n (m.ans o).err F8 n8 d8) AnsT)
 obtain ⟨j1,j2⟩:=box_sete hsa.box (E:Nat)
 have hst9:=hsa.st.only j2 hsa.bx
 have hpk:=(hp8.below hla).only j2 hsa.bx
 have hb8:=hs8.lt
 obtain ⟨WK,hWK⟩:∃ WK,(w8.alloc (.cells (an13C (m.ans o).hit (m.ans o).val (m.ans o).n (m.ans o).err F8 n8 d8) AnsT)).setCell ⟨w.heap.size,23,none⟩ (.int .i64 (E:Nat))=WK:=⟨_,rfl⟩
 rw [hWK] at j1 j2 hst9 hpk
 have h4k:WK.heap[w.heap.size+1+1]? = some (.cells z13 PT13 (0,0)):=(j2.block _ (Nat.lt_of_lt_of_le (head_row hr4).lt hla.size) (by simp;omega)).trans ((hla.block _ (head_row hr4).lt).trans hr4)
 have h5k:WK.heap[w.heap.size+1+1+1]? = some (.cells zA AnsT (0,0)):=(j2.block _ (Nat.lt_of_lt_of_le (head_row hr5).lt hla.size) (by simp;omega)).trans ((hla.block _ (head_row hr5).lt).trans hr5)
 have hstk:St13 WK (m.step o) { x8 with ev:=(E:Nat) }:=⟨hst9.pol,hst9.prs,hst9.hi,hst9.mi,by rw [hEv]⟩
 have hbk:WK.heap[w.heap.size]? = some (.cells ({ x8 with ev:=(E:Nat) }:V13).C PT13 (0,0)):=j1
 have hak:WK.heap[w8.heap.size]? = some (.cells (an13C (m.ans o).hit (m.ans o).val (m.ans o).n (m.ans o).err F8 n8 d8) AnsT (0,0)):=(j2.block _ (by simp) (by simp;omega)).trans haa
 have hlk:Below w.heap.size w WK:=((HL7.out.trans ((ho8.below (B:=w.heap.size) (by simp;omega) (by have:=HB7.out.lt;omega)))).trans (hla.mono (by omega))).trans (j2.below (by simp) (by have:=hla.size;omega))
 have HEND:Hid (∀ W1 W2,(Only [w.heap.size+1+1] WK W1/\Only [w.heap.size+1+1+1] W1 W2∨Only [w.heap.size+1+1+1] WK W1/\Only [w.heap.size+1+1] W1 W2)->Below w.heap.size w W2/\St13 W2 (m.step o) { x8 with ev:=(E:Nat) }/\PV W2 (.slice F8 n8 d8) (m.ans o).out):=Lib.hid (fun W1 W2 ho=>by
  obtain ⟨h1,h2,h3⟩:=st13_two hstk hpk h4k h5k rfl rfl (by omega) ho
  exact ⟨hlk.trans (h3.below (by simp;omega) hlk.size),h1,h2⟩)
 obtain ⟨⟨-,-,-,a3,-⟩,-⟩:=c5_at hak
 obtain ⟨-,-,-,-,-,-,-,-,-,-,-,-,-,-,-,-,-,-,-,-,-,-,-,e23⟩:=box_cells hs8.box
 rw [hE8] at e23
 have ef23:=box_free hs8.box 23
 have e23a:=fun ob=>(World.cell?_alloc_lt w8 ob ⟨w.heap.size,23,none⟩ hs8.lt).trans e23
 have ef23a:=fun ob=>(World.frozen?_alloc_old w8 ob ⟨w.heap.size,23,none⟩ (Nat.ne_of_lt hs8.lt)).trans ef23
 have hne5:w.heap.size≠w8.heap.size:=by have:=hs8.lt;omega
 have hne6:w8.heap.size≠w.heap.size:=Ne.symm hne5
 have hne7:w.heap.size+1+1≠w8.heap.size:=by have:=(head_row hr4).lt;omega
 have hne8:w.heap.size+1+1+1≠w8.heap.size:=by have:=(head_row hr5).lt;omega
 have hne9:w8.heap.size≠w.heap.size+1+1:=Ne.symm hne7
 have hne10:w8.heap.size≠w.heap.size+1+1+1:=Ne.symm hne8
 have hS0:WK.drew.rangeAt w.heap.size 0 ({ x8 with ev:=(E:Nat) }:V13).C.toList/\WK.drew.rangeAt w8.heap.size 0 (an13C (m.ans o).hit (m.ans o).val (m.ans o).n (m.ans o).err F8 n8 d8).toList/\WK.drew.there (w.heap.size+1+1) 0 24/\WK.drew.there (w.heap.size+1+1+1) 0 5:=⟨range_of (T:=PT13) hbk,range_of (T:=AnsT) hak,there_of (T:=PT13) h4k rfl,there_of (T:=AnsT) h5k rfl⟩
 have HS0:=Lib.hid hS0
 clear ho8 hs8 hp8 hcnt hk8 hout hevl hEv hszb hsz1 hgw hr4 hr5 hE8 j1 j2 hst9 hla hsa haa hb8 h4k h5k hstk hpk hbk hak hlk HB7 HX7 HL7 KD hW7 hgp hgp2
 go_upto_region 7 with fail
 try rw [hWK]
 clear hWK e23 ef23 e23a ef23a p20' pf20' z0 z1 z2 z3 z4 z5 z6 z7 z8 z9 o0 o1 o2 o3 hevI hev1 hn81
 clear a3
 obtain ⟨cb,hcb⟩:∃ cb,({ x8 with ev:=(E:Nat) }:V13).C=cb:=⟨_,rfl⟩
 obtain ⟨ca,hca⟩:∃ ca,(an13C (m.ans o).hit (m.ans o).val (m.ans o).n (m.ans o).err F8 n8 d8)=ca:=⟨_,rfl⟩
 have hbs:cb.size=24:=by rw [<- hcb];rfl
 have has:ca.size=5:=by rw [<- hca];rfl
 have hb1:cb.all (·.oneCell')=true:=by rw [<- hcb];exact V13.one _
 have ha1:ca.all (·.oneCell')=true:=by rw [<- hca];exact an_one _ _ _ _ _ _ _
 have HS1:=Lib.hid (show WK.drew.rangeAt w.heap.size 0 cb.toList/\WK.drew.rangeAt w8.heap.size 0 ca.toList/\WK.drew.there (w.heap.size+1+1) 0 cb.size/\WK.drew.there (w.heap.size+1+1+1) 0 ca.size from by
  rw [hbs,has,<- hcb,<- hca]
  exact HS0.out)
 clear HS0
 have hi2:(Tryz.prog.info? PT13).map (·.size)=some cb.toList.length:=by rw [Array.length_toList,hbs];kernel_rfl
 have hi3:(Tryz.prog.info? AnsT).map (·.size)=some ca.toList.length:=by rw [Array.length_toList,has];kernel_rfl
 refine wp_region_held_drew (S:=fun W=>W.rangeAt w.heap.size 0 cb.toList/\W.rangeAt w8.heap.size 0 ca.toList/\W.there (w.heap.size+1+1) 0 cb.size/\W.there (w.heap.size+1+1+1) 0 ca.size) (by kernel_rfl) HS1.out (fun hH=>?_)
 refine wpAnyH_take (i := 0) (oi := { dst := some 35, op := Op.load 42 (Operand.tmp 2), type := 42, pos := "machine.go:49", after := #[], guard := none }) rfl (by kernel_rfl) (by kernel_rfl) (by kernel_rfl) (fun _ _ _ h => h) (yieldsIf_load_mid (by rfl) PT13 (.tmp 2) rfl w.heap.size 0 rfl cb.toList _ (fun W h => h.1) Tryz.underlying42 rfl hi2) hH ?_
 simp only [Act.put,List.setIfInBounds_toArray,List.set_cons_zero,List.set_cons_succ]
 refine wpAnyH_take (i := 1) (oi := { dst := some 36, op := Op.load 59 (Operand.tmp 8), type := 59, pos := "machine.go:49", after := #[{ on := 2, ground := Ground.gcOnly Departure.lateStores }], guard := none }) rfl (by kernel_rfl) (by kernel_rfl) (by kernel_rfl) (fun _ _ _ h => h) (yieldsIf_load_mid (by rfl) AnsT (.tmp 8) rfl w8.heap.size 0 rfl ca.toList _ (fun W h => h.2.1) Tryz.underlying59 rfl hi3) hH ?_
 simp only [Act.put,List.setIfInBounds_toArray,List.set_cons_zero,List.set_cons_succ]
 refine wpAnyH_ready (rs:=[2]) (by kernel_rfl) (by simp) ?_
 refine AllReadyH.cons (o := { dst := none, op := Op.store 42 (Operand.tmp 4) (Operand.tmp 35), type := 0, pos := "machine.go:49", after := #[{ on := 0, ground := Ground.data }, { on := 0, ground := Ground.phase }, { on := 1, ground := Ground.textOnly Departure.lateStores }], guard := none }) rfl (fun K hK => ?_) AllReadyH.nil
 ·rw [if_pos (show Region.wanted _ _=true from by rfl)]
  refine wp_store_mid PT13 (.tmp 4) (.tmp 35) rfl (w.heap.size+1+1) 0 cb rfl rfl hH.2.2.1 (by rw [hbs];kernel_rfl) hb1 ?_
  refine hK.out _ _ ?_ (fun hH2=>?_)
  ·exact ⟨World.rangeAt_setCells_apart hH.1 _ _ _ (.inl (by omega)),World.rangeAt_setCells_apart hH.2.1 _ _ _ (.inl (by omega)),World.there_setCells hH.2.2.1 _ _ _,World.there_setCells hH.2.2.2 _ _ _⟩
  simp only [Act.put]
  refine wpAnyH_ready (rs:=[3]) (by kernel_rfl) (by simp) ?_
  refine AllReadyH.cons (o := { dst := none, op := Op.store 59 (Operand.tmp 5) (Operand.tmp 36), type := 0, pos := "machine.go:49", after := #[{ on := 1, ground := Ground.data }, { on := 2, ground := Ground.chain }, { on := 0, ground := Ground.phase }, { on := 1, ground := Ground.phase }, { on := 2, ground := Ground.phase }], guard := none }) rfl (fun K2 hK2 => ?_) AllReadyH.nil
  rw [if_pos (show Region.wanted _ _=true from by rfl)]
  refine wp_store_mid AnsT (.tmp 5) (.tmp 36) rfl (w.heap.size+1+1+1) 0 ca rfl rfl hH2.2.2.2 (by rw [has];kernel_rfl) ha1 ?_
  refine hK2.out _ _ ?_ (fun _=>?_)
  ·exact ⟨World.rangeAt_setCells_apart hH2.1 _ _ _ (.inl (by omega)),World.rangeAt_setCells_apart hH2.2.1 _ _ _ (.inl (by omega)),World.there_setCells hH2.2.2.1 _ _ _,World.there_setCells hH2.2.2.2 _ _ _⟩
  simp only [Act.put]
  refine wpAnyH_done (by kernel_rfl) ?_ _
  have hE2:=HEND.out (WK.drew.setCells (w.heap.size+1+1) 0 cb.toList) ((WK.drew.setCells (w.heap.size+1+1) 0 cb.toList).setCells (w.heap.size+1+1+1) 0 ca.toList) (.inl ⟨only_setCells (by simp) _ _ _ _ ((Only.refl _ WK).drew),only_setCells (by simp) _ _ _ _ (Only.refl _ _)⟩)
  have hRb:=World.rangeAt_setCells_same (WK.drew.setCells (w.heap.size+1+1) 0 cb.toList) (w.heap.size+1+1+1) 0 ca.toList hH2.2.2.2
  have hRa:=World.rangeAt_setCells_apart (World.rangeAt_setCells_same WK.drew (w.heap.size+1+1) 0 cb.toList hH.2.2.1) (w.heap.size+1+1+1) 0 ca.toList (.inl (by omega))
  have hR4:=hRa
  have hR5:=hRb
  clear hRa hRb hH hH2 hK hK2
  generalize (((WK.drew.setCells (w.heap.size+1+1) 0 cb.toList).setCells (w.heap.size+1+1+1) 0 ca.toList))=W2 at hE2 hR4 hR5 ⊢
  have HR4:=Lib.hid hR4
  have HR5:=Lib.hid hR5
  have HE2:=Lib.hid hE2
  have HBS:=Lib.hid hbs
  have HAS:=Lib.hid has
  have HCB:=Lib.hid hcb
  have HCA:=Lib.hid hca
  clear hR4 hR5 hE2 hb1 ha1 hbs has hi2 hi3 hcb hca
  go_wp2_with fail
  exact bodyPost_ret (v := .tuple #[.agg cb,.agg ca]) (results_two rfl rfl HR4.out HR5.out HBS.out HAS.out) rfl ⟨_,_,_,_,by rw [<- HCB.out,<- HCA.out],HE2.out⟩
theorem step13_walk (A:AllOk) (hE:ErrT w) (hs:St13 w m x) (ok:m.Ok) (hlow:m.Low 1000) {o:Op13} (ho:o.Ok) (_:o.Small) :
  Calls Tryz.prog 11 #[.agg x.C,.agg (op13C o)] w (P13 w (m.step o) (m.ans o)):=step13_any A hE hs ok hlow ho
end
set_option maxRecDepth 8000
section
variable {w:World} {m:M13} {x:V13}
set_option maxHeartbeats 1000000 in
theorem keys13_walk (A:AllOk) (hs:St13 w m x) (ok:m.Ok) :
  Calls Tryz.prog 16 #[.agg x.C] w (RetK w m.ps.keys):=by
 have HM:=Lib.hid ok
 obtain ⟨htag,ht1,ht5⟩:=hs.pol.is
 obtain ⟨t,ht⟩:∃ t,m.ps.tag=t:=⟨_,rfl⟩
 rw [ht] at htag ht1 ht5
 have HTG:=Lib.hid ht
 have hlo:=low_one w (.cells x.C PT13)
 have h0:=heap_alloc_new w (.cells x.C PT13)
 have HB0:Hid (S13 (w.alloc (.cells x.C PT13)) PT13 w.heap.size m x):=Lib.hid ⟨h0,by decide,hs.below hlo⟩
 have HL0:=Lib.hid hlo
 have HPO:=Lib.hid (policyOf_walk A (w.alloc (.cells x.C PT13)) t ht1 ht5)
 obtain ⟨p0,-⟩:=box_cells h0
 rw [htag] at p0
 clear hs ok hlo h0 ht A
 go_enter Tryz.func16,Tryz.ntmps16
 go_wp2_with fail
 refine HPO.out.mono ?_
 rintro e w1 ⟨p,gs,Inv,rfl,hb1,hi1,PVV,-⟩
 have E7:=Lib.hid PVV.e7
 have hb1':=hb1.trans ((low_one w1 (.cells p.C PolT)).mono hb1.size)
 have hb2:=HB0.out.below hb1'
 have KT:=Lib.hid (PVV.keys (PVV.below hi1 (low_one w1 (.cells p.C PolT))) hb2 HTG.out HM.out.ps)
 have HL1:=Lib.hid (HL0.out.trans (hb1'.mono HL0.out.size))
 obtain ⟨⟨z0,z1,z2,z3,z4,z5,z6,z7,z8,z9⟩,-⟩:=c10_at (heap_alloc_new w1 (.cells p.C PolT))
 clear hb1 hb1' hi1 PVV HPO p0 HB0 HL0 hb2
 go_wp2_with fail
 rw [E7.out,Oper.upon_enter]
 refine KT.out.mono ?_
 rintro e w2 ⟨v,rfl,hb3,hk⟩
 have HL2:=Lib.hid (HL1.out.trans (hb3.mono HL1.out.size))
 clear hb3 KT E7 z0 z1 z2 z3 z4 z5 z6 z7 z8 z9
 go_wp2_with fail
 exact bodyPost_ret (v:=v) (by simp [results,Tryz.results16]) rfl ⟨v,rfl,HL2.out,hk⟩
set_option maxHeartbeats 1000000 in
theorem ghosts13_walk (A:AllOk) (hs:St13 w m x) (ok:m.Ok) :
  Calls Tryz.prog 18 #[.agg x.C] w (fun e w'=>e = .returned (.int .i64 (m.ps.ghosts:Nat))/\Below w.heap.size w w'):=by
 have HM:=Lib.hid ok
 obtain ⟨htag,ht1,ht5⟩:=hs.pol.is
 obtain ⟨t,ht⟩:∃ t,m.ps.tag=t:=⟨_,rfl⟩
 rw [ht] at htag ht1 ht5
 have HTG:=Lib.hid ht
 have hlo:=low_one w (.cells x.C PT13)
 have h0:=heap_alloc_new w (.cells x.C PT13)
 have HB0:Hid (S13 (w.alloc (.cells x.C PT13)) PT13 w.heap.size m x):=Lib.hid ⟨h0,by decide,hs.below hlo⟩
 have HL0:=Lib.hid hlo
 have HPO:=Lib.hid (policyOf_walk A (w.alloc (.cells x.C PT13)) t ht1 ht5)
 obtain ⟨p0,-⟩:=box_cells h0
 rw [htag] at p0
 clear hs ok hlo h0 ht A
 go_enter Tryz.func18,Tryz.ntmps18
 go_wp2_with fail
 refine HPO.out.mono ?_
 rintro e w1 ⟨p,gs,Inv,rfl,hb1,hi1,PVV,-⟩
 have E7:=Lib.hid PVV.e8
 have hb1':=hb1.trans ((low_one w1 (.cells p.C PolT)).mono hb1.size)
 have hb2:=HB0.out.below hb1'
 have KT:=Lib.hid (PVV.gho (PVV.below hi1 (low_one w1 (.cells p.C PolT))) hb2 HTG.out HM.out.ps)
 have HL1:=Lib.hid (HL0.out.trans (hb1'.mono HL0.out.size))
 obtain ⟨⟨z0,z1,z2,z3,z4,z5,z6,z7,z8,z9⟩,-⟩:=c10_at (heap_alloc_new w1 (.cells p.C PolT))
 clear hb1 hb1' hi1 PVV HPO p0 HB0 HL0 hb2
 go_wp2_with fail
 rw [E7.out,Oper.upon_enter]
 refine KT.out.mono ?_
 rintro e w2 ⟨rfl,hb3⟩
 have HL2:=Lib.hid (HL1.out.trans (hb3.mono HL1.out.size))
 clear hb3 KT E7 z0 z1 z2 z3 z4 z5 z6 z7 z8 z9
 go_wp2_with fail
 exact bodyPost_ret (v := .int .i64 (m.ps.ghosts:Nat)) (by simp [results,Tryz.results18]) rfl ⟨rfl,HL2.out⟩
set_option maxHeartbeats 1000000 in
theorem capacity13_walk (A:AllOk) (hs:St13 w m x) (ok:m.Ok) :
  Calls Tryz.prog 20 #[.agg x.C] w (fun e w'=>e = .returned (.int .i64 (m.ps.cap:Nat))/\Below w.heap.size w w'):=by
 have HM:=Lib.hid ok
 obtain ⟨htag,ht1,ht5⟩:=hs.pol.is
 obtain ⟨t,ht⟩:∃ t,m.ps.tag=t:=⟨_,rfl⟩
 rw [ht] at htag ht1 ht5
 have HTG:=Lib.hid ht
 have hlo:=low_one w (.cells x.C PT13)
 have h0:=heap_alloc_new w (.cells x.C PT13)
 have HB0:Hid (S13 (w.alloc (.cells x.C PT13)) PT13 w.heap.size m x):=Lib.hid ⟨h0,by decide,hs.below hlo⟩
 have HL0:=Lib.hid hlo
 have HPO:=Lib.hid (policyOf_walk A (w.alloc (.cells x.C PT13)) t ht1 ht5)
 obtain ⟨p0,-⟩:=box_cells h0
 rw [htag] at p0
 clear hs ok hlo h0 ht A
 go_enter Tryz.func20,Tryz.ntmps20
 go_wp2_with fail
 refine HPO.out.mono ?_
 rintro e w1 ⟨p,gs,Inv,rfl,hb1,hi1,PVV,-⟩
 have E7:=Lib.hid PVV.e9
 have hb1':=hb1.trans ((low_one w1 (.cells p.C PolT)).mono hb1.size)
 have hb2:=HB0.out.below hb1'
 have KT:=Lib.hid (PVV.cap (PVV.below hi1 (low_one w1 (.cells p.C PolT))) hb2 HTG.out HM.out.ps)
 have HL1:=Lib.hid (HL0.out.trans (hb1'.mono HL0.out.size))
 obtain ⟨⟨z0,z1,z2,z3,z4,z5,z6,z7,z8,z9⟩,-⟩:=c10_at (heap_alloc_new w1 (.cells p.C PolT))
 clear hb1 hb1' hi1 PVV HPO p0 HB0 HL0 hb2
 go_wp2_with fail
 rw [E7.out,Oper.upon_enter]
 refine KT.out.mono ?_
 rintro e w2 ⟨rfl,hb3⟩
 have HL2:=Lib.hid (HL1.out.trans (hb3.mono HL1.out.size))
 clear hb3 KT E7 z0 z1 z2 z3 z4 z5 z6 z7 z8 z9
 go_wp2_with fail
 exact bodyPost_ret (v := .int .i64 (m.ps.cap:Nat)) (by simp [results,Tryz.results20]) rfl ⟨rfl,HL2.out⟩
theorem results_one {W:World} {tm:Array Value} {b4:Nat} {cs:Array Value} {e:Value} (h4:tm.getD 4 undef = .pointer (some ⟨b4,0,none⟩)) (h5:tm.getD 5 undef=e) (hb:W.rangeAt b4 0 cs.toList) (hs:cs.size=24) :
  (results Tryz.f22 tm).run Tryz.prog W = .ok (.tuple #[.agg cs,e]) W:=by
 have h24:(Tryz.prog.info? PT13).map (·.size)=some cs.toList.length:=by rw [Array.length_toList,hs];kernel_rfl
 have l4:=run_loadVar_mid W b4 0 PT13 cs.toList _ hb Tryz.underlying42 rfl h24
 clear hb h24 hs
 unfold results
 rw [Tryz.results22]
 have e4:asAddr (tm.getD 4 undef)=(pure ⟨b4,0,none⟩:Sem Addr):=by rw [h4];rfl
 simp only [Array.getD_eq_getD_getElem?] at e4 h5
 simp [e4,h5,l4]
def x13 (p:Nat):V13:=⟨p,0,⟨none,0,0⟩,0,⟨none,0,0⟩,⟨none,0,0⟩,⟨none,0,0⟩,0,⟨none,0,0⟩,⟨none,0,0⟩,⟨none,0,0⟩,0,0,⟨none,0,0⟩,⟨none,0,0⟩,⟨none,0,0⟩,⟨none,0,0⟩,0,⟨none,0,0⟩,⟨none,0,0⟩,⟨none,0,0⟩,0,0,0⟩
set_option maxHeartbeats 1600000 in
theorem new13_walk (A:AllOk) (p:Nat) (n:Int) (h1:1<=p) (h5:p<=5) (hn1:1<=n) (hn2:n<=1048576) :
  Calls Tryz.prog 22 #[.int .i64 (p:Nat),.int .i64 n] w (fun e w'=>∃ x:V13,e = .returned (.tuple #[.agg x.C,.nilIface])/\Below w.heap.size w w'/\St13 w' (M13.new p n) x):=by
 have HA:=Lib.hid A
 have hlo:=low_one w (.cells z13 PT13)
 have h0:=heap_alloc_new w (.cells z13 PT13)
 have HB0:=Lib.hid h0
 have HL0:=Lib.hid hlo
 have KM:=Lib.hid (may_ok (w.alloc (.cells z13 PT13)) (p:Nat) n (by omega) (by omega) hn1 hn2)
 clear hlo h0 A
 go_enter Tryz.func22,Tryz.ntmps22
 go_wp2_with fail
 refine KM.out.mono ?_
 rintro e w1 ⟨rfl,hb1⟩
 obtain ⟨cb,hcb⟩:∃ cb,(x13 p).C=cb:=⟨_,rfl⟩
 have HCB:=Lib.hid hcb
 have hbs:cb.size=24:=by rw [<- hcb];rfl
 have hn0:=heap_alloc_new w1 (.cells z13 PT13)
 have HT1:=Lib.hid (show (w1.alloc (.cells z13 PT13)).there w1.heap.size 0 cb.size from by rw [hbs];exact there_of hn0 rfl)
 have HI1:=Lib.hid (show (Tryz.prog.info? PT13).map (·.size)=some cb.size from by rw [hbs];kernel_rfl)
 have HO1:=Lib.hid (show cb.all (·.oneCell')=true from by rw [<- hcb];exact V13.one _)
 obtain ⟨W2,hW2⟩:∃ W2,(w1.alloc (.cells z13 PT13)).setCells w1.heap.size 0 cb.toList=W2:=⟨_,rfl⟩
 have hlt:w.heap.size < w1.heap.size:=by have:=hb1.size;simp at this;omega
 have ho2:Only [w1.heap.size] (w1.alloc (.cells z13 PT13)) W2:=by rw [<- hW2];exact only_setCells (by simp) _ _ _ _ (Only.refl _ _)
 have HB2:Hid (W2.heap[w1.heap.size]? = some (.cells (x13 p).C PT13 (0,0))):=Lib.hid (by rw [<- hW2,hcb];exact block_whole hn0 (by rw [hbs];rfl))
 have hk:=(hb1.trans ((low_one w1 (.cells z13 PT13)).mono hb1.size)).trans (ho2.below (by simp;omega) (by simp;have:=hb1.size;simp at this;omega))
 have HR2:=Lib.hid ((hk.block _ (head_row HB0.out).lt).trans HB0.out)
 have HL2:=Lib.hid (HL0.out.trans (hk.mono HL0.out.size))
 have HP:=Lib.hid (policyOf_walk HA.out W2 p h1 h5)
 clear hk hb1 KM HB0 HL0 ho2 hn0 hcb hbs HA
 go_wp2_with (refine wpList_store_mid rfl PT13 (.tmp 7) (.tmp 18) rfl w1.heap.size 0 cb rfl (congrArg Value.agg HCB.out) HT1.out HI1.out HO1.out ?_)
 try rw [hW2]
 refine HP.out.mono ?_
 rintro e w3 ⟨q,gs,Inv,rfl,hb3,hi3,PVV,PSS⟩
 have E0:=Lib.hid PVV.e0
 have hb3':=hb3.trans ((low_one w3 (.cells q.C PolT)).mono hb3.size)
 have HB3:=Lib.hid ((hb3'.block _ (head_row HB2.out).lt).trans HB2.out)
 have HR3:=Lib.hid ((hb3'.block _ (head_row HR2.out).lt).trans HR2.out)
 have HL3:=Lib.hid (HL2.out.trans (hb3'.mono HL2.out.size))
 have KS:=Lib.hid (PSS.start (PVV.below hi3 (low_one w3 (.cells q.C PolT))) HB3.out rfl n (by omega) (by omega))
 obtain ⟨⟨z0,z1,z2,z3,z4,z5,z6,z7,z8,z9⟩,-⟩:=c10_at (heap_alloc_new w3 (.cells q.C PolT))
 clear hb3 hb3' hi3 PVV PSS HP HB2 HR2 HL2 hW2 HT1 HI1 HO1 HCB
 go_wp2_with fail
 rw [E0.out,Oper.upon_enter]
 refine KS.out.mono ?_
 rintro e w4 ⟨rfl,ho4,x4,hpr,-,hhi,hmi,hev,hbx,hpin⟩
 have hne:w.heap.size≠w1.heap.size:=by omega
 have hr4:w4.heap[w.heap.size]? = some (.cells z13 PT13 (0,0)):=(ho4.block _ (head_row HR3.out).lt (by simp;omega)).trans HR3.out
 have hl4:Below w.heap.size w w4:=HL3.out.trans (ho4.below (by simp;omega) HL3.out.size)
 have hs4:St13 w4 (M13.new p n) x4:=⟨hpin,by rw [hpr];exact PV.nil _,hhi,hmi,hev⟩
 obtain ⟨cc,hcc⟩:∃ cc,x4.C=cc:=⟨_,rfl⟩
 have hcs:cc.size=24:=by rw [<- hcc];rfl
 have HRA:=Lib.hid (show w4.rangeAt w1.heap.size 0 cc.toList from by rw [<- hcc];exact range_of hbx)
 have HTH:=Lib.hid (show w4.there w.heap.size 0 cc.size from by rw [hcs];exact there_of hr4 rfl)
 have HI4:=Lib.hid (show (Tryz.prog.info? PT13).map (·.size)=some cc.size from by rw [hcs];kernel_rfl)
 have HI5:=Lib.hid (show (Tryz.prog.info? PT13).map (·.size)=some cc.toList.length from by rw [Array.length_toList,hcs];kernel_rfl)
 have HO4:=Lib.hid (show cc.all (·.oneCell')=true from by rw [<- hcc];exact V13.one _)
 obtain ⟨W5,hW5⟩:∃ W5,w4.setCells w.heap.size 0 cc.toList=W5:=⟨_,rfl⟩
 have ho5:Only [w.heap.size] w4 W5:=by rw [<- hW5];exact only_setCells (by simp) _ _ _ _ (Only.refl _ _)
 have HB5:=Lib.hid (show W5.heap[w.heap.size]? = some (.cells cc PT13 (0,0)) from by rw [<- hW5];exact block_whole hr4 (by rw [hcs];rfl))
 have HS5:=Lib.hid (hs4.only ho5 (fun g hg=>by
  have e:g=w.heap.size:=by simpa using hg
  rw [e]
  exact ⟨_,_,hr4,rfl,by decide⟩))
 have HL5:=Lib.hid (hl4.trans (ho5.below (by simp) hl4.size))
 have HCC:=Lib.hid hcc
 have HCS:=Lib.hid hcs
 clear ho4 hpr hhi hmi hev hbx hpin hr4 hl4 hs4 hcc hcs ho5 KS HB3 HR3 HL3 z0 z1 z2 z3 z4 z5 z6 z7 z8 z9 E0
 go_wp2_with (first | (refine wpList_load_mid rfl PT13 (.tmp 7) rfl w1.heap.size 0 rfl cc.toList _ HRA.out Tryz.underlying42 rfl HI5.out ?_) | (refine wpList_store_mid rfl PT13 (.tmp 4) (.tmp 29) rfl w.heap.size 0 cc rfl rfl HTH.out HI4.out HO4.out ?_))
 try rw [hW5]
 exact bodyPost_ret (v := .tuple #[.agg cc,.nilIface]) (results_one rfl rfl (range_of HB5.out) HCS.out) rfl ⟨x4,by rw [HCC.out],HL5.out,HS5.out⟩
set_option maxHeartbeats 1600000 in
theorem new13_bad (p n:Int) (f:ByteArray) (k:Int) (KM:Calls Tryz.prog 46 #[.int .i64 p,.int .i64 n] (w.alloc (.cells z13 PT13)) (MayBad (w.alloc (.cells z13 PT13)) f k)) :
  Calls Tryz.prog 22 #[.int .i64 p,.int .i64 n] w (fun e w'=>∃ a,e = .returned (.tuple #[.agg z13,.iface 212 (.pointer (some ⟨a,0,none⟩))])/\BadAt w' a f k (.iface 57 (.int .i64 1))/\Below w.heap.size w w'):=by
 have hlo:=low_one w (.cells z13 PT13)
 have h0:=heap_alloc_new w (.cells z13 PT13)
 have HB0:=Lib.hid h0
 have HL0:=Lib.hid hlo
 have KM:=Lib.hid KM
 clear hlo h0
 go_enter Tryz.func22,Tryz.ntmps22
 go_wp2_with fail
 refine KM.out.mono ?_
 rintro e w1 ⟨rfl,hbad,hb1,hsz⟩
 obtain ⟨cb,hcb⟩:∃ cb,z13=cb:=⟨_,rfl⟩
 have HCB:=Lib.hid hcb
 have hbs:cb.size=24:=by rw [<- hcb];rfl
 have hr1:=(hb1.block _ (head_row HB0.out).lt).trans HB0.out
 have HT1:=Lib.hid (show w1.there w.heap.size 0 cb.size from by rw [hbs];exact there_of hr1 rfl)
 have HI1:=Lib.hid (show (Tryz.prog.info? PT13).map (·.size)=some cb.size from by rw [hbs];kernel_rfl)
 have HO1:=Lib.hid (show cb.all (·.oneCell')=true from by rw [<- hcb];simp [Value.oneCell'])
 obtain ⟨W2,hW2⟩:∃ W2,w1.setCells w.heap.size 0 cb.toList=W2:=⟨_,rfl⟩
 have ho2:Only [w.heap.size] w1 W2:=by rw [<- hW2];exact only_setCells (by simp) _ _ _ _ (Only.refl _ _)
 have HB2:Hid (W2.heap[w.heap.size]? = some (.cells cb PT13 (0,0))):=Lib.hid (by rw [<- hW2];exact block_whole hr1 (by rw [hbs];rfl))
 have hl1:=HL0.out.trans (hb1.mono HL0.out.size)
 have HL2:=Lib.hid (hl1.trans (ho2.below (by simp) hl1.size))
 have HBD:Hid (BadAt W2 (w.heap.size+1+1) f k (.iface 57 (.int .i64 1))):=Lib.hid (by
  simp only [World.size_alloc] at hbad
  unfold BadAt at *
  exact (ho2.block _ (head_row hbad).lt (by simp;omega)).trans hbad)
 have HBS:=Lib.hid hbs
 clear hb1 KM HB0 HL0 ho2 hcb hbs hr1 hl1 hbad hsz
 go_wp2_with (refine wpList_store_mid rfl PT13 (.tmp 4) (.tmp 15) rfl w.heap.size 0 cb rfl (congrArg Value.agg HCB.out) HT1.out HI1.out HO1.out ?_)
 try rw [hW2]
 exact bodyPost_ret (v := .tuple #[.agg cb,_]) (results_one rfl rfl (range_of HB2.out) HBS.out) rfl ⟨_,by rw [HCB.out];rfl,HBD.out,HL2.out⟩
end
end Go.Proofs.YtcpggonengkgiaaGreatDoor
