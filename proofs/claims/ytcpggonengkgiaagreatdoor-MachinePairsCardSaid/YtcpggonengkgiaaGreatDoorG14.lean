/- Words and walks: S3E S3X. -/
import Derived.Test.YtcpggonengkgiaaGreatDoorG13
import Derived.Deep.RegionHeld3
import Derived.Deep.RegionWith
import Derived.Deep.DeepCutAuto
namespace Go.Proofs.YtcpggonengkgiaaGreatDoor
open Go Go.RowKit Go.Deep
set_option maxRecDepth 8000
theorem low_one_le (w:World) (o:Obj) {B:Nat} (h:B<=w.heap.size):Below B w (w.alloc o):=(Below.refl _ _).alloc h o
section
variable {w0 w wa wb:World} {sm mn:List It} {va vb:Value}
abbrev zL10:Array Value:=#[.int .i64 0,.slice none 0 0,.slice none 0 0,.slice none 0 0,.slice none 0 0]
theorem ev_rows {Bb:Nat} (hw:Below w.heap.size w wb) (ha:IV wa va sm) (hab:Below wa.heap.size wa wb) (hb:wb.ownsRow Bb QTI10 2 vb mn.length (itL mn)) (hB:wa.heap.size<=Bb) (hw2:w.heap.size<=Bb):Lr w wb sm mn [] [] va vb (.slice none 0 0) (.slice none 0 0) :=
 ⟨ha.below hab,OwnI.iq ⟨hw,own_low hb hw2⟩,KO.nil hw,KO.nil hw,Off.of_lt ha (by decide) hb hB,Off.nil _,Off.nil _,.inl rfl⟩
def EvC (w:World) (t:Nat) (sm mn:List It) (v:Value) (wx:World):Prop:=∃ (P:Nat) (F1:Option Addr) (n1 c1:Nat) (F2:Option Addr) (n2 c2:Nat),v = .pointer (some ⟨P,0,none⟩)/\Lr w wx sm mn [] [] (.slice F1 n1 c1) (.slice F2 n2 c2) (.slice none 0 0) (.slice none 0 0)/\Bl w wx P t (.slice F1 n1 c1) (.slice F2 n2 c2) (.slice none 0 0) (.slice none 0 0)
theorem evc_b {t:Nat} {F1 F2:Option Addr} {n1 c1 n2 c2:Nat} (h:Lr w wb sm mn [] [] (.slice F1 n1 c1) (.slice F2 n2 c2) (.slice none 0 0) (.slice none 0 0)):EvC w t sm mn (.pointer (some ⟨wb.heap.size,0,none⟩)) (wb.alloc (.cells (leC t (.slice F1 n1 c1) (.slice F2 n2 c2) (.slice none 0 0) (.slice none 0 0)) LT10)) :=
 ⟨_,_,_,_,_,_,_,rfl,h.below (low_one _ _),h.low.size,heap_alloc_new wb _⟩
theorem evc_a {t P:Nat} {F1 F2:Option Addr} {n1 c1 n2 c2:Nat} (h:Lr w wb sm mn [] [] (.slice F1 n1 c1) (.slice F2 n2 c2) (.slice none 0 0) (.slice none 0 0)) (hP:wb.heap[P]? = some (.cells zL10 LT10 (0,0))) (hge:w.heap.size<=P) :
  EvC w t sm mn (.pointer (some ⟨P,0,none⟩)) (((((wb.setCell ⟨P,0,none⟩ (.int .i64 (t:Nat))).setCell ⟨P,1,none⟩ (.slice F1 n1 c1)).setCell ⟨P,2,none⟩ (.slice F2 n2 c2)).setCell ⟨P,3,none⟩ (.slice none 0 0)).setCell ⟨P,4,none⟩ (.slice none 0 0)):=by
 obtain ⟨h1,h2⟩:=c5_set hP (.int .i64 (t:Nat)) (.slice F1 n1 c1) (.slice F2 n2 c2) (.slice none 0 0) (.slice none 0 0)
 exact ⟨_,_,_,_,_,_,_,rfl,h.only_b hge hP rfl h2,hge,h1⟩
end
section
variable {wA w:World} {s:L10} {u1 u2 u3:Value} {b r:Nat}
structure Eq10 (w wr:World) (s σ:L10) (N m P t:Nat) (ev gh:List Nat) (v1 v2 v3 v4:Value):Prop where
 rows:Lr w wr σ.small σ.main.reverse ev gh v1 v2 v3 v4
 box:Bl w wr P t v1 v2 v3 v4
 ep:Ep s N m σ ev gh
def EvP (wA:World) (b r:Nat) (s:L10) (N:Nat) (e:Ending) (w':World):Prop:=∃ o v1 v2 v3,e = .returned o/\Bx10 wA w' PT10 b r (s.shr N).fall v1 v2 v3/\KV w' o (s.shrOut N)
set_option maxHeartbeats 4000000 in
set_option maxRecDepth 8000 in
theorem evict10_walk (hX:Bx10 wA w PT10 b r s u1 u2 u3) (fine:s.Fine) (ht:s.total<=1048576) (hg:s.ghost.length<=2000000) (hc1:1<=s.c) (hc:s.c<=1048576) (N:Nat) (hN:N<=1048576) :
  Calls Tryz.prog 178 #[.pointer (some ⟨b,0,none⟩),.int .i64 (N:Nat)] w (EvP wA b r s N):=by
 obtain ⟨F1,n1,d1,rfl⟩:=hX.st.form1
 obtain ⟨F2,n2,d2,rfl⟩:=hX.st.form2
 obtain ⟨F3,n3,d3,rfl⟩:=hX.st.form3
 have htt:s.small.length+s.main.length<=1048576:=ht
 have HX:=Lib.hid hX
 have hbb:=(head_row hX.bo.box).lt
 have HFI:=Lib.hid fine
 have HTG:=Lib.hid (And.intro ht hg)
 have HCC:=Lib.hid (And.intro hc1 hc)
 have HEP:Hid (Ep s N (s.total - N) s [] []):=Lib.hid (Ep.start fine ht N)
 obtain ⟨q,hq⟩:∃ q,tgt s.c=q:=⟨_,rfl⟩
 have HQ:=Lib.hid hq
 have HTA:=Lib.hid (fun W:World=>target10_walk (w:=W) s.c hc)
 rw [hq] at HTA
 obtain ⟨c,hce⟩:∃ c,s.c=c:=⟨_,rfl⟩
 have HCE:=Lib.hid hce
 rw [hce] at HTA
 have HCA:Hid (∀ W,Below w.heap.size w W->Calls Tryz.prog 262 #[.slice F1 n1 d1] W (RetI W s.small)):=Lib.hid (fun W hb=>copyI_walk (HX.out.step hb).st.g1 (by omega))
 have HCB:Hid (∀ W,Below w.heap.size w W->Calls Tryz.prog 262 #[.slice F2 n2 d2] W (RetI W s.main)):=Lib.hid (fun W hb=>copyI_walk (HX.out.step hb).st.g2 (by omega))
 have HSS:Hid (∀ w':World,(∀ k,k < w.heap.size->w'.heap[k]? = w.heap[k]?)->w'.cell? ⟨b,0,none⟩=some (.int .i64 (c:Nat))/\w'.cell? ⟨b,1,none⟩=some (.slice F1 n1 d1)/\w'.cell? ⟨b,2,none⟩=some (.slice F2 n2 d2)):=Lib.hid (fun w' hh=>by
  obtain ⟨⟨x0,x1,x2,x3⟩,_⟩:=c4_at ((hh b (head_row hX.bo.box).lt).trans hX.bo.box)
  rw [hce] at x0
  exact ⟨x0,x1,x2⟩)
 obtain ⟨x0,x1,x2⟩:=HSS.out w (fun _ _=>rfl)
 have hNI:(N:Int)<=1048576:=by omega
 clear hX fine ht hg hc1 hc hq hce htt
 go_enter Tryz.func178,Tryz.ntmps178
 go_wp2_with fail
 go_cut [5] (fun s5 wx=>EvC w q s.small s.main s5 wx)
 case first =>
  go_region_held3 (fun w'=>w'.cell? ⟨b,0,none⟩=some (.int .i64 (c:Nat))/\w'.cell? ⟨b,1,none⟩=some (.slice F1 n1 d1)/\w'.cell? ⟨b,2,none⟩=some (.slice F2 n2 d2))
   (first | with_reducible exact kkb | with_reducible exact KK1 _ (c5_set hPb _ _ _ _ _).2 | with_reducible exact kka | go_keep)
   (first
    | (go_at_call 262;refine (HCB.out _ (hbA.trans (low_one_le wa (.cells zL10 LT10) hbA.size))).mono ?_;rintro e wb ⟨vb,rfl,hb⟩;obtain ⟨Fb,nb,db,rfl⟩:=hb.iv.form;have hbB:=(hbA.trans (low_one_le wa (.cells zL10 LT10) hbA.size)).trans (hb.low.mono (by have:=hbA.size;simp;omega));have hPb:=(hb.low.block wa.heap.size (by simp)).trans (heap_alloc_new wa _);have kkb:=HSS.out wb (fun k hk=>hbB.block k hk);obtain ⟨⟨z0,z1,z2,z3,z4⟩,zf0,zf1,zf2,zf3,zf4⟩:=c5_at hPb;have hPl:=(head_row hPb).lt;have KK1:=fun (W:World) (ho:Only [wa.heap.size] wb W)=>HSS.out W (fun k hk=>(ho.block k (Nat.lt_of_lt_of_le hk hbB.size) (by have:=hbA.size;simp;omega)).trans (hbB.block k hk)))
    | (go_at_call 262;refine (HCB.out wa hbA).mono ?_;rintro e wb ⟨vb,rfl,hb⟩;obtain ⟨Fb,nb,db,rfl⟩:=hb.iv.form;have hbB:=hbA.trans (hb.low.mono hbA.size);have hPb:=(hb.low.block w.heap.size (head_row hPa).lt).trans hPa;have kkb:=HSS.out wb (fun k hk=>hbB.block k hk);obtain ⟨⟨z0,z1,z2,z3,z4⟩,zf0,zf1,zf2,zf3,zf4⟩:=c5_at hPb;have hPl:=(head_row hPb).lt;have KK1:=fun (W:World) (ho:Only [w.heap.size] wb W)=>HSS.out W (fun k hk=>(ho.block k (Nat.lt_of_lt_of_le hk hbB.size) (by simp;omega)).trans (hbB.block k hk)))
    | (go_at_call 262;refine (HCB.out wa hbA).mono ?_;rintro e wb ⟨vb,rfl,hb⟩;obtain ⟨Fb,nb,db,rfl⟩:=hb.iv.form;have hbB:=hbA.trans (hb.low.mono hbA.size);have kkb:=HSS.out wb (fun k hk=>hbB.block k hk))
    | (go_at_call 262;refine (HCA.out _ (below_drewn (low_one w (.cells zL10 LT10)) _)).mono ?_;rintro e wa ⟨va,rfl,ha⟩;obtain ⟨Fa,na,da,rfl⟩:=ha.iv.form;have hbA:=(below_drewn (low_one w (.cells zL10 LT10)) _).trans (ha.low.mono (by simp));have hPa:=(ha.low.block w.heap.size (by simp)).trans (heap_alloc_new w (.cells zL10 LT10));have kka:=HSS.out wa (fun k hk=>hbA.block k hk))
    | (go_at_call 262;refine (HCA.out _ (below_drewn (Below.refl _ _) _)).mono ?_;rintro e wa ⟨va,rfl,ha⟩;obtain ⟨Fa,na,da,rfl⟩:=ha.iv.form;have hbA:=(below_drewn (Below.refl w.heap.size w) _).trans ha.low;have kka:=HSS.out wa (fun k hk=>hbA.block k hk))
    | (go_at_call 263;refine (HTA.out _).mono ?_;rintro e wt ⟨rfl,rfl⟩))
  all_goals
   go_wp2_with fail
   go_meet
   first
    | exact evc_a (ev_rows hbB ha.iv (hb.low.mono (Nat.le_refl _)) hb.own (Nat.le_refl _) hbA.size) hPb (Nat.le_refl _)
    | exact evc_a (ev_rows hbB ha.iv ((low_one wa (.cells zL10 LT10)).trans (hb.low.mono (by simp))) hb.own (by simp) (by have:=hbA.size;simp;omega)) hPb hbA.size
    | exact evc_b (ev_rows hbB ha.iv (hb.low.mono (Nat.le_refl _)) hb.own (Nat.le_refl _) hbA.size)
 case rest =>
  obtain ⟨P,Fa,na,ca,Fb,nb,cb,rfl,hl,hb⟩:=hcut
  have hna:na=s.small.length:=by
   obtain ⟨F,c',e,_⟩:=hl.sm.mem
   injection e
  have hnb:nb=s.main.length:=by
   obtain ⟨F,c',e,_⟩:=hl.mn.iv.mem
   injection e
  have hab:s.small.length+s.main.length<=1048576:=HTG.out.1
  have KR:=Lib.hid (revI_walk hl.mn hl.low.size (by omega))
  have HL:=Lib.hid hl
  have HB:=Lib.hid hb
  obtain ⟨⟨y0,y1,y2,y3,y4⟩,yf0,yf1,yf2,yf3,yf4⟩:=hb.cells
  have hpl:=hb.lt
  have hnaI:(na:Int)<=1048576:=by omega
  have hnbI:(nb:Int)<=1048576:=by omega
  have HNB:=Lib.hid (And.intro hna hnb)
  clear hna hnb hab hl hb HSS HCA HCB HTA x0 x1 x2 hbb
  go_wp2_with fail
  refine KR.out.mono ?_
  rintro e w2 ⟨rfl,hq2,hg2⟩
  have HL2:=Lib.hid (HL.out.app2 hq2 ⟨hg2,.inl rfl⟩)
  have HB2:=Lib.hid (HL.out.bl2 HB.out ⟨hg2,.inl rfl⟩)
  clear hq2 hg2 HL HB KR y0 y1 y2 y3 y4 yf0 yf1 yf2 yf3 yf4 hpl
  obtain ⟨⟨y0,y1,y2,y3,y4⟩,yf0,yf1,yf2,yf3,yf4⟩:=HB2.out.cells
  have hpl:=HB2.out.lt
  go_upto_region 3 with fail
  go_cut [34,35] (fun s34 s35 wx=>s34 = .int .i64 ((na:Int)+(nb:Int) - (N:Int))/\s35 = .int .i64 0/\wx=w2)
  case first =>
   by_cases hN0:N=0
   ·subst hN0
    go_wp2_with fail
    go_meet
    exact ⟨by simp,rfl,rfl⟩
   ·have hN1:(0:Int) < (N:Int):=by omega
    go_wp2_with fail
    go_meet
    exact ⟨rfl,rfl,rfl⟩
  case rest =>
   obtain ⟨rfl,rfl,rfl⟩:=hcut
   go_wp2_with fail
   generalize hGT:s.total - N=T at HEP ⊢
   have hTn:(T:Int)=(na:Int)+(nb:Int) - (N:Int)∨T=0/\(na:Int)+(nb:Int)<=(N:Int):=by have:s.total=s.small.length+s.main.length:=rfl;have:=HNB.out;omega
   clear hGT
   go_loopg [35] T (fun gg s35 wr=>∃ (i:Nat) (σ:L10) (ev gh:List Nat) (v1 v2 v3 v4:Value),i+gg=T/\s35 = .int .i64 (i:Nat)/\Hid (Eq10 w wr s σ N gg P q ev gh v1 v2 v3 v4))
   case atStart=>exact ⟨0,s,[],[],_,_,_,_,by omega,rfl,Lib.hid ⟨HL2.out,HB2.out,HEP.out⟩⟩
   case round =>
    clear HL2 HB2 HEP y0 y1 y2 y3 y4 yf0 yf1 yf2 yf3 yf4 hpl
    obtain ⟨i,σ,ev,gh,v1,v2,v3,v4,hi,rfl,HI⟩:=hrel
    obtain ⟨G1,m1,e1,rfl⟩:=HI.out.rows.sm.form
    obtain ⟨G2,m2,e2,rfl⟩:=HI.out.rows.mn.frm
    obtain ⟨G3,m3,e3,rfl⟩:=HI.out.rows.ev.kv.form
    obtain ⟨G4,m4,e4,rfl⟩:=HI.out.rows.gh.kv.form
    obtain ⟨⟨y0,y1,y2,y3,y4⟩,yf0,yf1,yf2,yf3,yf4⟩:=HI.out.box.cells
    have hpl:=HI.out.box.lt
    have hlen:=HI.out.ep.len HFI.out HTG.out.1
    by_cases hlt:i < T
    ·have hltI:(i:Int) < (na:Int)+(nb:Int) - (N:Int):=by omega
     have KE:=Lib.hid (eone_walk HI.out.rows (by rw [HI.out.ep.c,HQ.out];exact HI.out.box) (by have:=HI.out.ep.m;omega) HI.out.ep.tot (by rw [HI.out.ep.c];exact HCC.out.2) (fun x hx=>HI.out.ep.fine.f x (List.mem_append_right _ hx)) (by omega) (by omega))
     have HEN:Hid (Ep s N (gk - 1) σ.evict.1 (ev ++ [σ.evict.2]) (gh ++ remL σ)):=Lib.hid (by
      have h:=HI.out.ep
      rw [show gk=gk - 1+1 by omega] at h
      exact h.next)
     have HEC:=Lib.hid HI.out.ep.c
     clear HI hlt
     go_wp2_with fail
     refine KE.out.mono ?_
     rintro e w5 ⟨v1',v2',v3',v4',rfl,hl5,hb5⟩
     rw [HEC.out,HQ.out] at hb5
     have HNX:Hid (Eq10 w w5 s σ.evict.1 N (gk - 1) P q (ev ++ [σ.evict.2]) (gh ++ remL σ) v1' v2' v3' v4'):=Lib.hid ⟨hl5,hb5,HEN.out⟩
     clear hl5 hb5 HEN HEC KE y0 y1 y2 y3 y4 yf0 yf1 yf2 yf3 yf4 hpl hlen
     go_wp2
     go_roundg (gk - 1)
     case measure=>omega
     case rel=>exact ⟨i+1,σ.evict.1,_,_,_,_,_,_,by omega,by go_num,HNX⟩
    ·have hltI:¬ (i:Int) < (na:Int)+(nb:Int) - (N:Int):=by omega
     have HFIN:Hid ((s.shr N).fall=⟨s.c,σ.small,σ.main,(gh.reverse ++ s.ghost).take (room s.c)⟩/\s.shrOut N=ev):=Lib.hid (by
      have h:=HI.out.ep
      rw [show gk=0 by omega] at h
      exact ⟨h.fin.2.2,h.fin.2.1.symm⟩)
     have HLE:=Lib.hid hlen
     have hml:σ.main.reverse.length<=100000000:=by
      have h1:σ.small.length+σ.main.length<=1048576:=HI.out.ep.tot
      rw [List.length_reverse]
      omega
     have KR:=Lib.hid (revI_walk HI.out.rows.mn HI.out.rows.low.size hml)
     rw [List.reverse_reverse] at KR
     clear hlen hml hlt
     go_wp2_with fail
     refine KR.out.mono ?_
     rintro e w6 ⟨rfl,hq6,hg6⟩
     have hl6:=HI.out.rows.app2 hq6 ⟨hg6,.inl rfl⟩
     have hb6:=HI.out.rows.bl2 HI.out.box ⟨hg6,.inl rfl⟩
     have HL6:=Lib.hid hl6
     have HB6:=Lib.hid hb6
     clear hq6 hg6 hl6 hb6 HI KR y0 y1 y2 y3 y4 yf0 yf1 yf2 yf3 yf4 hpl
     obtain ⟨⟨y0,y1,y2,y3,y4⟩,yf0,yf1,yf2,yf3,yf4⟩:=HB6.out.cells
     have hpl:=HB6.out.lt
     have KG:=Lib.hid (revK_walk HL6.out.gh HL6.out.low.size (by have:=HLE.out.2;omega))
     go_wp2_with fail
     refine KG.out.mono ?_
     rintro e w7 ⟨rfl,hq7,hg7⟩
     have hl7:=HL6.out.app4 hq7 ⟨hg7,.inl rfl⟩
     have hb7:=HL6.out.gh.bl HB6.out ⟨hg7,.inl rfl⟩
     have hxq:=HX.out.step hl7.low
     have hne:b≠P:=by have:=hb7.ge;have:=(head_row HX.out.bo.box).lt;omega
     have hne2:P≠b:=fun e=>hne e.symm
     clear y0 y1 y2 y3 y4 yf0 yf1 yf2 yf3 yf4 hpl HL6 HB6 KG
     obtain ⟨⟨y0,y1,y2,y3,y4⟩,yf0,yf1,yf2,yf3,yf4⟩:=hb7.cells
     have hpl:=hb7.lt
     obtain ⟨⟨x0,x1,x2,x3⟩,xf0,xf1,xf2,xf3⟩:=c4_at hxq.bo.box
     have hbb:=(head_row hxq.bo.box).lt
     have hx1:=hxq.set1 hl7.sm
     have hx2:=hx1.set2 (hxq.bo.iv ((Only.refl _ _).setCell (by simp) _) hl7.mn.iv)
     have hk3:=hx1.kv (i:=2) (x:=(.slice G2 m2 e2)) (hxq.kv (i:=1) (x:=(.slice G1 m1 e1)) hl7.ev.kv)
     have hk4:=hx1.kv (i:=2) (x:=(.slice G2 m2 e2)) (hxq.kv (i:=1) (x:=(.slice G1 m1 e1)) hl7.gh.kv)
     have hP7:((w7.setCell ⟨b,1,none⟩ (.slice G1 m1 e1)).setCell ⟨b,2,none⟩ (.slice G2 m2 e2)).heap[P]? = some (.cells (leC q (.slice G1 m1 e1) (.slice G2 m2 e2) (.slice G3 m3 e3) (.slice G4 m4 e4)) LT10 (0,0)):=(Below.heap_setCell _ _ _ _ hne2).trans ((Below.heap_setCell _ _ _ _ hne2).trans hb7.at_)
     have HX2:=Lib.hid hx2
     have HK3:=Lib.hid hk3
     have HK4:=Lib.hid hk4
     have HP7:=Lib.hid hP7
     clear hq7 hg7 hl7 hb7 hxq hx1 hx2 hk3 hk4 hP7 HX
     go_upto_region 10 with fail
     generalize (w7.setCell ⟨b,1,none⟩ (.slice G1 m1 e1)).setCell ⟨b,2,none⟩ (.slice G2 m2 e2)=W at HX2 HK3 HK4 HP7 ⊢
     clear y0 y1 y2 y3 y4 yf0 yf1 yf2 yf3 yf4 hpl x0 x1 x2 x3 xf0 xf1 xf2 xf3 hbb
     have HSX:Hid (∀ w':World,Below W.heap.size W w'->w'.cell? ⟨b,0,none⟩=some (.int .i64 (s.c:Nat))/\w'.cell? ⟨b,3,none⟩=some (.slice F3 n3 d3)/\w'.cell? ⟨P,4,none⟩=some (.slice G4 m4 e4)/\w'.frozen? ⟨b,3,none⟩=false/\b < w'.heap.size):=Lib.hid (fun w' hb=>by
      obtain ⟨⟨x0,x1,x2,x3⟩,xf0,xf1,xf2,xf3⟩:=c4_at (HX2.out.step hb).bo.box
      obtain ⟨⟨y0,y1,y2,y3,y4⟩,_⟩:=c5_at ((hb.block P (head_row HP7.out).lt).trans HP7.out)
      exact ⟨x0,x3,y4,xf3,(head_row (HX2.out.step hb).bo.box).lt⟩)
     obtain ⟨x0,x3,y4,xf3,hbb⟩:=HSX.out W (Below.refl _ _)
     have hpl:=(head_row HP7.out).lt
     have hfl:[gh.reverse,s.ghost].flatten=gh.reverse ++ s.ghost:=by simp
     have hll:(gh.reverse ++ s.ghost).length<=100000000:=by
      have h1:=HLE.out.2
      have h2:=HTG.out.2
      rw [List.length_append,List.length_reverse]
      omega
     have HC:Hid (∀ (W:World) (v:Value),KVV W v [gh.reverse,s.ghost]->Calls Tryz.prog 162 #[v] W (OwnK W (gh.reverse ++ s.ghost))):=Lib.hid (fun W v hv=>by
      have h:=concat_walk hv (by simp) (by rw [hfl];exact hll)
      rw [hfl] at h
      exact h)
     have HV:=Lib.hid (KVV.two HK4.out HX2.out.st.g3 25)
     obtain ⟨R,hR⟩:∃ R,room s.c=R:=⟨_,rfl⟩
     have KRM:=Lib.hid (fun W:World=>room10_walk (w:=W) s.c HCC.out.2 HCC.out.1)
     have hRI:R<=1048576:=by have:=room_le s.c;have:=HCC.out.2;omega
     rw [hR] at KRM HFIN
     have HHL:=Lib.hid hll
     clear hR hfl hll HLE HTG HCC HFI HQ
     obtain ⟨ys,hys⟩:∃ ys,gh.reverse ++ s.ghost=ys:=⟨_,rfl⟩
     rw [hys] at HC HFIN HHL
     clear hys
     go_wp2_with fail
     go_cut [] (fun wx=>∃ Fg ng dg,Bx10 wA wx PT10 b r ⟨s.c,σ.small,σ.main,ys.take R⟩ (.slice G1 m1 e1) (.slice G2 m2 e2) (.slice Fg ng dg)/\KV wx (.slice G3 m3 e3) ev/\wx.heap[P]? = some (.cells (leC q (.slice G1 m1 e1) (.slice G2 m2 e2) (.slice G3 m3 e3) (.slice G4 m4 e4)) LT10 (0,0)))
     case first =>
      go_region_law
       (first
        | (go_simp;go_at_call 162;refine (HC.out _ _ (HV.out.below (below_drewn (Below.refl _ _) _))).mono ?_;rintro e wp ⟨vp,rfl,ha⟩;have hba:=(below_drewn (low_one W (.cells #[(.slice G4 m4 e4),.slice F3 n3 d3] 25)) _).trans (ha.low.mono (by simp));obtain ⟨kk0,kk1,kk2,kk3,kk4⟩:=HSX.out wp hba)
        | (go_simp;go_at_call 267;refine (KRM.out _).mono ?_;rintro e wk ⟨rfl,rfl⟩)
        | (go_simp;go_at_call 255;refine (fall_walk ha.kv HHL.out (R:Nat) (by omega) (by omega)).mono ?_;rintro e wq ⟨vq1,vq2,rfl,hbq,hkq1,hkq2⟩;obtain ⟨Fg,ng,dg,rfl⟩:=hkq2.form;have hbq2:=hba.trans (hbq.mono hba.size);obtain ⟨qq0,qq1,qq2,qq3,qq4⟩:=HSX.out wq hbq2))
      all_goals
       go_wp2_with fail
       go_meet
       rw [Int.toNat_natCast] at hkq2
       exact ⟨_,_,_,(HX2.out.step hbq2).set3 hkq2,(HX2.out.step hbq2).kv (HK3.out.below hbq2),(Below.heap_setCell _ _ _ _ hne2).trans ((hbq2.block P (head_row HP7.out).lt).trans HP7.out)⟩
     case rest =>
      obtain ⟨Fg,ng,dg,hxz,hkz,hpz⟩:=hcut
      have HF:=Lib.hid (And.intro hxz hkz)
      obtain ⟨⟨z0,z1,z2,z3,z4⟩,_⟩:=c5_at hpz
      clear hxz hkz hpz HX2 HK3 HK4 HP7 HSX HC HV KRM x0 x3 y4 xf3 hbb hpl
      go_wp2
      go_ret
      refine ⟨(.slice G3 m3 e3),(.slice G1 m1 e1),(.slice G2 m2 e2),.slice Fg ng dg,rfl,?_,?_⟩
      ·rw [HFIN.out.1]
       exact HF.out.1
      ·rw [HFIN.out.2]
       exact HF.out.2
end
set_option maxRecDepth 8000
section
variable {w:World} {u1 u2 u3:Value} {s:L10}
set_option maxHeartbeats 1000000 in
theorem p10admit_walk (hs:St10 w s u1 u2 u3) (ok:s.Ok) (k:Nat):Calls Tryz.prog 80 #[.agg (l10C s.c u1 u2 u3),.int .u64 (k:Nat)] w (P10o w (s.adm k) (s.admitOut k)):=by
 obtain ⟨F1,n1,d1,rfl⟩:=hs.form1
 obtain ⟨F2,n2,d2,rfl⟩:=hs.form2
 obtain ⟨F3,n3,d3,rfl⟩:=hs.form3
 have HX0:=Lib.hid (Bx10.start w PT10 (by decide) hs)
 have KH:=Lib.hid (p10has_walk HX0.out.st ok k)
 have KW:=Lib.hid (fun (W:World) (hb:Below w.heap.size w W)=>owned10_walk (hs.below hb) ok)
 have hpos:=ok.pos
 have hcap:=ok.cap
 have hfin:=ok.fine.forget k
 have hfall:((s.forget k).shr (s.c - 1)).fall=(s.forget k).shr (s.c - 1):=by
  have h1:=L10.shr_ghost hfin (s.c - 1) (G:=room s.c) (Nat.le_refl _) (Nat.le_trans (wo_len k s.ghost) ok.glen)
  have h2:=L10.shr_c hfin (s.c - 1)
  unfold L10.fall
  rw [List.take_of_length_le (by rw [h2];exact h1)]
 have HCC:Hid (((s.forget k).shr (s.c - 1)).c=s.c):=Lib.hid (L10.shr_c hfin _)
 have HTT:Hid (((s.forget k).shr (s.c - 1)).total<=1048576):=Lib.hid (by
  have h1:=L10.shr_total hfin (s.c - 1)
  have h2:=ok.len
  have h3:(s.forget k).total=s.total:=rfl
  omega)
 have HCL:Hid (∀ (W:World) (b r:Nat) (v1 v2 v3:Value),Bx10 w W PT10 b r (s.forget k) v1 v2 v3->Calls Tryz.prog 178 #[.pointer (some ⟨b,0,none⟩),.int .i64 ((s.c - 1:Nat):Int)] W fun e w'=>∃ o v1 v2 v3,e = .returned o/\Bx10 w w' PT10 b r ((s.forget k).shr (s.c - 1)) v1 v2 v3/\KV w' o ((s.forget k).shrOut (s.c - 1))):=Lib.hid (fun W b r v1 v2 v3 h=>by
  have hl:=ok.len
  have ho:=ok.glen
  have hw:=wo_len k s.ghost
  have hr:=room_le s.c
  have h2:=evict10_walk h hfin (by show s.total<=_;omega) (by show (wo k s.ghost).length<=_;omega) hpos hcap (s.c - 1) (by omega)
  unfold EvP at h2
  rw [hfall] at h2
  exact h2)
 unfold L10.adm L10.admitOut
 have hol:=ok.len_ghost
 clear ok hs hfin hfall
 obtain ⟨b,hb⟩:∃ b,decide (k∈s.ghost)=b:=⟨_,rfl⟩
 have HBO:=Lib.hid hb
 rw [hb]
 clear hb
 obtain ⟨c',hc'⟩:∃ c',s.c - 1=c':=⟨_,rfl⟩
 have hcI:(s.c:Int) - 1=(c':Int):=by omega
 rw [hc'] at HCL HCC HTT ⊢
 clear hc'
 have HLO:=Lib.hid HX0.out.bo.low
 generalize hW0:World.alloc _ (.cells z10 PT10)=W0 at HX0 KH HLO
 have HW0:=Lib.hid hW0
 clear hW0
 by_cases hin:k∈s.keys
 ·rw [if_pos hin,if_pos hin]
  rw [decide_eq_true hin] at KH
  clear hin HCL HCC HTT
  go_enter Tryz.func80,Tryz.ntmps80
  go_wp2_with fail
  rw [HW0.out]
  clear HW0
  refine KH.out.mono ?_
  rintro e w1 ⟨rfl,hb1⟩
  have HX1:=Lib.hid (HX0.out.step hb1)
  clear hb1 KH HX0
  obtain ⟨⟨x0,x1,x2,x3⟩,xf0,xf1,xf2,xf3⟩:=c4_at HX1.out.bo.box
  have hbb:=(head_row HX1.out.bo.box).lt
  have KOW:=Lib.hid (KW.out w1 HX1.out.bo.low)
  go_wp2_with fail
  refine KOW.out.mono ?_
  rintro e wc ⟨q1,q2,q3,he,hbc,hsc⟩
  obtain ⟨Fc1,nc1,dc1,rfl⟩:=hsc.form1
  obtain ⟨Fc2,nc2,dc2,rfl⟩:=hsc.form2
  obtain ⟨Fc3,nc3,dc3,rfl⟩:=hsc.form3
  have he':e = .returned (.agg (l10C s.c (.slice Fc1 nc1 dc1) (.slice Fc2 nc2 dc2) (.slice Fc3 nc3 dc3))):=he
  subst he'
  have hbo:=HX1.out.bo.step hbc
  obtain ⟨⟨y0,y1,y2,y3⟩,yf0,yf1,yf2,yf3⟩:=c4_at hbo.res
  have hrr:=(head_row hbo.res).lt
  have HB2:=Lib.hid hbo
  have HSC:=Lib.hid hsc
  clear hbo hsc hbc he KOW KW HX1 HLO x0 x1 x2 x3 xf0 xf1 xf2 xf3 hbb
  go_wp2
  have HO:Hid (Only [w.heap.size,w.heap.size+1] wc ((((wc.setCell ⟨w.heap.size+1,0,none⟩ (.int .i64 (s.c:Nat))).setCell ⟨w.heap.size+1,1,none⟩ (.slice Fc1 nc1 dc1)).setCell ⟨w.heap.size+1,2,none⟩ (.slice Fc2 nc2 dc2)).setCell ⟨w.heap.size+1,3,none⟩ (.slice Fc3 nc3 dc3))):=Lib.hid (((((Only.refl _ _).setCell (by simp) _).setCell (by simp) _).setCell (by simp) _).setCell (by simp) _)
  exact bodyPost_ret (v := .tuple #[.agg (l10C s.c (.slice Fc1 nc1 dc1) (.slice Fc2 nc2 dc2) (.slice Fc3 nc3 dc3)),.slice none 0 0]) (by simp [results,Tryz.results80,go_sem,y0,y1,y2,y3]) rfl ⟨_,_,_,_,rfl,HB2.out.fin HO.out,HB2.out.st10 HO.out HSC.out,KV.nil _⟩
 ·rw [if_neg hin,if_neg hin]
  rw [decide_eq_false hin] at KH
  clear hin KW
  go_enter Tryz.func80,Tryz.ntmps80
  go_wp2_with fail
  rw [HW0.out]
  clear HW0
  refine KH.out.mono ?_
  rintro e w1 ⟨rfl,hb1⟩
  have HX1:=Lib.hid (HX0.out.step hb1)
  clear hb1 KH HX0
  obtain ⟨⟨x0,x1,x2,x3⟩,xf0,xf1,xf2,xf3⟩:=c4_at HX1.out.bo.box
  have hbb:=(head_row HX1.out.bo.box).lt
  have KH2:=Lib.hid (has_walk HX1.out.st.g3 hol k)
  rw [HBO.out] at KH2
  have KF:=Lib.hid (without_walk HX1.out.st.g3 hol k)
  clear HBO HLO
  go_wp2_with fail
  refine KH2.out.mono ?_
  rintro e w2b ⟨rfl,rfl⟩
  clear KH2
  go_wp2_with fail
  refine KF.out.mono ?_
  rintro e va ⟨oa,rfl,ha⟩
  obtain ⟨Fa,na,da,rfl⟩:=ha.kv.form
  have hxa:=HX1.out.step ha.low
  clear x0 x1 x2 x3 xf0 xf1 xf2 xf3 hbb
  obtain ⟨⟨x0,x1,x2,x3⟩,xf0,xf1,xf2,xf3⟩:=c4_at hxa.bo.box
  have hbb:=(head_row hxa.bo.box).lt
  have hya:=hxa.set3 ha.kv
  generalize hWa:va.setCell ⟨w.heap.size,3,none⟩ (.slice Fa na da)=wa at hya
  have HWa:=Lib.hid hWa
  have HXa:=Lib.hid hya
  clear ha hWa hxa hya HX1 KF
  have HFA:Hid (Bx10 w wa PT10 w.heap.size (w.heap.size+1) (s.forget k) (.slice F1 n1 d1) (.slice F2 n2 d2) (.slice Fa na da)):=HXa
  have KC:=Lib.hid (HCL.out wa _ _ _ _ _ HFA.out)
  clear HXa
  go_wp2_with fail
  rw [HWa.out]
  clear HWa
  refine KC.out.mono ?_
  rintro e w4 ⟨ob,v1,v2,v3,rfl,hx4,ho4⟩
  obtain ⟨Fp1,np1,dp1,rfl⟩:=hx4.st.form1
  obtain ⟨Fp2,np2,dp2,rfl⟩:=hx4.st.form2
  obtain ⟨Fp3,np3,dp3,rfl⟩:=hx4.st.form3
  have hcc:=HCC.out
  have htt:=HTT.out
  clear x0 x1 x2 x3 xf0 xf1 xf2 xf3 hbb KC HCC HTT HCL HFA
  generalize (s.forget k).shr c'=t at *
  generalize (s.forget k).shrOut c'=out at *
  obtain ⟨tc,ti,tm,tg⟩:=t
  obtain rfl:tc=s.c:=hcc
  have HTL:Hid (ti.length+tm.length<=1048576):=Lib.hid htt
  have HXp:=Lib.hid hx4
  have HOB:=Lib.hid ho4
  obtain ⟨⟨x0,x1,x2,x3⟩,xf0,xf1,xf2,xf3⟩:=c4_at hx4.bo.box
  dsimp only at x0
  have hbb:=(head_row hx4.bo.box).lt
  clear hx4 ho4 htt
  cases b
  ·have KR:=Lib.hid (frontI_walk HXp.out.st.g1 (by have h:ti.length+tm.length<=1048576:=HTL.out;show ti.length<=100000000;omega) k)
   go_wp2_with fail
   refine KR.out.mono ?_
   rintro e vf ⟨of,rfl,hf⟩
   obtain ⟨Ff,nf,df,rfl⟩:=hf.iv.form
   have hxf:=HXp.out.step hf.low
   clear x0 x1 x2 x3 xf0 xf1 xf2 xf3 hbb
   obtain ⟨⟨x0,x1,x2,x3⟩,xf0,xf1,xf2,xf3⟩:=c4_at hxf.bo.box
   have hbb:=(head_row hxf.bo.box).lt
   have hyf:=hxf.set1 hf.iv
   have HOF:=Lib.hid (hxf.kv (i:=1) (x := .slice Ff nf df) (HOB.out.below hf.low))
   obtain ⟨⟨y0,y1,y2,y3⟩,yf0,yf1,yf2,yf3⟩:=c4_at hxf.bo.res
   have hrr:=(head_row hxf.bo.res).lt
   have HXf:=Lib.hid hyf
   clear hf hxf hyf HXp KR HOB
   have hd:=HXf.out.doneo HOF.out
   have HD:=Lib.hid hd
   clear hd HXf HOF
   go_wp2
   exact bodyPost_ret (v := .tuple #[.agg (l10C s.c (.slice Ff nf df) (.slice Fp2 np2 dp2) (.slice Fp3 np3 dp3)),ob]) (by simp [results,Tryz.results80,go_sem,y0,y1,y2,y3]) rfl HD.out
  ·have KR:=Lib.hid (frontI_walk HXp.out.st.g2 (by have h:ti.length+tm.length<=1048576:=HTL.out;show tm.length<=100000000;omega) k)
   go_wp2_with fail
   refine KR.out.mono ?_
   rintro e vf ⟨of,rfl,hf⟩
   obtain ⟨Ff,nf,df,rfl⟩:=hf.iv.form
   have hxf:=HXp.out.step hf.low
   clear x0 x1 x2 x3 xf0 xf1 xf2 xf3 hbb
   obtain ⟨⟨x0,x1,x2,x3⟩,xf0,xf1,xf2,xf3⟩:=c4_at hxf.bo.box
   have hbb:=(head_row hxf.bo.box).lt
   have hyf:=hxf.set2 hf.iv
   have HOF:=Lib.hid (hxf.kv (i:=2) (x := .slice Ff nf df) (HOB.out.below hf.low))
   obtain ⟨⟨y0,y1,y2,y3⟩,yf0,yf1,yf2,yf3⟩:=c4_at hxf.bo.res
   have hrr:=(head_row hxf.bo.res).lt
   have HXf:=Lib.hid hyf
   clear hf hxf hyf HXp KR HOB
   have hd:=HXf.out.doneo HOF.out
   have HD:=Lib.hid hd
   clear hd HXf HOF
   go_wp2
   exact bodyPost_ret (v := .tuple #[.agg (l10C s.c (.slice Fp1 np1 dp1) (.slice Ff nf df) (.slice Fp3 np3 dp3)),ob]) (by simp [results,Tryz.results80,go_sem,y0,y1,y2,y3]) rfl HD.out
set_option maxHeartbeats 1000000 in
theorem p10resize_walk (hs:St10 w s u1 u2 u3) (ok:s.Ok) (n:Int) (hn1 : -9223372036854775808<=n) (hn2:n<=9223372036854775807):Calls Tryz.prog 82 #[.agg (l10C s.c u1 u2 u3),.int .i64 n] w (P10o w (s.resize n) (s.resizeOut n)):=by
 obtain ⟨F1,n1,d1,rfl⟩:=hs.form1
 obtain ⟨F2,n2,d2,rfl⟩:=hs.form2
 obtain ⟨F3,n3,d3,rfl⟩:=hs.form3
 have HX0:=Lib.hid (Bx10.start w PT10 (by decide) hs)
 have KC:=Lib.hid (bounded10_walk (w:=(w.alloc (.cells (l10C s.c (.slice F1 n1 d1) (.slice F2 n2 d2) (.slice F3 n3 d3)) PT10)).alloc (.cells z10 PT10)) n hn1 hn2)
 have HCP:=Lib.hid (capI_pos n)
 unfold L10.resize L10.resizeOut
 obtain ⟨c',hc'⟩:∃ c',capI n=c':=⟨_,rfl⟩
 rw [hc'] at KC HCP ⊢
 have HCC:Hid (((s.sized c').shr c').fall.c=c'):=Lib.hid (L10.shr_c (ok.fine.sized c') c')
 have HCL:Hid (∀ (W:World) (b r:Nat) (v1 v2 v3:Value),Bx10 w W PT10 b r (s.sized c') v1 v2 v3->Calls Tryz.prog 178 #[.pointer (some ⟨b,0,none⟩),.int .i64 (c':Nat)] W fun e w'=>∃ o v1 v2 v3,e = .returned o/\Bx10 w w' PT10 b r ((s.sized c').shr c').fall v1 v2 v3/\KV w' o ((s.sized c').shrOut c')):=Lib.hid (fun W b r v1 v2 v3 h=>by
  have hl:=ok.len
  have ho:=ok.glen
  have hr:=room_le s.c
  have hcap:=ok.cap
  exact evict10_walk h (ok.fine.sized c') (by show s.total<=_;omega) (by show s.ghost.length<=_;omega) HCP.out.1 HCP.out.2 c' HCP.out.2)
 have hc2:=HCP.out.2
 clear ok hs hc' HCP
 generalize hW0:World.alloc _ (.cells z10 PT10)=W0 at HX0 KC
 have HW0:=Lib.hid hW0
 clear hW0
 go_enter Tryz.func82,Tryz.ntmps82
 go_wp2_with fail
 rw [HW0.out]
 clear HW0
 refine KC.out.mono ?_
 rintro e w1 ⟨rfl,rfl⟩
 obtain ⟨⟨x0,x1,x2,x3⟩,xf0,xf1,xf2,xf3⟩:=c4_at HX0.out.bo.box
 have hbb:=(head_row HX0.out.bo.box).lt
 have hy:=HX0.out.set0 c'
 generalize hWa:W0.setCell ⟨w.heap.size,0,none⟩ (.int .i64 (c':Nat))=wa at hy
 have HWa:=Lib.hid hWa
 have HFA:Hid (Bx10 w wa PT10 w.heap.size (w.heap.size+1) (s.sized c') (.slice F1 n1 d1) (.slice F2 n2 d2) (.slice F3 n3 d3)):=Lib.hid hy
 have KF:=Lib.hid (HCL.out wa _ _ _ _ _ HFA.out)
 clear hWa hy HX0 KC
 go_wp2_with fail
 rw [HWa.out]
 clear HWa
 refine KF.out.mono ?_
 rintro e w4 ⟨ob,v1,v2,v3,rfl,hx4,ho4⟩
 obtain ⟨Fp1,np1,dp1,rfl⟩:=hx4.st.form1
 obtain ⟨Fp2,np2,dp2,rfl⟩:=hx4.st.form2
 obtain ⟨Fp3,np3,dp3,rfl⟩:=hx4.st.form3
 have HD:=Lib.hid (hx4.doneo ho4)
 clear x0 x1 x2 x3 xf0 xf1 xf2 xf3 hbb KF
 obtain ⟨⟨x0,x1,x2,x3⟩,xf0,xf1,xf2,xf3⟩:=c4_at hx4.bo.box
 have hbb:=(head_row hx4.bo.box).lt
 obtain ⟨⟨y0,y1,y2,y3⟩,yf0,yf1,yf2,yf3⟩:=c4_at hx4.bo.res
 have hrr:=(head_row hx4.bo.res).lt
 rw [HCC.out] at x0 HD
 clear hx4 ho4
 go_wp2
 exact bodyPost_ret (v := .tuple #[.agg (l10C c' (.slice Fp1 np1 dp1) (.slice Fp2 np2 dp2) (.slice Fp3 np3 dp3)),ob]) (by simp [results,Tryz.results82,go_sem,y0,y1,y2,y3]) rfl HD.out
end
theorem pol10Ok:Pol10Ok where
 new:=fun _ n h1 h2=>p10new_walk n h1 h2
 touch:=fun hs ok k _=>p10touch_walk hs ok k
 adm:=fun hs ok k _=>p10admit_walk hs ok k
 drop:=fun hs ok k _=>p10drop_walk hs ok k
 resize:=fun hs ok n h1 h2=>p10resize_walk hs ok n h1 h2
 has:=fun hs ok k _=>p10has_walk hs ok k
 keys:=fun hs ok=>p10keys_walk hs ok
 ghosts:=fun hs ok=>p10ghosts_walk hs ok
end Go.Proofs.YtcpggonengkgiaaGreatDoor
