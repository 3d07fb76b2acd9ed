/- Words and walks: S3J. -/
import Derived.Test.YtcpggonengkgiaaGreatDoorG11
import Derived.Deep.DeepCutAuto
namespace Go.Proofs.YtcpggonengkgiaaGreatDoor
open Go Go.RowKit Go.Deep
set_option maxRecDepth 8000
section
variable {w0 w:World} {sm mn:List It} {ev gh:List Nat} {v1 v2 v3 v4:Value} {b t:Nat}
structure Em (w0 wr:World) (b t:Nat) (sm mn:List It) (ev gh:List Nat) (v1 v3 v4:Value) (M:List It) (v2:Value) (r:List It × Nat):Prop where
 rows:Lr w0 wr sm M ev gh v1 v2 v3 v4
 box:Bl w0 wr b t v1 v2 v3 v4
 len:M.length=mn.length
 f:∀ x∈M,x.f<=3
 fm:fm M.reverse=r
theorem Em.next {wr w':World} {v3 v4 v2':Value} {M:List It} {k m:Nat} {r:List It × Nat} (h:Em w0 wr b t sm mn ev gh v1 v3 v4 (⟨k,m+1⟩ :: M) v2 r) (hr:Lr w0 w' sm (M ++ [⟨k,m⟩]) ev gh v1 v2' v3 v4) (hb:Bl w0 w' b t v1 v2' v3 v4):Em w0 w' b t sm mn ev gh v1 v3 v4 (M ++ [⟨k,m⟩]) v2' r:=by
 refine ⟨hr,hb,?_,fun x hx=>?_,?_⟩
 ·rw [<- h.len]
  simp
 ·rcases List.mem_append.1 hx with hx | hx
  ·exact h.f x (List.mem_cons_of_mem _ hx)
  ·rw [List.mem_singleton] at hx
   subst hx
   have:m+1<=3:=h.f ⟨k,m+1⟩ (List.mem_cons_self ..)
   show m<=3
   omega
 ·rw [<- h.fm,List.reverse_cons,fm_snoc,if_neg (by show ¬ m+1=0;omega),List.reverse_append]
  rfl
def EmP (w0:World) (b t:Nat) (sm:List It) (ev gh:List Nat) (v1 v4:Value) (r:List It × Nat) (e:Ending) (w':World):Prop:=∃ v2' v3',e = .returned (.tuple #[])/\Lr w0 w' sm r.1.reverse (ev ++ [r.2]) gh v1 v2' v3' v4/\Bl w0 w' b t v1 v2' v3' v4
theorem Bl.far {P i:Nat} (h:Bl w0 w b t v1 v2 v3 v4) (hP:b≠P) (x:Value):Bl w0 (w.setCell ⟨P,i,none⟩ x) b t v1 v2 v3 v4:=⟨h.ge,(Below.heap_setCell _ _ _ _ hP).trans h.at_⟩
set_option maxHeartbeats 8000000 in
set_option maxRecDepth 8000 in
theorem emain_walk (hL:Lr w0 w sm mn ev gh v1 v2 v3 v4) (hB:Bl w0 w b t v1 v2 v3 v4) (hm:mn≠[]) (hl:mn.length<=100000000) (hel:ev.length<=100000000) (hf:∀ x∈mn,x.f<=3) :
  Calls Tryz.prog 298 #[.pointer (some ⟨b,0,none⟩)] w (EmP w0 b t sm ev gh v1 v4 (fm mn.reverse)):=by
 obtain ⟨F1,n1,c1,rfl⟩:=hL.sm.form
 obtain ⟨F3,n3,c3,rfl⟩:=hL.ev.kv.form
 obtain ⟨F4,n4,c4,rfl⟩:=hL.gh.kv.form
 obtain ⟨r,hr⟩:∃ r,fm mn.reverse=r:=⟨_,rfl⟩
 have HI0:Hid (Em w0 w b t sm mn ev gh (.slice F1 n1 c1) (.slice F3 n3 c3) (.slice F4 n4 c4) mn v2 r):=Lib.hid ⟨hL,hB,rfl,hf,hr⟩
 rw [hr]
 have HNE:=Lib.hid hm
 have HLL:=Lib.hid hl
 have HEL:=Lib.hid hel
 clear hL hB hm hl hf hr hel
 go_enter Tryz.func298,Tryz.ntmps298
 go_wp2_with fail
 go_loopg [] (mn.map It.f).sum (fun gg wr=>∃ (M:List It) (v2:Value),gg=(M.map It.f).sum/\Hid (M≠[])/\Hid (Em w0 wr b t sm mn ev gh (.slice F1 n1 c1) (.slice F3 n3 c3) (.slice F4 n4 c4) M v2 r))
 case atStart=>exact ⟨mn,v2,rfl,HNE,HI0⟩
 case round =>
  clear HI0
  obtain ⟨M,v2,hgg,hne,HI⟩:=hrel
  obtain ⟨x,M,rfl⟩:=List.exists_cons_of_ne_nil hne.out
  obtain ⟨F2,c2,rfl,hle,hF⟩:=HI.out.rows.mn.form
  obtain ⟨g,off,rfl⟩:=hF (by simp)
  rw [List.length_cons] at hle HI
  obtain ⟨n,hn⟩:∃ n,M.length=n:=⟨_,rfl⟩
  rw [hn] at hle HI
  have hln:n<=100000000:=by have:=HI.out.len;have:=HLL.out;simp at *;omega
  have HN:=Lib.hid hn
  clear hne hF hn
  obtain ⟨Fz,cz,ez,_,_,h3⟩:=HI.out.rows.mn.iv.mem
  injection ez with ez1 ez2 ez3
  obtain ⟨g',off',hF,hg,q0,q1⟩:=h3 0 (by simp)
  rw [<- ez1] at hF
  injection hF with hF
  injection hF with hF1 hF2
  subst hF1 hF2
  dsimp only [List.getElem_cons_zero] at q0 q1
  rw [Nat.zero_mul,Nat.add_zero] at q0 q1
  have hfx:x.f<=3:=HI.out.f x (List.mem_cons_self ..)
  clear h3 ez1 ez2 ez3
  obtain ⟨k,f⟩:=x
  dsimp only at q0 q1 hfx
  have hnI:(n:Int)<=100000000:=by omega
  have hposI:(0:Int) < (n:Int)+1:=by omega
  obtain ⟨⟨x0,x1,x2,x3,x4⟩,xf0,xf1,xf2,xf3,xf4⟩:=HI.out.box.cells
  have hbb:=HI.out.box.lt
  have hneP:b≠wr.heap.size:=by omega
  have hneP2:wr.heap.size≠b:=by omega
  by_cases hc1:c2=1
  ·subst hc1
   obtain rfl:n=0:=by omega
   have HLT:Hid (Lr w0 wr sm M ev gh (.slice F1 n1 c1) (.slice (some ⟨g,off,none⟩) 0 0) (.slice F3 n3 c3) (.slice F4 n4 c4)):=Lib.hid (by
    have h:=HI.out
    obtain rfl:M=[]:=List.length_eq_zero_iff.1 HN.out
    exact ⟨h.rows.sm,h.rows.mn.tail0,h.rows.ev,h.rows.gh,h.rows.o12,h.rows.o13,h.rows.o14,h.rows.o34⟩)
   have HO2:Hid (Only [b] wr ((wr.setCell ⟨b,2,none⟩ (.slice (some ⟨g,off,none⟩) 0 0)).alloc (.cells #[.int .u64 (k:Nat),.int .i64 (f:Nat)] QTI10))):=Lib.hid (((Only.refl _ _).setCell (by simp) _).alloc _)
   have HB2:Hid (Bl w0 ((wr.setCell ⟨b,2,none⟩ (.slice (some ⟨g,off,none⟩) 0 0)).alloc (.cells #[.int .u64 (k:Nat),.int .i64 (f:Nat)] QTI10)) b t (.slice F1 n1 c1) (.slice (some ⟨g,off,none⟩) 0 0) (.slice F3 n3 c3) (.slice F4 n4 c4)):=Lib.hid ((HI.out.box.put2 _).below (low_one _ _))
   have HP2:Hid (((wr.setCell ⟨b,2,none⟩ (.slice (some ⟨g,off,none⟩) 0 0)).alloc (.cells #[.int .u64 (k:Nat),.int .i64 (f:Nat)] QTI10)).heap[wr.heap.size]? = some (.cells #[.int .u64 (k:Nat),.int .i64 (f:Nat)] QTI10 (0,0))):=Lib.hid (by
    have h:=heap_alloc_new (wr.setCell ⟨b,2,none⟩ (.slice (some ⟨g,off,none⟩) 0 0)) (.cells #[.int .u64 (k:Nat),.int .i64 (f:Nat)] QTI10)
    simpa using h)
   go_upto_region 3 with fail
   generalize (wr.setCell ⟨b,2,none⟩ (.slice (some ⟨g,off,none⟩) 0 0)).alloc (.cells #[.int .u64 (k:Nat),.int .i64 (f:Nat)] QTI10)=W2 at HO2 HB2 HP2 ⊢
   clear x0 x1 x2 x3 x4 xf0 xf1 xf2 xf3 xf4 q0 q1 hg hbb
   obtain ⟨⟨x0,x1,x2,x3,x4⟩,xf0,xf1,xf2,xf3,xf4⟩:=HB2.out.cells
   have hbb:=HB2.out.lt
   obtain ⟨⟨p0,p1⟩,pf0,pf1⟩:=c2_at HP2.out
   have hpp:=(head_row HP2.out).lt
   have HOX:Hid (∀ x,Only [b] wr (W2.setCell ⟨wr.heap.size,1,none⟩ x)):=Lib.hid (fun x=>HO2.out.setCell (.inr (Nat.le_refl _)) x)
   generalize hP:wr.heap.size=P at *
   clear hP
   by_cases hf0:f=0
   ·subst hf0
    have HL2:Hid (Lr w0 W2 sm M ev gh (.slice F1 n1 c1) (.slice (some ⟨g,off,none⟩) 0 0) (.slice F3 n3 c3) (.slice F4 n4 c4)):=Lib.hid (HLT.out.only_b HI.out.box.ge HI.out.box.at_ rfl HO2.out)
    have HR:Hid (r=(M.reverse,k)):=Lib.hid (by rw [<- HI.out.fm,List.reverse_cons,fm_snoc,if_pos rfl])
    have HLA:Hid (Lr w0 (W2.alloc (.cells #[.int .u64 (k:Nat)] 56)).drew sm M ev gh (.slice F1 n1 c1) (.slice (some ⟨g,off,none⟩) 0 0) (.slice F3 n3 c3) (.slice F4 n4 c4)):=Lib.hid (HL2.out.below (below_drewn (low_one W2 (.cells #[.int .u64 (k:Nat)] 56)) 1))
    have HBA:Hid (Bl w0 (W2.alloc (.cells #[.int .u64 (k:Nat)] 56)).drew b t (.slice F1 n1 c1) (.slice (some ⟨g,off,none⟩) 0 0) (.slice F3 n3 c3) (.slice F4 n4 c4)):=Lib.hid (HB2.out.below (below_drewn (low_one W2 (.cells #[.int .u64 (k:Nat)] 56)) 1))
    have HSA:Hid (KV (W2.alloc (.cells #[.int .u64 (k:Nat)] 56)).drew (.slice (some ⟨W2.heap.size,0,none⟩) 1 1) [k]):=Lib.hid ((KV.one W2 k).drewn 1)
    clear HLT HI HO2 HP2 HL2 HB2 HOX
    go_wp2_with fail
    go_region_law
     (refine step_append_kq (by rfl) (.tmp 30) (.tmp 33) (by rfl) (by kernel_rfl) (by kernel_rfl) w0.heap.size _ ev (by rfl) HLA.out.ev HLA.out.low.size _ k (by rfl) HSA.out (by have:=HEL.out;omega) ?_;intro v6 w6 hq6 ha6;obtain ⟨F6,n6,c6,rfl⟩:=hq6.kv.form;have hb6:=HLA.out.ev.bl HBA.out ha6;obtain ⟨⟨kk0,kk1,kk2,kk3,kk4⟩,kf0,kf1,kf2,kf3,kf4⟩:=hb6.cells;have hlt6:=hb6.lt)
    all_goals
     have HF:Hid (Lr w0 (w6.setCell ⟨b,3,none⟩ (.slice F6 n6 c6)) sm M (ev ++ [k]) gh (.slice F1 n1 c1) (.slice (some ⟨g,off,none⟩) 0 0) (.slice F6 n6 c6) (.slice F4 n4 c4)/\Bl w0 (w6.setCell ⟨b,3,none⟩ (.slice F6 n6 c6)) b t (.slice F1 n1 c1) (.slice (some ⟨g,off,none⟩) 0 0) (.slice F6 n6 c6) (.slice F4 n4 c4)):=Lib.hid ⟨(HLA.out.app3 hq6 ha6).put hb6 3 _,hb6.put3 _⟩
     clear hq6 ha6 hb6 HLA HBA HSA x0 x1 x2 x3 x4 xf0 xf1 xf2 xf3 xf4
     go_wp2_with fail
     exact bodyPost_ret (v := .tuple #[]) (by simp [results,Tryz.results298,go_sem]) rfl ⟨_,_,rfl,by
      rw [HR.out]
      show Lr w0 _ sm M.reverse.reverse (ev ++ [k]) gh _ _ _ _
      rw [List.reverse_reverse]
      exact HF.out.1,by exact HF.out.2⟩
   ·rcases (by omega:f=1∨f=2∨f=3) with rfl | rfl | rfl
    ·have p1':W2.cell? ⟨P,1,none⟩=some (.int .i64 1):=p1
     have HB3:=Lib.hid (HB2.out.far (i:=1) hneP (.int .i64 0))
     have HP3:Hid ((W2.setCell ⟨P,1,none⟩ (.int .i64 0)).heap[P]? = some (.cells #[.int .u64 (k:Nat),.int .i64 0] QTI10 (0,0))):=Lib.hid (set_one HP2.out)
     have HL3:=Lib.hid (HLT.out.only_b HI.out.box.ge HI.out.box.at_ rfl (HOX.out (.int .i64 0)))
     have HSUM:Hid (((M ++ [(⟨k,0⟩:It)]).map It.f).sum < gk):=Lib.hid (by rw [hgg];simp <;> omega)
     clear p1 HLT HO2 HOX HP2 hgg
     go_upto_region 6 with fail
     generalize W2.setCell ⟨P,1,none⟩ (.int .i64 0)=W3 at HB3 HP3 HL3 ⊢
     clear x0 x1 x2 x3 x4 xf0 xf1 xf2 xf3 xf4 hbb p0 p1' pf0 pf1 hpp HB2
     obtain ⟨⟨x0,x1,x2,x3,x4⟩,xf0,xf1,xf2,xf3,xf4⟩:=HB3.out.cells
     have hbb:=HB3.out.lt
     obtain ⟨⟨p0,p1⟩,pf0,pf1⟩:=c2_at HP3.out
     have hpp:=(head_row HP3.out).lt
     have HLA:Hid (Lr w0 (W3.alloc (.cells #[.int .u64 (k:Nat),.int .i64 0] QTI10)).drew sm M ev gh (.slice F1 n1 c1) (.slice (some ⟨g,off,none⟩) 0 0) (.slice F3 n3 c3) (.slice F4 n4 c4)):=Lib.hid (HL3.out.below (below_drewn (low_one W3 (.cells #[.int .u64 (k:Nat),.int .i64 0] QTI10)) 1))
     have HBA:Hid (Bl w0 (W3.alloc (.cells #[.int .u64 (k:Nat),.int .i64 0] QTI10)).drew b t (.slice F1 n1 c1) (.slice (some ⟨g,off,none⟩) 0 0) (.slice F3 n3 c3) (.slice F4 n4 c4)):=Lib.hid (HB3.out.below (below_drewn (low_one W3 (.cells #[.int .u64 (k:Nat),.int .i64 0] QTI10)) 1))
     have HSA:Hid (IV (W3.alloc (.cells #[.int .u64 (k:Nat),.int .i64 0] QTI10)).drew (.slice (some ⟨W3.heap.size,0,none⟩) 1 1) [⟨k,0⟩]):=Lib.hid ((IV.one W3 QTI10 ⟨k,0⟩).drewn 1)
     clear HL3 HB3 HP3
     go_wp2_with fail
     go_region_law
      (refine step_append_iq (by rfl) (.tmp 46) (.tmp 48) 30 (by rfl) (by kernel_rfl) (by kernel_rfl) w0.heap.size _ M (by rfl) HLA.out.mn HLA.out.low.size _ ⟨k,0⟩ (by rfl) HSA.out (by have:=HN.out;omega) ?_;intro v6 w6 hq6 ha6;obtain ⟨F6,n6,c6,rfl⟩:=hq6.frm;have hb6:=HLA.out.bl2 HBA.out ha6;obtain ⟨⟨kk0,kk1,kk2,kk3,kk4⟩,kf0,kf1,kf2,kf3,kf4⟩:=hb6.cells;have hlt6:=hb6.lt)
     all_goals
      have HF:=Lib.hid (HI.out.next ((HLA.out.app2 hq6 ha6).put hb6 2 (.slice F6 n6 c6)) (hb6.put2 (.slice F6 n6 c6)))
      clear hq6 ha6 hb6 HLA HBA HSA HI x0 x1 x2 x3 x4 xf0 xf1 xf2 xf3 xf4 p0 p1 pf0 pf1
      go_wp2
      go_roundg ((M ++ [(⟨k,0⟩:It)]).map It.f).sum
      case measure=>exact HSUM.out
      case rel=>exact ⟨M ++ [⟨k,0⟩],_,rfl,Lib.hid (by simp),HF⟩
    ·have p1':W2.cell? ⟨P,1,none⟩=some (.int .i64 2):=p1
     have HB3:=Lib.hid (HB2.out.far (i:=1) hneP (.int .i64 1))
     have HP3:Hid ((W2.setCell ⟨P,1,none⟩ (.int .i64 1)).heap[P]? = some (.cells #[.int .u64 (k:Nat),.int .i64 1] QTI10 (0,0))):=Lib.hid (set_one HP2.out)
     have HL3:=Lib.hid (HLT.out.only_b HI.out.box.ge HI.out.box.at_ rfl (HOX.out (.int .i64 1)))
     have HSUM:Hid (((M ++ [(⟨k,1⟩:It)]).map It.f).sum < gk):=Lib.hid (by rw [hgg];simp <;> omega)
     clear p1 HLT HO2 HOX HP2 hgg
     go_upto_region 6 with fail
     generalize W2.setCell ⟨P,1,none⟩ (.int .i64 1)=W3 at HB3 HP3 HL3 ⊢
     clear x0 x1 x2 x3 x4 xf0 xf1 xf2 xf3 xf4 hbb p0 p1' pf0 pf1 hpp HB2
     obtain ⟨⟨x0,x1,x2,x3,x4⟩,xf0,xf1,xf2,xf3,xf4⟩:=HB3.out.cells
     have hbb:=HB3.out.lt
     obtain ⟨⟨p0,p1⟩,pf0,pf1⟩:=c2_at HP3.out
     have hpp:=(head_row HP3.out).lt
     have HLA:Hid (Lr w0 (W3.alloc (.cells #[.int .u64 (k:Nat),.int .i64 1] QTI10)).drew sm M ev gh (.slice F1 n1 c1) (.slice (some ⟨g,off,none⟩) 0 0) (.slice F3 n3 c3) (.slice F4 n4 c4)):=Lib.hid (HL3.out.below (below_drewn (low_one W3 (.cells #[.int .u64 (k:Nat),.int .i64 1] QTI10)) 1))
     have HBA:Hid (Bl w0 (W3.alloc (.cells #[.int .u64 (k:Nat),.int .i64 1] QTI10)).drew b t (.slice F1 n1 c1) (.slice (some ⟨g,off,none⟩) 0 0) (.slice F3 n3 c3) (.slice F4 n4 c4)):=Lib.hid (HB3.out.below (below_drewn (low_one W3 (.cells #[.int .u64 (k:Nat),.int .i64 1] QTI10)) 1))
     have HSA:Hid (IV (W3.alloc (.cells #[.int .u64 (k:Nat),.int .i64 1] QTI10)).drew (.slice (some ⟨W3.heap.size,0,none⟩) 1 1) [⟨k,1⟩]):=Lib.hid ((IV.one W3 QTI10 ⟨k,1⟩).drewn 1)
     clear HL3 HB3 HP3
     go_wp2_with fail
     go_region_law
      (refine step_append_iq (by rfl) (.tmp 46) (.tmp 48) 30 (by rfl) (by kernel_rfl) (by kernel_rfl) w0.heap.size _ M (by rfl) HLA.out.mn HLA.out.low.size _ ⟨k,1⟩ (by rfl) HSA.out (by have:=HN.out;omega) ?_;intro v6 w6 hq6 ha6;obtain ⟨F6,n6,c6,rfl⟩:=hq6.frm;have hb6:=HLA.out.bl2 HBA.out ha6;obtain ⟨⟨kk0,kk1,kk2,kk3,kk4⟩,kf0,kf1,kf2,kf3,kf4⟩:=hb6.cells;have hlt6:=hb6.lt)
     all_goals
      have HF:=Lib.hid (HI.out.next ((HLA.out.app2 hq6 ha6).put hb6 2 (.slice F6 n6 c6)) (hb6.put2 (.slice F6 n6 c6)))
      clear hq6 ha6 hb6 HLA HBA HSA HI x0 x1 x2 x3 x4 xf0 xf1 xf2 xf3 xf4 p0 p1 pf0 pf1
      go_wp2
      go_roundg ((M ++ [(⟨k,1⟩:It)]).map It.f).sum
      case measure=>exact HSUM.out
      case rel=>exact ⟨M ++ [⟨k,1⟩],_,rfl,Lib.hid (by simp),HF⟩
    ·have p1':W2.cell? ⟨P,1,none⟩=some (.int .i64 3):=p1
     have HB3:=Lib.hid (HB2.out.far (i:=1) hneP (.int .i64 2))
     have HP3:Hid ((W2.setCell ⟨P,1,none⟩ (.int .i64 2)).heap[P]? = some (.cells #[.int .u64 (k:Nat),.int .i64 2] QTI10 (0,0))):=Lib.hid (set_one HP2.out)
     have HL3:=Lib.hid (HLT.out.only_b HI.out.box.ge HI.out.box.at_ rfl (HOX.out (.int .i64 2)))
     have HSUM:Hid (((M ++ [(⟨k,2⟩:It)]).map It.f).sum < gk):=Lib.hid (by rw [hgg];simp <;> omega)
     clear p1 HLT HO2 HOX HP2 hgg
     go_upto_region 6 with fail
     generalize W2.setCell ⟨P,1,none⟩ (.int .i64 2)=W3 at HB3 HP3 HL3 ⊢
     clear x0 x1 x2 x3 x4 xf0 xf1 xf2 xf3 xf4 hbb p0 p1' pf0 pf1 hpp HB2
     obtain ⟨⟨x0,x1,x2,x3,x4⟩,xf0,xf1,xf2,xf3,xf4⟩:=HB3.out.cells
     have hbb:=HB3.out.lt
     obtain ⟨⟨p0,p1⟩,pf0,pf1⟩:=c2_at HP3.out
     have hpp:=(head_row HP3.out).lt
     have HLA:Hid (Lr w0 (W3.alloc (.cells #[.int .u64 (k:Nat),.int .i64 2] QTI10)).drew sm M ev gh (.slice F1 n1 c1) (.slice (some ⟨g,off,none⟩) 0 0) (.slice F3 n3 c3) (.slice F4 n4 c4)):=Lib.hid (HL3.out.below (below_drewn (low_one W3 (.cells #[.int .u64 (k:Nat),.int .i64 2] QTI10)) 1))
     have HBA:Hid (Bl w0 (W3.alloc (.cells #[.int .u64 (k:Nat),.int .i64 2] QTI10)).drew b t (.slice F1 n1 c1) (.slice (some ⟨g,off,none⟩) 0 0) (.slice F3 n3 c3) (.slice F4 n4 c4)):=Lib.hid (HB3.out.below (below_drewn (low_one W3 (.cells #[.int .u64 (k:Nat),.int .i64 2] QTI10)) 1))
     have HSA:Hid (IV (W3.alloc (.cells #[.int .u64 (k:Nat),.int .i64 2] QTI10)).drew (.slice (some ⟨W3.heap.size,0,none⟩) 1 1) [⟨k,2⟩]):=Lib.hid ((IV.one W3 QTI10 ⟨k,2⟩).drewn 1)
     clear HL3 HB3 HP3
     go_wp2_with fail
     go_region_law
      (refine step_append_iq (by rfl) (.tmp 46) (.tmp 48) 30 (by rfl) (by kernel_rfl) (by kernel_rfl) w0.heap.size _ M (by rfl) HLA.out.mn HLA.out.low.size _ ⟨k,2⟩ (by rfl) HSA.out (by have:=HN.out;omega) ?_;intro v6 w6 hq6 ha6;obtain ⟨F6,n6,c6,rfl⟩:=hq6.frm;have hb6:=HLA.out.bl2 HBA.out ha6;obtain ⟨⟨kk0,kk1,kk2,kk3,kk4⟩,kf0,kf1,kf2,kf3,kf4⟩:=hb6.cells;have hlt6:=hb6.lt)
     all_goals
      have HF:=Lib.hid (HI.out.next ((HLA.out.app2 hq6 ha6).put hb6 2 (.slice F6 n6 c6)) (hb6.put2 (.slice F6 n6 c6)))
      clear hq6 ha6 hb6 HLA HBA HSA HI x0 x1 x2 x3 x4 xf0 xf1 xf2 xf3 xf4 p0 p1 pf0 pf1
      go_wp2
      go_roundg ((M ++ [(⟨k,2⟩:It)]).map It.f).sum
      case measure=>exact HSUM.out
      case rel=>exact ⟨M ++ [⟨k,2⟩],_,rfl,Lib.hid (by simp),HF⟩
  ·obtain ⟨d,rfl⟩:∃ d,c2=d+1+1:=⟨c2 - 2,by omega⟩
   have hdI:(n:Int)<=(d:Int)+1:=by omega
   have HLT:Hid (Lr w0 wr sm M ev gh (.slice F1 n1 c1) (.slice (some ⟨g,off+2,none⟩) n (d+1)) (.slice F3 n3 c3) (.slice F4 n4 c4)):=Lib.hid ⟨HI.out.rows.sm,HI.out.rows.mn.tail HN.out,HI.out.rows.ev,HI.out.rows.gh,HI.out.rows.o12,HI.out.rows.o13,HI.out.rows.o14,HI.out.rows.o34⟩
   have HO2:Hid (Only [b] wr ((wr.setCell ⟨b,2,none⟩ (.slice (some ⟨g,off+2,none⟩) n (d+1))).alloc (.cells #[.int .u64 (k:Nat),.int .i64 (f:Nat)] QTI10))):=Lib.hid (((Only.refl _ _).setCell (by simp) _).alloc _)
   have HB2:Hid (Bl w0 ((wr.setCell ⟨b,2,none⟩ (.slice (some ⟨g,off+2,none⟩) n (d+1))).alloc (.cells #[.int .u64 (k:Nat),.int .i64 (f:Nat)] QTI10)) b t (.slice F1 n1 c1) (.slice (some ⟨g,off+2,none⟩) n (d+1)) (.slice F3 n3 c3) (.slice F4 n4 c4)):=Lib.hid ((HI.out.box.put2 _).below (low_one _ _))
   have HP2:Hid (((wr.setCell ⟨b,2,none⟩ (.slice (some ⟨g,off+2,none⟩) n (d+1))).alloc (.cells #[.int .u64 (k:Nat),.int .i64 (f:Nat)] QTI10)).heap[wr.heap.size]? = some (.cells #[.int .u64 (k:Nat),.int .i64 (f:Nat)] QTI10 (0,0))):=Lib.hid (by
    have h:=heap_alloc_new (wr.setCell ⟨b,2,none⟩ (.slice (some ⟨g,off+2,none⟩) n (d+1))) (.cells #[.int .u64 (k:Nat),.int .i64 (f:Nat)] QTI10)
    simpa using h)
   go_upto_region 3 with fail
   generalize (wr.setCell ⟨b,2,none⟩ (.slice (some ⟨g,off+2,none⟩) n (d+1))).alloc (.cells #[.int .u64 (k:Nat),.int .i64 (f:Nat)] QTI10)=W2 at HO2 HB2 HP2 ⊢
   clear x0 x1 x2 x3 x4 xf0 xf1 xf2 xf3 xf4 q0 q1 hg hbb
   obtain ⟨⟨x0,x1,x2,x3,x4⟩,xf0,xf1,xf2,xf3,xf4⟩:=HB2.out.cells
   have hbb:=HB2.out.lt
   obtain ⟨⟨p0,p1⟩,pf0,pf1⟩:=c2_at HP2.out
   have hpp:=(head_row HP2.out).lt
   have HOX:Hid (∀ x,Only [b] wr (W2.setCell ⟨wr.heap.size,1,none⟩ x)):=Lib.hid (fun x=>HO2.out.setCell (.inr (Nat.le_refl _)) x)
   generalize hP:wr.heap.size=P at *
   clear hP
   by_cases hf0:f=0
   ·subst hf0
    have HL2:Hid (Lr w0 W2 sm M ev gh (.slice F1 n1 c1) (.slice (some ⟨g,off+2,none⟩) n (d+1)) (.slice F3 n3 c3) (.slice F4 n4 c4)):=Lib.hid (HLT.out.only_b HI.out.box.ge HI.out.box.at_ rfl HO2.out)
    have HR:Hid (r=(M.reverse,k)):=Lib.hid (by rw [<- HI.out.fm,List.reverse_cons,fm_snoc,if_pos rfl])
    have HLA:Hid (Lr w0 (W2.alloc (.cells #[.int .u64 (k:Nat)] 56)).drew sm M ev gh (.slice F1 n1 c1) (.slice (some ⟨g,off+2,none⟩) n (d+1)) (.slice F3 n3 c3) (.slice F4 n4 c4)):=Lib.hid (HL2.out.below (below_drewn (low_one W2 (.cells #[.int .u64 (k:Nat)] 56)) 1))
    have HBA:Hid (Bl w0 (W2.alloc (.cells #[.int .u64 (k:Nat)] 56)).drew b t (.slice F1 n1 c1) (.slice (some ⟨g,off+2,none⟩) n (d+1)) (.slice F3 n3 c3) (.slice F4 n4 c4)):=Lib.hid (HB2.out.below (below_drewn (low_one W2 (.cells #[.int .u64 (k:Nat)] 56)) 1))
    have HSA:Hid (KV (W2.alloc (.cells #[.int .u64 (k:Nat)] 56)).drew (.slice (some ⟨W2.heap.size,0,none⟩) 1 1) [k]):=Lib.hid ((KV.one W2 k).drewn 1)
    clear HLT HI HO2 HP2 HL2 HB2 HOX
    go_wp2_with fail
    go_region_law
     (refine step_append_kq (by rfl) (.tmp 30) (.tmp 33) (by rfl) (by kernel_rfl) (by kernel_rfl) w0.heap.size _ ev (by rfl) HLA.out.ev HLA.out.low.size _ k (by rfl) HSA.out (by have:=HEL.out;omega) ?_;intro v6 w6 hq6 ha6;obtain ⟨F6,n6,c6,rfl⟩:=hq6.kv.form;have hb6:=HLA.out.ev.bl HBA.out ha6;obtain ⟨⟨kk0,kk1,kk2,kk3,kk4⟩,kf0,kf1,kf2,kf3,kf4⟩:=hb6.cells;have hlt6:=hb6.lt)
    all_goals
     have HF:Hid (Lr w0 (w6.setCell ⟨b,3,none⟩ (.slice F6 n6 c6)) sm M (ev ++ [k]) gh (.slice F1 n1 c1) (.slice (some ⟨g,off+2,none⟩) n (d+1)) (.slice F6 n6 c6) (.slice F4 n4 c4)/\Bl w0 (w6.setCell ⟨b,3,none⟩ (.slice F6 n6 c6)) b t (.slice F1 n1 c1) (.slice (some ⟨g,off+2,none⟩) n (d+1)) (.slice F6 n6 c6) (.slice F4 n4 c4)):=Lib.hid ⟨(HLA.out.app3 hq6 ha6).put hb6 3 _,hb6.put3 _⟩
     clear hq6 ha6 hb6 HLA HBA HSA x0 x1 x2 x3 x4 xf0 xf1 xf2 xf3 xf4
     go_wp2_with fail
     exact bodyPost_ret (v := .tuple #[]) (by simp [results,Tryz.results298,go_sem]) rfl ⟨_,_,rfl,by
      rw [HR.out]
      show Lr w0 _ sm M.reverse.reverse (ev ++ [k]) gh _ _ _ _
      rw [List.reverse_reverse]
      exact HF.out.1,by exact HF.out.2⟩
   ·rcases (by omega:f=1∨f=2∨f=3) with rfl | rfl | rfl
    ·have p1':W2.cell? ⟨P,1,none⟩=some (.int .i64 1):=p1
     have HB3:=Lib.hid (HB2.out.far (i:=1) hneP (.int .i64 0))
     have HP3:Hid ((W2.setCell ⟨P,1,none⟩ (.int .i64 0)).heap[P]? = some (.cells #[.int .u64 (k:Nat),.int .i64 0] QTI10 (0,0))):=Lib.hid (set_one HP2.out)
     have HL3:=Lib.hid (HLT.out.only_b HI.out.box.ge HI.out.box.at_ rfl (HOX.out (.int .i64 0)))
     have HSUM:Hid (((M ++ [(⟨k,0⟩:It)]).map It.f).sum < gk):=Lib.hid (by rw [hgg];simp <;> omega)
     clear p1 HLT HO2 HOX HP2 hgg
     go_upto_region 6 with fail
     generalize W2.setCell ⟨P,1,none⟩ (.int .i64 0)=W3 at HB3 HP3 HL3 ⊢
     clear x0 x1 x2 x3 x4 xf0 xf1 xf2 xf3 xf4 hbb p0 p1' pf0 pf1 hpp HB2
     obtain ⟨⟨x0,x1,x2,x3,x4⟩,xf0,xf1,xf2,xf3,xf4⟩:=HB3.out.cells
     have hbb:=HB3.out.lt
     obtain ⟨⟨p0,p1⟩,pf0,pf1⟩:=c2_at HP3.out
     have hpp:=(head_row HP3.out).lt
     have HLA:Hid (Lr w0 (W3.alloc (.cells #[.int .u64 (k:Nat),.int .i64 0] QTI10)).drew sm M ev gh (.slice F1 n1 c1) (.slice (some ⟨g,off+2,none⟩) n (d+1)) (.slice F3 n3 c3) (.slice F4 n4 c4)):=Lib.hid (HL3.out.below (below_drewn (low_one W3 (.cells #[.int .u64 (k:Nat),.int .i64 0] QTI10)) 1))
     have HBA:Hid (Bl w0 (W3.alloc (.cells #[.int .u64 (k:Nat),.int .i64 0] QTI10)).drew b t (.slice F1 n1 c1) (.slice (some ⟨g,off+2,none⟩) n (d+1)) (.slice F3 n3 c3) (.slice F4 n4 c4)):=Lib.hid (HB3.out.below (below_drewn (low_one W3 (.cells #[.int .u64 (k:Nat),.int .i64 0] QTI10)) 1))
     have HSA:Hid (IV (W3.alloc (.cells #[.int .u64 (k:Nat),.int .i64 0] QTI10)).drew (.slice (some ⟨W3.heap.size,0,none⟩) 1 1) [⟨k,0⟩]):=Lib.hid ((IV.one W3 QTI10 ⟨k,0⟩).drewn 1)
     clear HL3 HB3 HP3
     go_wp2_with fail
     go_region_law
      (refine step_append_iq (by rfl) (.tmp 46) (.tmp 48) 30 (by rfl) (by kernel_rfl) (by kernel_rfl) w0.heap.size _ M (by rfl) HLA.out.mn HLA.out.low.size _ ⟨k,0⟩ (by rfl) HSA.out (by have:=HN.out;omega) ?_;intro v6 w6 hq6 ha6;obtain ⟨F6,n6,c6,rfl⟩:=hq6.frm;have hb6:=HLA.out.bl2 HBA.out ha6;obtain ⟨⟨kk0,kk1,kk2,kk3,kk4⟩,kf0,kf1,kf2,kf3,kf4⟩:=hb6.cells;have hlt6:=hb6.lt)
     all_goals
      have HF:=Lib.hid (HI.out.next ((HLA.out.app2 hq6 ha6).put hb6 2 (.slice F6 n6 c6)) (hb6.put2 (.slice F6 n6 c6)))
      clear hq6 ha6 hb6 HLA HBA HSA HI x0 x1 x2 x3 x4 xf0 xf1 xf2 xf3 xf4 p0 p1 pf0 pf1
      go_wp2
      go_roundg ((M ++ [(⟨k,0⟩:It)]).map It.f).sum
      case measure=>exact HSUM.out
      case rel=>exact ⟨M ++ [⟨k,0⟩],_,rfl,Lib.hid (by simp),HF⟩
    ·have p1':W2.cell? ⟨P,1,none⟩=some (.int .i64 2):=p1
     have HB3:=Lib.hid (HB2.out.far (i:=1) hneP (.int .i64 1))
     have HP3:Hid ((W2.setCell ⟨P,1,none⟩ (.int .i64 1)).heap[P]? = some (.cells #[.int .u64 (k:Nat),.int .i64 1] QTI10 (0,0))):=Lib.hid (set_one HP2.out)
     have HL3:=Lib.hid (HLT.out.only_b HI.out.box.ge HI.out.box.at_ rfl (HOX.out (.int .i64 1)))
     have HSUM:Hid (((M ++ [(⟨k,1⟩:It)]).map It.f).sum < gk):=Lib.hid (by rw [hgg];simp <;> omega)
     clear p1 HLT HO2 HOX HP2 hgg
     go_upto_region 6 with fail
     generalize W2.setCell ⟨P,1,none⟩ (.int .i64 1)=W3 at HB3 HP3 HL3 ⊢
     clear x0 x1 x2 x3 x4 xf0 xf1 xf2 xf3 xf4 hbb p0 p1' pf0 pf1 hpp HB2
     obtain ⟨⟨x0,x1,x2,x3,x4⟩,xf0,xf1,xf2,xf3,xf4⟩:=HB3.out.cells
     have hbb:=HB3.out.lt
     obtain ⟨⟨p0,p1⟩,pf0,pf1⟩:=c2_at HP3.out
     have hpp:=(head_row HP3.out).lt
     have HLA:Hid (Lr w0 (W3.alloc (.cells #[.int .u64 (k:Nat),.int .i64 1] QTI10)).drew sm M ev gh (.slice F1 n1 c1) (.slice (some ⟨g,off+2,none⟩) n (d+1)) (.slice F3 n3 c3) (.slice F4 n4 c4)):=Lib.hid (HL3.out.below (below_drewn (low_one W3 (.cells #[.int .u64 (k:Nat),.int .i64 1] QTI10)) 1))
     have HBA:Hid (Bl w0 (W3.alloc (.cells #[.int .u64 (k:Nat),.int .i64 1] QTI10)).drew b t (.slice F1 n1 c1) (.slice (some ⟨g,off+2,none⟩) n (d+1)) (.slice F3 n3 c3) (.slice F4 n4 c4)):=Lib.hid (HB3.out.below (below_drewn (low_one W3 (.cells #[.int .u64 (k:Nat),.int .i64 1] QTI10)) 1))
     have HSA:Hid (IV (W3.alloc (.cells #[.int .u64 (k:Nat),.int .i64 1] QTI10)).drew (.slice (some ⟨W3.heap.size,0,none⟩) 1 1) [⟨k,1⟩]):=Lib.hid ((IV.one W3 QTI10 ⟨k,1⟩).drewn 1)
     clear HL3 HB3 HP3
     go_wp2_with fail
     go_region_law
      (refine step_append_iq (by rfl) (.tmp 46) (.tmp 48) 30 (by rfl) (by kernel_rfl) (by kernel_rfl) w0.heap.size _ M (by rfl) HLA.out.mn HLA.out.low.size _ ⟨k,1⟩ (by rfl) HSA.out (by have:=HN.out;omega) ?_;intro v6 w6 hq6 ha6;obtain ⟨F6,n6,c6,rfl⟩:=hq6.frm;have hb6:=HLA.out.bl2 HBA.out ha6;obtain ⟨⟨kk0,kk1,kk2,kk3,kk4⟩,kf0,kf1,kf2,kf3,kf4⟩:=hb6.cells;have hlt6:=hb6.lt)
     all_goals
      have HF:=Lib.hid (HI.out.next ((HLA.out.app2 hq6 ha6).put hb6 2 (.slice F6 n6 c6)) (hb6.put2 (.slice F6 n6 c6)))
      clear hq6 ha6 hb6 HLA HBA HSA HI x0 x1 x2 x3 x4 xf0 xf1 xf2 xf3 xf4 p0 p1 pf0 pf1
      go_wp2
      go_roundg ((M ++ [(⟨k,1⟩:It)]).map It.f).sum
      case measure=>exact HSUM.out
      case rel=>exact ⟨M ++ [⟨k,1⟩],_,rfl,Lib.hid (by simp),HF⟩
    ·have p1':W2.cell? ⟨P,1,none⟩=some (.int .i64 3):=p1
     have HB3:=Lib.hid (HB2.out.far (i:=1) hneP (.int .i64 2))
     have HP3:Hid ((W2.setCell ⟨P,1,none⟩ (.int .i64 2)).heap[P]? = some (.cells #[.int .u64 (k:Nat),.int .i64 2] QTI10 (0,0))):=Lib.hid (set_one HP2.out)
     have HL3:=Lib.hid (HLT.out.only_b HI.out.box.ge HI.out.box.at_ rfl (HOX.out (.int .i64 2)))
     have HSUM:Hid (((M ++ [(⟨k,2⟩:It)]).map It.f).sum < gk):=Lib.hid (by rw [hgg];simp <;> omega)
     clear p1 HLT HO2 HOX HP2 hgg
     go_upto_region 6 with fail
     generalize W2.setCell ⟨P,1,none⟩ (.int .i64 2)=W3 at HB3 HP3 HL3 ⊢
     clear x0 x1 x2 x3 x4 xf0 xf1 xf2 xf3 xf4 hbb p0 p1' pf0 pf1 hpp HB2
     obtain ⟨⟨x0,x1,x2,x3,x4⟩,xf0,xf1,xf2,xf3,xf4⟩:=HB3.out.cells
     have hbb:=HB3.out.lt
     obtain ⟨⟨p0,p1⟩,pf0,pf1⟩:=c2_at HP3.out
     have hpp:=(head_row HP3.out).lt
     have HLA:Hid (Lr w0 (W3.alloc (.cells #[.int .u64 (k:Nat),.int .i64 2] QTI10)).drew sm M ev gh (.slice F1 n1 c1) (.slice (some ⟨g,off+2,none⟩) n (d+1)) (.slice F3 n3 c3) (.slice F4 n4 c4)):=Lib.hid (HL3.out.below (below_drewn (low_one W3 (.cells #[.int .u64 (k:Nat),.int .i64 2] QTI10)) 1))
     have HBA:Hid (Bl w0 (W3.alloc (.cells #[.int .u64 (k:Nat),.int .i64 2] QTI10)).drew b t (.slice F1 n1 c1) (.slice (some ⟨g,off+2,none⟩) n (d+1)) (.slice F3 n3 c3) (.slice F4 n4 c4)):=Lib.hid (HB3.out.below (below_drewn (low_one W3 (.cells #[.int .u64 (k:Nat),.int .i64 2] QTI10)) 1))
     have HSA:Hid (IV (W3.alloc (.cells #[.int .u64 (k:Nat),.int .i64 2] QTI10)).drew (.slice (some ⟨W3.heap.size,0,none⟩) 1 1) [⟨k,2⟩]):=Lib.hid ((IV.one W3 QTI10 ⟨k,2⟩).drewn 1)
     clear HL3 HB3 HP3
     go_wp2_with fail
     go_region_law
      (refine step_append_iq (by rfl) (.tmp 46) (.tmp 48) 30 (by rfl) (by kernel_rfl) (by kernel_rfl) w0.heap.size _ M (by rfl) HLA.out.mn HLA.out.low.size _ ⟨k,2⟩ (by rfl) HSA.out (by have:=HN.out;omega) ?_;intro v6 w6 hq6 ha6;obtain ⟨F6,n6,c6,rfl⟩:=hq6.frm;have hb6:=HLA.out.bl2 HBA.out ha6;obtain ⟨⟨kk0,kk1,kk2,kk3,kk4⟩,kf0,kf1,kf2,kf3,kf4⟩:=hb6.cells;have hlt6:=hb6.lt)
     all_goals
      have HF:=Lib.hid (HI.out.next ((HLA.out.app2 hq6 ha6).put hb6 2 (.slice F6 n6 c6)) (hb6.put2 (.slice F6 n6 c6)))
      clear hq6 ha6 hb6 HLA HBA HSA HI x0 x1 x2 x3 x4 xf0 xf1 xf2 xf3 xf4 p0 p1 pf0 pf1
      go_wp2
      go_roundg ((M ++ [(⟨k,2⟩:It)]).map It.f).sum
      case measure=>exact HSUM.out
      case rel=>exact ⟨M ++ [⟨k,2⟩],_,rfl,Lib.hid (by simp),HF⟩
end
end Go.Proofs.YtcpggonengkgiaaGreatDoor
