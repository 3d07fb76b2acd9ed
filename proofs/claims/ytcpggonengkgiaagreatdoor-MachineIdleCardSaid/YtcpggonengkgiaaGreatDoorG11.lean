/- Words and walks: S3H S3I. -/
import Derived.Test.YtcpggonengkgiaaGreatDoorG10
import Derived.Test.YtcpggonengkgiaaGreatDoorG3
import Derived.Deep.CutRange
import Derived.Deep.RegionWith
namespace Go.Proofs.YtcpggonengkgiaaGreatDoor
open Go Go.RowKit Go.Deep
set_option maxRecDepth 8000
section
variable {w:World} {u u1 u2 u3:Value} {s:L10} {xs:List It}
theorem bounded10_walk (n:Int) (hn1 : -9223372036854775808<=n) (hn2:n<=9223372036854775807) :
  Calls Tryz.prog 173 #[.int .i64 n] w fun e w'=>e = .returned (.int .i64 (capI n:Nat))/\w=w':=by
 obtain ⟨c,hc⟩:∃ c,capI n=c:=⟨_,rfl⟩
 have HC:=Lib.hid hc
 rw [hc]
 clear hc
 by_cases h1:n < 1
 ·have H:Hid ((1:Int)=(c:Int)):=Lib.hid (by rw [<- HC.out,capI,if_pos h1];rfl)
  go_enter Tryz.func173,Tryz.ntmps173
  go_wp2
  go_ret
  exact ⟨by rw [H.out];rfl,rfl⟩
 ·by_cases h1e:n=1
  ·subst h1e
   have H:Hid ((1:Int)=(c:Int)):=Lib.hid (by rw [<- HC.out];rfl)
   go_enter Tryz.func173,Tryz.ntmps173
   go_wp2
   go_ret
   exact ⟨by rw [H.out];rfl,rfl⟩
  ·have h1g:1 < n:=by omega
   by_cases h2:1048576 < n
   ·have H:Hid ((1048576:Int)=(c:Int)):=Lib.hid (by rw [<- HC.out,capI,if_neg h1,if_pos h2];rfl)
    clear h1 h1e
    go_enter Tryz.func173,Tryz.ntmps173
    go_wp2
    go_ret
    exact ⟨by rw [H.out];rfl,rfl⟩
   ·have H:Hid (n=(c:Int)):=Lib.hid (by rw [<- HC.out,capI,if_neg h1,if_neg h2];omega)
    clear h1 h1e
    by_cases h2e:n=1048576
    ·subst h2e
     go_enter Tryz.func173,Tryz.ntmps173
     go_wp2
     go_ret
     exact ⟨by rw [<- H.out];rfl,rfl⟩
    ·have h2l:n < 1048576:=by omega
     clear h2e h2
     go_enter Tryz.func173,Tryz.ntmps173
     go_wp2
     go_ret
     exact ⟨by rw [<- H.out];rfl,rfl⟩
theorem p10new_walk (n:Int) (hn1 : -9223372036854775808<=n) (hn2:n<=9223372036854775807):Calls Tryz.prog 78 #[.int .i64 n] w (P10 w (L10.new n)):=by
 have KK:=Lib.hid (bounded10_walk (w:=w.alloc (.cells z10 PT10)) n hn1 hn2)
 obtain ⟨c,hc⟩:∃ c,capI n=c:=⟨_,rfl⟩
 have HC:Hid (P10 w (L10.new n)=P10 w ⟨c,[],[],[]⟩):=Lib.hid (by rw [<- hc];rfl)
 rw [hc] at KK
 rw [HC.out]
 clear hc HC
 go_enter Tryz.func78,Tryz.ntmps78
 go_wp2_with fail
 refine KK.out.mono ?_
 rintro e w1 ⟨rfl,rfl⟩
 go_wp2
 exact bodyPost_ret (v := .agg (l10C c (.slice none 0 0) (.slice none 0 0) (.slice none 0 0))) (by simp [results,Tryz.results78,go_sem]) rfl ⟨_,_,_,rfl,(Below.refl _ _).alloc (Nat.le_refl _) _,⟨IV.nil _,IV.nil _,KV.nil _⟩⟩
theorem target10_walk (c:Nat) (hc:c<=1048576):Calls Tryz.prog 263 #[.int .i64 (c:Nat)] w fun e w'=>e = .returned (.int .i64 (tgt c:Nat))/\w=w':=by
 obtain ⟨q,hq⟩:∃ q,c / 10=q:=⟨_,rfl⟩
 have e4:((c:Nat):Int).tdiv 10=(q:Int):=by rw [Int.tdiv_eq_ediv_of_nonneg (by omega)];omega
 have HK:Hid (tgt c=max q 1):=Lib.hid (by unfold tgt;split <;> omega)
 have hqI:(q:Int)<=1048576:=by omega
 clear hq hc
 rcases (by omega:q=0∨q=1∨1 < q) with rfl | rfl | hq
 ·go_enter Tryz.func263,Tryz.ntmps263
  go_wp2
  go_ret
  exact ⟨by rw [HK.out];rfl,rfl⟩
 ·go_enter Tryz.func263,Tryz.ntmps263
  go_wp2
  go_ret
  exact ⟨by rw [HK.out];rfl,rfl⟩
 ·have hq1:(1:Int) < (q:Int):=by omega
  go_enter Tryz.func263,Tryz.ntmps263
  go_wp2
  go_ret
  exact ⟨by rw [HK.out,Nat.max_eq_left (by omega)];rfl,rfl⟩
theorem room10_walk (c:Nat) (hc:c<=1048576) (hc1:1<=c):Calls Tryz.prog 267 #[.int .i64 (c:Nat)] w fun e w'=>e = .returned (.int .i64 (room c:Nat))/\w=w':=by
 have KT:=Lib.hid (target10_walk (w:=w) c hc)
 have htc:tgt c<=c:=by unfold tgt;split <;> omega
 obtain ⟨h,hh⟩:∃ h,room c=h:=⟨_,rfl⟩
 obtain ⟨q,hq⟩:∃ q,tgt c=q:=⟨_,rfl⟩
 rw [hq] at KT htc
 have hcI:((c:Nat):Int) - (q:Int)=(h:Int):=by unfold room at hh;omega
 have hhI:(h:Int)<=1048576:=by omega
 rw [hh]
 clear hh hq htc hc hc1
 go_enter Tryz.func267,Tryz.ntmps267
 go_wp2_with fail
 refine KT.out.mono ?_
 rintro e w1 ⟨rfl,rfl⟩
 go_wp2
 go_ret
 exact ⟨rfl,rfl⟩
set_option maxHeartbeats 2000000 in
theorem owned10_walk (hs:St10 w s u1 u2 u3) (ok:s.Ok):Calls Tryz.prog 177 #[.agg (l10C s.c u1 u2 u3)] w (P10 w s):=by
 have hl1:=ok.len_small
 have hl2:=ok.len_main
 have hl3:=ok.len_ghost
 clear ok
 obtain ⟨F1,n1,d1,rfl⟩:=hs.form1
 obtain ⟨F2,n2,d2,rfl⟩:=hs.form2
 obtain ⟨F3,n3,d3,rfl⟩:=hs.form3
 have HX0:=Lib.hid (Bx10.start w PT10 (by decide) hs)
 obtain ⟨c,l1,l2,l3⟩:=s
 simp only at *
 clear hs
 have K1:=Lib.hid (copyI_walk HX0.out.st.g1 hl1)
 go_enter Tryz.func177,Tryz.ntmps177
 go_wp2_with fail
 refine K1.out.mono ?_
 rintro e va ⟨oa,rfl,ha⟩
 obtain ⟨Fa,na,da,rfl⟩:=ha.iv.form
 have hxa:=HX0.out.step ha.low
 obtain ⟨⟨x0,x1,x2,x3⟩,xf0,xf1,xf2,xf3⟩:=c4_at hxa.bo.box
 have hbb:=(head_row hxa.bo.box).lt
 have hya:=hxa.set1 ha.iv
 generalize hWa:va.setCell ⟨w.heap.size,1,none⟩ (.slice Fa na da)=wa at hya
 have HWa:=Lib.hid hWa
 have HXa:=Lib.hid hya
 clear ha hWa hxa hya HX0 K1
 have K2:=Lib.hid (copyI_walk HXa.out.st.g2 hl2)
 go_wp2_with fail
 rw [HWa.out]
 clear HWa
 refine K2.out.mono ?_
 rintro e vb ⟨ob,rfl,hb⟩
 obtain ⟨Fb,nb,db,rfl⟩:=hb.iv.form
 have hxb:=HXa.out.step hb.low
 clear x0 x1 x2 x3 xf0 xf1 xf2 xf3 hbb
 obtain ⟨⟨x0,x1,x2,x3⟩,xf0,xf1,xf2,xf3⟩:=c4_at hxb.bo.box
 have hbb:=(head_row hxb.bo.box).lt
 have hyb:=hxb.set2 hb.iv
 generalize hWb:vb.setCell ⟨w.heap.size,2,none⟩ (.slice Fb nb db)=wb at hyb
 have HWb:=Lib.hid hWb
 have HXb:=Lib.hid hyb
 clear hb hWb hxb hyb HXa K2
 have K3:=Lib.hid (copyK_walk HXb.out.st.g3 hl3)
 go_wp2_with fail
 rw [HWb.out]
 clear HWb
 refine K3.out.mono ?_
 rintro e vc ⟨oc,rfl,hc⟩
 obtain ⟨Fc,nc,dc,rfl⟩:=hc.kv.form
 have hxc:=HXb.out.step hc.low
 clear x0 x1 x2 x3 xf0 xf1 xf2 xf3 hbb
 obtain ⟨⟨x0,x1,x2,x3⟩,xf0,xf1,xf2,xf3⟩:=c4_at hxc.bo.box
 have hbb:=(head_row hxc.bo.box).lt
 have hyc:=hxc.set3 hc.kv
 obtain ⟨⟨y0,y1,y2,y3⟩,yf0,yf1,yf2,yf3⟩:=c4_at hxc.bo.res
 have hrr:=(head_row hxc.bo.res).lt
 have HXc:=Lib.hid hyc
 clear hc hxc hyc HXb K3
 go_wp2
 exact bodyPost_ret (v := .agg (l10C c (.slice Fa na da) (.slice Fb nb db) (.slice Fc nc dc))) (by simp [results,Tryz.results177,go_sem,y0,y1,y2,y3]) rfl HXc.out.done
set_option maxHeartbeats 2000000 in
theorem p10touch_walk (hs:St10 w s u1 u2 u3) (ok:s.Ok) (k:Nat):Calls Tryz.prog 79 #[.agg (l10C s.c u1 u2 u3),.int .u64 (k:Nat)] w (P10 w (s.touch k)):=by
 have hl1:=ok.len_small
 have hl2:=ok.len_main
 have hl3:=ok.len_ghost
 have hf:=ok.fine.f
 clear ok
 obtain ⟨F1,n1,d1,rfl⟩:=hs.form1
 obtain ⟨F2,n2,d2,rfl⟩:=hs.form2
 obtain ⟨F3,n3,d3,rfl⟩:=hs.form3
 obtain ⟨hb0,hk0⟩:=Bo.start3 w PT10 56 (l10C s.c (.slice F1 n1 d1) (.slice F2 n2 d2) (.slice F3 n3 d3)) #[.int .u64 (k:Nat)] z10 rfl rfl (by decide)
 have HX0:Hid (Bx10 w _ PT10 w.heap.size (w.heap.size+1+1) s (.slice F1 n1 d1) (.slice F2 n2 d2) (.slice F3 n3 d3)):=Lib.hid ⟨hb0,hs.below hb0.low⟩
 have HK0:=Lib.hid hk0
 unfold L10.touch
 obtain ⟨c,l1,l2,l3⟩:=s
 simp only at *
 clear hs hb0 hk0
 have K1:=Lib.hid (throughU_walk HX0.out.st.g1 hl1 (fun x hx=>hf x (List.mem_append_left _ hx)) ((head_row HK0.out).cell (i:=0) (by simp)) (head_row HK0.out).lt)
 go_enter Tryz.func79,Tryz.ntmps79
 go_wp2_with fail
 refine K1.out.mono ?_
 rintro e va ⟨oa,rfl,ha⟩
 obtain ⟨Fa,na,da,rfl⟩:=ha.iv.form
 have hxa:=HX0.out.step ha.low
 have hka:=(ha.low.block _ (head_row HK0.out).lt).trans HK0.out
 obtain ⟨⟨x0,x1,x2,x3⟩,xf0,xf1,xf2,xf3⟩:=c4_at hxa.bo.box
 have hbb:=(head_row hxa.bo.box).lt
 have hya:=hxa.set1 ha.iv
 have hoa:Only [w.heap.size] va (va.setCell ⟨w.heap.size,1,none⟩ (.slice Fa na da)):=(Only.refl _ _).setCell (by simp) _
 have hqa:=(hoa.block (w.heap.size+1) (head_row hka).lt (by simp)).trans hka
 generalize hWa:va.setCell ⟨w.heap.size,1,none⟩ (.slice Fa na da)=wa at hya hqa
 have HWa:=Lib.hid hWa
 have HXa:=Lib.hid hya
 have HKa:=Lib.hid hqa
 clear ha hWa hxa hya hoa hka hqa HX0 HK0 K1
 have K2:=Lib.hid (throughU_walk HXa.out.st.g2 hl2 (fun x hx=>hf x (List.mem_append_right _ hx)) ((head_row HKa.out).cell (i:=0) (by simp)) (head_row HKa.out).lt)
 go_wp2_with fail
 rw [HWa.out]
 clear HWa
 refine K2.out.mono ?_
 rintro e vb ⟨ob,rfl,hb⟩
 obtain ⟨Fb,nb,db,rfl⟩:=hb.iv.form
 have hxb:=HXa.out.step hb.low
 have hkb:=(hb.low.block _ (head_row HKa.out).lt).trans HKa.out
 clear x0 x1 x2 x3 xf0 xf1 xf2 xf3 hbb
 obtain ⟨⟨x0,x1,x2,x3⟩,xf0,xf1,xf2,xf3⟩:=c4_at hxb.bo.box
 have hbb:=(head_row hxb.bo.box).lt
 have hyb:=hxb.set2 hb.iv
 have hob:Only [w.heap.size] vb (vb.setCell ⟨w.heap.size,2,none⟩ (.slice Fb nb db)):=(Only.refl _ _).setCell (by simp) _
 have hqb:=(hob.block (w.heap.size+1) (head_row hkb).lt (by simp)).trans hkb
 generalize hWb:vb.setCell ⟨w.heap.size,2,none⟩ (.slice Fb nb db)=wb at hyb hqb
 have HWb:=Lib.hid hWb
 have HXb:=Lib.hid hyb
 have HKb:=Lib.hid hqb
 clear hb hWb hxb hyb hob hkb hqb HXa HKa K2
 have K3:=Lib.hid (copyK_walk HXb.out.st.g3 hl3)
 clear HKb hf
 go_wp2_with fail
 rw [HWb.out]
 clear HWb
 refine K3.out.mono ?_
 rintro e vc ⟨oc,rfl,hc⟩
 obtain ⟨Fc,nc,dc,rfl⟩:=hc.kv.form
 have hxc:=HXb.out.step hc.low
 clear x0 x1 x2 x3 xf0 xf1 xf2 xf3 hbb
 obtain ⟨⟨x0,x1,x2,x3⟩,xf0,xf1,xf2,xf3⟩:=c4_at hxc.bo.box
 have hbb:=(head_row hxc.bo.box).lt
 have hyc:=hxc.set3 hc.kv
 obtain ⟨⟨y0,y1,y2,y3⟩,yf0,yf1,yf2,yf3⟩:=c4_at hxc.bo.res
 have hrr:=(head_row hxc.bo.res).lt
 have HXc:=Lib.hid hyc
 clear hc hxc hyc HXb K3
 go_wp2
 exact bodyPost_ret (v := .agg (l10C c (.slice Fa na da) (.slice Fb nb db) (.slice Fc nc dc))) (by simp [results,Tryz.results79,go_sem,y0,y1,y2,y3]) rfl HXc.out.done
set_option maxHeartbeats 2000000 in
theorem p10drop_walk (hs:St10 w s u1 u2 u3) (ok:s.Ok) (k:Nat):Calls Tryz.prog 81 #[.agg (l10C s.c u1 u2 u3),.int .u64 (k:Nat)] w (P10 w (s.drop k)):=by
 have hl1:=ok.len_small
 have hl2:=ok.len_main
 have hl3:=ok.len_ghost
 have hf:=ok.fine.f
 clear ok
 obtain ⟨F1,n1,d1,rfl⟩:=hs.form1
 obtain ⟨F2,n2,d2,rfl⟩:=hs.form2
 obtain ⟨F3,n3,d3,rfl⟩:=hs.form3
 obtain ⟨hb0,hk0⟩:=Bo.start3 w PT10 56 (l10C s.c (.slice F1 n1 d1) (.slice F2 n2 d2) (.slice F3 n3 d3)) #[.int .u64 (k:Nat)] z10 rfl rfl (by decide)
 have HX0:Hid (Bx10 w _ PT10 w.heap.size (w.heap.size+1+1) s (.slice F1 n1 d1) (.slice F2 n2 d2) (.slice F3 n3 d3)):=Lib.hid ⟨hb0,hs.below hb0.low⟩
 have HK0:=Lib.hid hk0
 unfold L10.drop
 obtain ⟨c,l1,l2,l3⟩:=s
 simp only at *
 clear hs hb0 hk0
 have K1:=Lib.hid (throughO_walk HX0.out.st.g1 hl1 ((head_row HK0.out).cell (i:=0) (by simp)) (head_row HK0.out).lt)
 go_enter Tryz.func81,Tryz.ntmps81
 go_wp2_with fail
 refine K1.out.mono ?_
 rintro e va ⟨oa,rfl,ha⟩
 obtain ⟨Fa,na,da,rfl⟩:=ha.iv.form
 have hxa:=HX0.out.step ha.low
 have hka:=(ha.low.block _ (head_row HK0.out).lt).trans HK0.out
 obtain ⟨⟨x0,x1,x2,x3⟩,xf0,xf1,xf2,xf3⟩:=c4_at hxa.bo.box
 have hbb:=(head_row hxa.bo.box).lt
 have hya:=hxa.set1 ha.iv
 have hoa:Only [w.heap.size] va (va.setCell ⟨w.heap.size,1,none⟩ (.slice Fa na da)):=(Only.refl _ _).setCell (by simp) _
 have hqa:=(hoa.block (w.heap.size+1) (head_row hka).lt (by simp)).trans hka
 generalize hWa:va.setCell ⟨w.heap.size,1,none⟩ (.slice Fa na da)=wa at hya hqa
 have HWa:=Lib.hid hWa
 have HXa:=Lib.hid hya
 have HKa:=Lib.hid hqa
 clear ha hWa hxa hya hoa hka hqa HX0 HK0 K1
 have K2:=Lib.hid (throughO_walk HXa.out.st.g2 hl2 ((head_row HKa.out).cell (i:=0) (by simp)) (head_row HKa.out).lt)
 go_wp2_with fail
 rw [HWa.out]
 clear HWa
 refine K2.out.mono ?_
 rintro e vb ⟨ob,rfl,hb⟩
 obtain ⟨Fb,nb,db,rfl⟩:=hb.iv.form
 have hxb:=HXa.out.step hb.low
 have hkb:=(hb.low.block _ (head_row HKa.out).lt).trans HKa.out
 clear x0 x1 x2 x3 xf0 xf1 xf2 xf3 hbb
 obtain ⟨⟨x0,x1,x2,x3⟩,xf0,xf1,xf2,xf3⟩:=c4_at hxb.bo.box
 have hbb:=(head_row hxb.bo.box).lt
 have hyb:=hxb.set2 hb.iv
 have hob:Only [w.heap.size] vb (vb.setCell ⟨w.heap.size,2,none⟩ (.slice Fb nb db)):=(Only.refl _ _).setCell (by simp) _
 have hqb:=(hob.block (w.heap.size+1) (head_row hkb).lt (by simp)).trans hkb
 generalize hWb:vb.setCell ⟨w.heap.size,2,none⟩ (.slice Fb nb db)=wb at hyb hqb
 have HWb:=Lib.hid hWb
 have HXb:=Lib.hid hyb
 have HKb:=Lib.hid hqb
 clear hb hWb hxb hyb hob hkb hqb HXa HKa K2
 have K3:=Lib.hid (without_walk HXb.out.st.g3 hl3 k)
 have hkp:wb.cell? ⟨w.heap.size+1,0,none⟩=some (.int .u64 (k:Nat)):=(head_row HKb.out).cell (i:=0) (by simp)
 go_upto_region 4 with fail
 rw [HWb.out]
 clear HKb hf HWb x0 x1 x2 x3 xf0 xf1 xf2 xf3 hbb
 obtain ⟨⟨x0,x1,x2,x3⟩,xf0,xf1,xf2,xf3⟩:=c4_at HXb.out.bo.box
 have hbb:=(head_row HXb.out.bo.box).lt
 go_wp2_with fail
 refine K3.out.mono ?_
 rintro e vc ⟨oc,rfl,hc⟩
 obtain ⟨Fc,nc,dc,rfl⟩:=hc.kv.form
 have hxc:=HXb.out.step hc.low
 clear x0 x1 x2 x3 xf0 xf1 xf2 xf3 hbb
 obtain ⟨⟨x0,x1,x2,x3⟩,xf0,xf1,xf2,xf3⟩:=c4_at hxc.bo.box
 have hbb:=(head_row hxc.bo.box).lt
 have hyc:=hxc.set3 hc.kv
 obtain ⟨⟨y0,y1,y2,y3⟩,yf0,yf1,yf2,yf3⟩:=c4_at hxc.bo.res
 have hrr:=(head_row hxc.bo.res).lt
 have HXc:=Lib.hid hyc
 clear hc hxc hyc HXb K3 hkp
 go_wp2
 exact bodyPost_ret (v := .agg (l10C c (.slice Fa na da) (.slice Fb nb db) (.slice Fc nc dc))) (by simp [results,Tryz.results81,go_sem,y0,y1,y2,y3]) rfl HXc.out.done
def IdxI (w:World) (xs:List It) (k:Nat) (e:Ending) (w':World):Prop:=∃ r:Int,e = .returned (.int .i64 r) /\ -1<=r/\r<=100000000/\decide (0<=r)=decide (k∈keysI xs)/\Below w.heap.size w w'
set_option maxHeartbeats 1000000 in
theorem indexI_walk (h:IV w u xs) (hl:xs.length<=100000000) {kb k:Nat} (hk:w.cell? ⟨kb,0,none⟩=some (.int .u64 (k:Nat))) (hkb:kb < w.heap.size) :
  Calls Tryz.prog 268 #[u,.func (.func 181) #[] #[.pointer (some ⟨kb,0,none⟩)]] w (IdxI w xs k):=by
 have H:=Lib.hid h
 obtain ⟨F,c,rfl,-⟩:=h.mem
 have KC:Hid (∀ (W:World) (_:Below w.heap.size w W) (x:It),Calls Tryz.prog 181 #[.agg #[.int .u64 (x.key:Nat),.int .i64 (x.f:Nat)],.pointer (some ⟨kb,0,none⟩)] W fun e w'=>e = .returned (.bool (decide (x.key=k)))/\Below W.heap.size W w') :=
  Lib.hid (fun W hb x=>is_walk ((hb.cell (p:=⟨kb,0,none⟩) hkb).trans hk) (Nat.lt_of_lt_of_le hkb hb.size) x)
 obtain ⟨b,hb⟩:∃ b,decide (k∈keysI xs)=b:=⟨_,rfl⟩
 have HB:=Lib.hid hb
 obtain ⟨n,hn⟩:∃ n,xs.length=n:=⟨_,rfl⟩
 rw [hn] at hl H ⊢
 have HN:=Lib.hid hn
 clear h hn hb hk hkb
 have hnI:(n:Int)<=100000000:=by omega
 go_enter Tryz.func268,Tryz.ntmps268
 go_wp2_with fail
 go_loopg [8] n (fun gg s8 wr=>∃ i:Nat,i+gg=n/\s8 = .int .i64 (i:Nat)/\Hid (Below w.heap.size w wr)/\Hid (∀ j (hj:j < xs.length),j < i->xs[j].key≠k))
 case atStart=>exact ⟨0,by omega,rfl,Lib.hid (Below.refl _ _),Lib.hid (fun j _ hj=>by omega)⟩
 case round =>
  obtain ⟨i,hi,rfl,HL,HNO⟩:=hrel
  by_cases hlt:i < n
  ·have hltI:(i:Int) < (n:Int):=by omega
   obtain ⟨F',c',e,_,_,h3⟩:=(H.out.below HL.out).mem
   injection e with e1 e2 e3
   subst e1 e3
   have hix:i < xs.length:=by have:=HN.out;omega
   obtain ⟨g,off,hF,hg,q0,q1⟩:=h3 i hix
   subst hF
   obtain ⟨x,hx⟩:∃ x,xs[i]=x:=⟨_,rfl⟩
   rw [hx] at q0 q1
   have KX:=Lib.hid (KC.out _ HL.out x)
   have HIX:=Lib.hid (And.intro hix hx)
   clear hx
   obtain ⟨kx,fx⟩:=x
   dsimp only at q0 q1 KX
   by_cases he:kx=k
   ·have HT:Hid (b=true):=Lib.hid (by
     rw [<- HB.out]
     refine decide_eq_true (List.mem_map.2 ⟨⟨kx,fx⟩,?_,he⟩)
     rw [<- HIX.out.2]
     exact List.getElem_mem _)
    rw [decide_eq_true he] at KX
    clear h3 e2 he HIX hix
    go_wp2_with fail
    refine KX.out.mono ?_
    rintro e w2 ⟨rfl,hb2⟩
    have HL2:=Lib.hid (HL.out.trans (hb2.mono HL.out.size))
    clear hb2 KX q0 q1 hg
    go_wp2
    go_ret
    exact ⟨(i:Int),rfl,by omega,by omega,by rw [HB.out,HT.out];exact decide_eq_true (by omega),HL2.out⟩
   ·have HNX:Hid (∀ j (hj:j < xs.length),j < i+1->xs[j].key≠k):=Lib.hid (fun j hj hji=>by
     rcases Nat.lt_or_ge j i with h | h
     ·exact HNO.out j hj h
     ·have:j=i:=by omega
      subst this
      rw [HIX.out.2]
      exact he)
    rw [decide_eq_false he] at KX
    clear h3 e2 he HIX hix
    go_wp2_with fail
    refine KX.out.mono ?_
    rintro e w2 ⟨rfl,hb2⟩
    have HL2:=Lib.hid (HL.out.trans (hb2.mono HL.out.size))
    clear hb2 KX q0 q1 hg
    go_wp2
    go_roundg (gk - 1)
    case measure=>omega
    case rel=>exact ⟨i+1,by omega,by go_num,HL2,HNX⟩
  ·have hltI:¬ (i:Int) < (n:Int):=by omega
   have HF:Hid (b=false):=Lib.hid (by
    rw [<- HB.out]
    refine decide_eq_false (fun hm=>?_)
    obtain ⟨x,hx,e⟩:=List.mem_map.1 hm
    obtain ⟨j,hj,rfl⟩:=List.getElem_of_mem hx
    exact HNO.out j hj (by have:=HN.out;omega) e)
   go_wp2
   go_ret
   exact ⟨-1,rfl,by omega,by omega,by rw [HB.out,HF.out];rfl,HL.out⟩
theorem containsI_walk (h:IV w u xs) (hl:xs.length<=100000000) {kb k:Nat} (hk:w.cell? ⟨kb,0,none⟩=some (.int .u64 (k:Nat))) (hkb:kb < w.heap.size) :
  Calls Tryz.prog 182 #[u,.func (.func 181) #[] #[.pointer (some ⟨kb,0,none⟩)]] w (RetB w (decide (k∈keysI xs))):=by
 have HC:=Lib.hid (indexI_walk h hl hk hkb)
 obtain ⟨F,n,c,rfl⟩:=h.form
 obtain ⟨b,hb⟩:∃ b,decide (k∈keysI xs)=b:=⟨_,rfl⟩
 have HB:=Lib.hid hb
 rw [hb]
 clear h hl hb hk hkb
 go_enter Tryz.func182,Tryz.ntmps182
 go_wp2_with fail
 refine HC.out.mono ?_
 rintro e w1 ⟨r,rfl,h1,h2,h3,hbl⟩
 rw [HB.out] at h3
 have HBL:=Lib.hid hbl
 clear hbl
 by_cases h0:0<=r
 ·rw [decide_eq_true h0] at h3
  subst h3
  clear HC HB
  go_wp2
  go_ret
  exact ⟨by first | rfl | exact congrArg (fun x:Bool=>Ending.returned (Value.bool x)) (decide_eq_true h0),HBL.out⟩
 ·rw [decide_eq_false h0] at h3
  subst h3
  clear HC HB
  go_wp2
  go_ret
  exact ⟨congrArg (fun x:Bool=>Ending.returned (Value.bool x)) (decide_eq_false (by omega)),HBL.out⟩
set_option maxHeartbeats 2000000 in
theorem p10has_walk (hs:St10 w s u1 u2 u3) (ok:s.Ok) (k:Nat):Calls Tryz.prog 83 #[.agg (l10C s.c u1 u2 u3),.int .u64 (k:Nat)] w (RetB w (decide (k∈s.keys))):=by
 have hl1:=ok.len_small
 have hl2:=ok.len_main
 obtain ⟨F1,n1,d1,rfl⟩:=hs.form1
 obtain ⟨F2,n2,d2,rfl⟩:=hs.form2
 obtain ⟨F3,n3,d3,rfl⟩:=hs.form3
 have hb0:=low_two w (.cells (l10C s.c (.slice F1 n1 d1) (.slice F2 n2 d2) (.slice F3 n3 d3)) PT10) (.cells #[.int .u64 (k:Nat)] 56)
 obtain ⟨_,ht1,ht2,ht3⟩:=two_blocks (c:=(l10C s.c (.slice F1 n1 d1) (.slice F2 n2 d2) (.slice F3 n3 d3))) (t:=PT10) (d:=#[.int .u64 (k:Nat)]) (u:=56) (w:=w) (Below.refl _ _)
 have HS:=Lib.hid (hs.below hb0)
 have HB:=Lib.hid hb0
 have HT:=Lib.hid (And.intro ht2 ht3)
 have hk0:=(head_row ht3).cell (i:=0) (by simp)
 have K1:=Lib.hid (containsI_walk HS.out.g1 hl1 hk0 (head_row ht3).lt)
 have K2:Hid (∀ W,Below ((w.alloc (.cells (l10C s.c (.slice F1 n1 d1) (.slice F2 n2 d2) (.slice F3 n3 d3)) PT10)).alloc (.cells #[.int .u64 (k:Nat)] 56)).heap.size ((w.alloc (.cells (l10C s.c (.slice F1 n1 d1) (.slice F2 n2 d2) (.slice F3 n3 d3)) PT10)).alloc (.cells #[.int .u64 (k:Nat)] 56)) W->Calls Tryz.prog 182 #[.slice F2 n2 d2,.func (.func 181) #[] #[.pointer (some ⟨w.heap.size+1,0,none⟩)]] W (RetB W (decide (k∈keysI s.main)))):=Lib.hid (fun W hb=>containsI_walk (HS.out.below hb).g2 hl2 ((hb.cell (p:=⟨w.heap.size+1,0,none⟩) (head_row ht3).lt).trans hk0) (Nat.lt_of_lt_of_le (head_row ht3).lt hb.size))
 have HD:Hid (decide (k∈s.keys)=(decide (k∈keysI s.small) || decide (k∈keysI s.main))):=Lib.hid (by simp [L10.keys])
 obtain ⟨b1,hb1⟩:∃ b,decide (k∈keysI s.small)=b:=⟨_,rfl⟩
 obtain ⟨b3,hb3⟩:∃ b,decide (k∈keysI s.main)=b:=⟨_,rfl⟩
 rw [hb1,hb3] at HD
 rw [hb1] at K1
 rw [hb3] at K2
 rw [HD.out]
 obtain ⟨c,l1,l2,l3⟩:=s
 simp only at *
 clear hs ok hb1 hb3 HD ht1 ht2 ht3 hb0 hk0
 cases b1
 ·go_enter Tryz.func83,Tryz.ntmps83
  go_wp2_with fail
  refine K1.out.mono ?_
  rintro e w1 ⟨rfl,hb1⟩
  have KX:=Lib.hid (K2.out w1 hb1)
  have HT1:=Lib.hid ((hb1.block _ (head_row HT.out.1).lt).trans HT.out.1)
  have HB1:=Lib.hid (HB.out.trans (hb1.mono HB.out.size))
  clear hb1 K1 K2 HS HT
  obtain ⟨⟨x0,x1,x2,x3⟩,xf0,xf1,xf2,xf3⟩:=c4_at HT1.out
  go_wp2_with fail
  refine KX.out.mono ?_
  rintro e w2 ⟨rfl,hb2⟩
  have HB2:=Lib.hid (HB1.out.trans (hb2.mono HB1.out.size))
  clear hb2
  go_wp2
  go_ret
  exact ⟨by simp,HB2.out⟩
 ·go_enter Tryz.func83,Tryz.ntmps83
  go_wp2_with fail
  refine K1.out.mono ?_
  rintro e w1 ⟨rfl,hb1⟩
  have HB1:=Lib.hid (HB.out.trans (hb1.mono HB.out.size))
  clear hb1 K1 K2 HS HT
  go_wp2
  go_ret
  exact ⟨by simp,HB1.out⟩
set_option maxRecDepth 8000 in
set_option maxHeartbeats 2000000 in
theorem p10keys_walk (hs:St10 w s u1 u2 u3) (ok:s.Ok):Calls Tryz.prog 84 #[.agg (l10C s.c u1 u2 u3)] w (RetK w s.keys):=by
 have hl1:=ok.len_small
 have hl2:=ok.len_main
 have hlk:=ok.keysLen
 clear ok
 obtain ⟨F1,n1,d1,rfl⟩:=hs.form1
 obtain ⟨F2,n2,d2,rfl⟩:=hs.form2
 obtain ⟨F3,n3,d3,rfl⟩:=hs.form3
 have hlo:=low_one w (.cells (l10C s.c (.slice F1 n1 d1) (.slice F2 n2 d2) (.slice F3 n3 d3)) PT10)
 have hnew:=heap_alloc_new w (.cells (l10C s.c (.slice F1 n1 d1) (.slice F2 n2 d2) (.slice F3 n3 d3)) PT10)
 have HS:=Lib.hid (fun (W:World) (hb:Below w.heap.size w W)=>hs.below hb)
 unfold L10.keys at *
 obtain ⟨c,l1,l2,l3⟩:=s
 simp only at *
 have HLO:=Lib.hid hlo
 have hsz:w.heap.size<=(w.alloc (.cells (l10C c (.slice F1 n1 d1) (.slice F2 n2 d2) (.slice F3 n3 d3)) PT10)).heap.size:=hlo.size
 have HLD:Hid (∀ W:World,(Below (w.alloc (.cells (l10C c (.slice F1 n1 d1) (.slice F2 n2 d2) (.slice F3 n3 d3)) PT10)).heap.size (w.alloc (.cells (l10C c (.slice F1 n1 d1) (.slice F2 n2 d2) (.slice F3 n3 d3)) PT10)) W)->W.cell? ⟨w.heap.size,1,none⟩=some (.slice F1 n1 d1)/\W.cell? ⟨w.heap.size,2,none⟩=some (.slice F2 n2 d2)):=Lib.hid (fun W hb=>by
  obtain ⟨⟨x0,x1,x2,x3⟩,_⟩:=c4_at ((hb.block w.heap.size (by simp)).trans hnew)
  exact ⟨x1,x2⟩)
 obtain ⟨x1,x2⟩:=HLD.out _ (Below.refl _ _)
 have HLK:=Lib.hid hlk
 clear hs hlo hnew hlk
 go_enter Tryz.func84,Tryz.ntmps84
 go_wp2_with fail
 generalize w.alloc (.cells (l10C c (.slice F1 n1 d1) (.slice F2 n2 d2) (.slice F3 n3 d3)) PT10)=W0 at *
 go_region_held3 (fun w'=>w'.cell? ⟨w.heap.size,1,none⟩=some (.slice F1 n1 d1)/\w'.cell? ⟨w.heap.size,2,none⟩=some (.slice F2 n2 d2))
  (first | with_reducible exact kk3 | with_reducible exact kk2 | with_reducible exact kk1 | go_keep)
  (first
   | (go_at_call 184;refine (throughK_walk ((HS.out w1 (HLO.out.trans (hb1.mono hsz))).g2) hl2).mono ?_;rintro e w2 ⟨v2,rfl,hown2⟩;have hb2:=hb1.trans (hown2.low.mono hb1.size);have kk2:=HLD.out w2 hb2)
   | (refine step_append_kv (by rfl) (.tmp 7) (.tmp 11) (by rfl) W0.heap.size (by kernel_rfl) (by kernel_rfl) _ (keysI l1) (by rfl) (hown1.below hb1.size hown2.low) _ (keysI l2) (by rfl) hown2.kv (by have:=HLK.out;rw [List.length_append] at this;omega) hb2.size ?_;intro v3 w3 hown3;have hb3:=(below_drewn (Below.refl W0.heap.size W0) _).trans hown3.low;have kk3:=HLD.out w3 hb3)
   | (go_at_call 184;refine (throughK_walk ((HS.out _ (below_drewn HLO.out _)).g1) hl1).mono ?_;rintro e w1 ⟨v1,rfl,hown1⟩;have hb1:=(below_drewn (Below.refl W0.heap.size W0) _).trans hown1.low;have kk1:=HLD.out w1 hb1))
 have HF:=Lib.hid (And.intro (HLO.out.trans (hb3.mono hsz)) hown3.kv)
 clear hown1 hown2 hown3 kk1 kk2 kk3 hb1 hb2 hb3
 go_wp2
 go_ret
 exact ⟨_,rfl,HF.out.1,HF.out.2⟩
theorem p10ghosts_walk (hs:St10 w s u1 u2 u3) (_:s.Ok):Calls Tryz.prog 85 #[.agg (l10C s.c u1 u2 u3)] w fun e w'=>e = .returned (.int .i64 (s.ghosts:Nat))/\Below w.heap.size w w':=by
 obtain ⟨F1,n1,d1,rfl⟩:=hs.form1
 obtain ⟨F2,n2,d2,rfl⟩:=hs.form2
 obtain ⟨F3,d3,rfl,-⟩:=hs.g3.mem
 have HB:=Lib.hid (low_one w (.cells (l10C s.c (.slice F1 n1 d1) (.slice F2 n2 d2) (.slice F3 s.ghost.length d3)) PT10))
 unfold L10.ghosts
 clear hs
 obtain ⟨n,hn⟩:∃ n,s.ghost.length=n:=⟨_,rfl⟩
 rw [hn] at HB ⊢
 clear hn
 obtain ⟨c,l1,l2,l3⟩:=s
 simp only at *
 go_enter Tryz.func85,Tryz.ntmps85
 go_wp2
 go_ret
 exact ⟨rfl,by first | exact HB.out | exact Below.refl _ _⟩
end
set_option maxRecDepth 8000
abbrev LT10:TypeId:=292
abbrev leC (t:Nat) (v1 v2 v3 v4:Value):Array Value:=#[.int .i64 (t:Nat),v1,v2,v3,v4]
structure Lr (w0 w:World) (sm mn:List It) (ev gh:List Nat) (v1 v2 v3 v4:Value):Prop where
 sm:IV w v1 sm
 mn:IQ w0.heap.size w0 w v2 mn
 ev:KO w0.heap.size w0 w v3 ev
 gh:KO w0.heap.size w0 w v4 gh
 o12:Off v1 v2
 o13:Off v1 v3
 o14:Off v1 v4
 o34:v3.ownBlock=none∨v4.ownBlock=none∨v3.ownBlock≠v4.ownBlock
structure Bl (w0 w:World) (b t:Nat) (v1 v2 v3 v4:Value):Prop where
 ge:w0.heap.size<=b
 at_:w.heap[b]? = some (.cells (leC t v1 v2 v3 v4) LT10 (0,0))
section
variable {w0 w w':World} {sm mn mn':List It} {ev gh ev' gh':List Nat} {v1 v2 v3 v4 v2' v3' v4':Value} {b t:Nat}
theorem KO.typ {B:Nat} {v:Value} {ks:List Nat} (h:KO B w0 w v ks):∀ g,v.ownBlock=some g->B<=g/\g < w.heap.size/\∃ cs,w.heap[g]? = some (.cells cs 56 (0,0)):=fun k hk=>by
 rcases h.own.2 with ⟨rfl,_⟩ | ⟨g,cap,cur,rfl,hBg,hg,_⟩
 ·simp [Value.ownBlock] at hk
 ·simp [Value.ownBlock] at hk
  subst hk
  exact ⟨hBg,(Array.getElem?_eq_some_iff.1 hg).1,cur,hg⟩
theorem typ_ne {g k:Nat} {cs ds:Array Value} {T U:TypeId} (h:w.heap[g]? = some (.cells cs T (0,0))) (h2:w.heap[k]? = some (.cells ds U (0,0))) (hT:T≠U):g≠k:=fun e=>by
 subst e
 rw [h] at h2
 injection h2 with h2
 injection h2 with _ h2
 exact hT h2
theorem Lr.low (h:Lr w0 w sm mn ev gh v1 v2 v3 v4):Below w0.heap.size w0 w:=h.mn.low
theorem Lr.below (h:Lr w0 w sm mn ev gh v1 v2 v3 v4) (hb:Below w.heap.size w w'):Lr w0 w' sm mn ev gh v1 v2 v3 v4 :=
 ⟨h.sm.below hb,h.mn.below h.low.size hb,h.ev.below h.low.size hb,h.gh.below h.low.size hb,h.o12,h.o13,h.o14,h.o34⟩
theorem Bl.below (h:Bl w0 w b t v1 v2 v3 v4) (hb:Below w.heap.size w w'):Bl w0 w' b t v1 v2 v3 v4:=⟨h.ge,(hb.block b (head_row h.at_).lt).trans h.at_⟩
theorem Bl.only (h:Bl w0 w b t v1 v2 v3 v4) (h1:∃ F n c,v1 = .slice F n c) (h2:∃ F n c,v2 = .slice F n c) (h3:∃ F n c,v3 = .slice F n c) (h4:∃ F n c,v4 = .slice F n c):Bx w b:=by
 obtain ⟨_,_,_,rfl⟩:=h1
 obtain ⟨_,_,_,rfl⟩:=h2
 obtain ⟨_,_,_,rfl⟩:=h3
 obtain ⟨_,_,_,rfl⟩:=h4
 exact ⟨_,_,h.at_,rfl,by decide⟩
theorem IQ.frm {B:Nat} {v:Value} {xs:List It} (h:IQ B w0 w v xs):∃ F n c,v = .slice F n c:=by
 obtain ⟨F,c,e,_⟩:=h.form
 exact ⟨F,_,c,e⟩
theorem Lr.only_b {cs:Array Value} (h:Lr w0 w sm mn ev gh v1 v2 v3 v4) (hge:w0.heap.size<=b) (hb:w.heap[b]? = some (.cells cs LT10 (0,0))) (hn:NoU cs) (ho:Only [b] w w'):Lr w0 w' sm mn ev gh v1 v2 v3 v4:=by
 have hx:Bx w b:=⟨_,_,hb,hn,by decide⟩
 have h1:∀ g∈[b],Bx w g:=fun g hg=>by
  rw [List.mem_singleton] at hg
  subst hg
  exact hx
 have h2:∀ g∈[b],Bx w g/\w0.heap.size<=g:=fun g hg=>by
  rw [List.mem_singleton] at hg
  subst hg
  exact ⟨hx,hge⟩
 have h3:∀ g∈[b],(∃ cs t,w.heap[g]? = some (.cells cs t (0,0))/\t≠QTI10)/\w0.heap.size<=g:=fun g hg=>by
  rw [List.mem_singleton] at hg
  subst hg
  exact ⟨⟨_,_,hb,by decide⟩,hge⟩
 exact ⟨h.sm.only ho h1,h.mn.only ho h3 h.low.size,h.ev.only ho h2 h.low.size,h.gh.only ho h2 h.low.size,h.o12,h.o13,h.o14,h.o34⟩
theorem Lr.app2 (h:Lr w0 w sm mn ev gh v1 v2 v3 v4) (hq:IQ w0.heap.size w0 w' v2' mn') (ha:AppQ w0.heap.size w0 w w' v2 v2'):Lr w0 w' sm mn' ev gh v1 v2' v3 v4:=by
 obtain ⟨h1,h2⟩:=(Kp.grown ha.grown ha.at_).iv h.sm h.o12
 have hne:∀ {v:Value} {ks:List Nat},KO w0.heap.size w0 w v ks->v.ownBlock=none∨v.ownBlock≠v2.ownBlock:=fun {v ks} hk=>by
  rcases hv:v.ownBlock with _ | k
  ·exact .inl rfl
  ·refine .inr (fun e=>?_)
   obtain ⟨_,_,cs,hc⟩:=hk.typ k hv
   obtain ⟨_,_,ds,hd⟩:=h.mn.lt k e.symm
   exact typ_ne hc hd (by decide) rfl
 exact ⟨h1,hq,⟨hq.low,h.ev.own.kept ha.grown (hne h.ev)⟩,⟨hq.low,h.gh.own.kept ha.grown (hne h.gh)⟩,h2,h.o13,h.o14,h.o34⟩
theorem Lr.mn_k (h:Lr w0 w sm mn ev gh v1 v2 v3 v4) {v v':Value} {ks:List Nat} (hk:KO w0.heap.size w0 w v ks) (ha:AppQ w0.heap.size w0 w w' v v') (hl:Below w0.heap.size w0 w'):IQ w0.heap.size w0 w' v2 mn:=by
 refine ⟨hl,?_⟩
 rcases h.mn.own with q | ⟨g,off,c,cur,e,hBg,hg,rest⟩
 ·exact .inl q
 ·refine .inr ⟨g,off,c,cur,e,hBg,(ha.grown.block g (Array.getElem?_eq_some_iff.1 hg).1 (fun e2=>?_)).trans hg,rest⟩
  obtain ⟨_,_,cs,hc⟩:=hk.typ g e2.symm
  exact typ_ne hc hg (by decide) rfl
theorem Lr.app3 (h:Lr w0 w sm mn ev gh v1 v2 v3 v4) (hq:KO w0.heap.size w0 w' v3' ev') (ha:AppQ w0.heap.size w0 w w' v3 v3'):Lr w0 w' sm mn ev' gh v1 v2 v3' v4:=by
 obtain ⟨h1,h2⟩:=(Kp.grown ha.grown ha.at_).iv h.sm h.o13
 refine ⟨h1,h.mn_k h.ev ha hq.low,hq,⟨hq.low,h.gh.own.kept ha.grown ?_⟩,h.o12,h2,h.o14,?_⟩
 ·rcases h.o34 with e | e | e
  ·rcases hv:v4.ownBlock with _ | k
   ·exact .inl rfl
   ·exact .inr (by rw [e];simp)
  ·exact .inl e
  ·exact .inr (fun e2=>e e2.symm)
 ·rcases ha.at_ with e | e
  ·rw [e];exact h.o34
  ·rcases hv:v4.ownBlock with _ | k
   ·exact .inr (.inl rfl)
   ·refine .inr (.inr (fun e2=>?_))
    rw [e] at e2
    injection e2 with e2
    have:=(h.gh.typ k hv).2.1
    omega
theorem Lr.app4 (h:Lr w0 w sm mn ev gh v1 v2 v3 v4) (hq:KO w0.heap.size w0 w' v4' gh') (ha:AppQ w0.heap.size w0 w w' v4 v4'):Lr w0 w' sm mn ev gh' v1 v2 v3 v4':=by
 obtain ⟨h1,h2⟩:=(Kp.grown ha.grown ha.at_).iv h.sm h.o14
 refine ⟨h1,h.mn_k h.gh ha hq.low,⟨hq.low,h.ev.own.kept ha.grown ?_⟩,hq,h.o12,h.o13,h2,?_⟩
 ·rcases h.o34 with e | e | e
  ·exact .inl e
  ·rcases hv:v3.ownBlock with _ | k
   ·exact .inl rfl
   ·exact .inr (by rw [e];simp)
  ·exact .inr e
 ·rcases ha.at_ with e | e
  ·rw [e];exact h.o34
  ·rcases hv:v3.ownBlock with _ | k
   ·exact .inl rfl
   ·refine .inr (.inr (fun e2=>?_))
    rw [e] at e2
    injection e2 with e2
    have:=(h.ev.typ k hv).2.1
    omega
theorem Bl.grown {row:Option Nat} (h:Bl w0 w b t v1 v2 v3 v4) (hg:w.grownBy w' row) (hr:∀ g,row=some g->∃ cs T,w.heap[g]? = some (.cells cs T (0,0))/\T≠LT10):Bl w0 w' b t v1 v2 v3 v4 :=
 ⟨h.ge,(hg.block b (head_row h.at_).lt (fun e=>by
  obtain ⟨cs,T,hc,hT⟩:=hr b e.symm
  exact typ_ne hc h.at_ hT rfl)).trans h.at_⟩
theorem Lr.bl2 (h:Lr w0 w sm mn ev gh v1 v2 v3 v4) {u1 u2 u3 u4:Value} (hb:Bl w0 w b t u1 u2 u3 u4) (ha:AppQ w0.heap.size w0 w w' v2 v2'):Bl w0 w' b t u1 u2 u3 u4 :=
 hb.grown ha.grown (fun g e=>by
  obtain ⟨_,_,cs,hc⟩:=h.mn.lt g e
  exact ⟨cs,_,hc,by decide⟩)
theorem KO.bl {v v':Value} {ks:List Nat} (h:KO w0.heap.size w0 w v ks) {u1 u2 u3 u4:Value} (hb:Bl w0 w b t u1 u2 u3 u4) (ha:AppQ w0.heap.size w0 w w' v v'):Bl w0 w' b t u1 u2 u3 u4 :=
 hb.grown ha.grown (fun g e=>by
  obtain ⟨_,_,cs,hc⟩:=h.typ g e
  exact ⟨cs,_,hc,by decide⟩)
theorem Lr.put {F1 F2 F3 F4:Option Addr} {n1 n2 n3 n4 c1 c2 c3 c4:Nat} (h:Lr w0 w sm mn ev gh v1 v2 v3 v4) (hb:Bl w0 w b t (.slice F1 n1 c1) (.slice F2 n2 c2) (.slice F3 n3 c3) (.slice F4 n4 c4)) (i:Nat) (x:Value):Lr w0 (w.setCell ⟨b,i,none⟩ x) sm mn ev gh v1 v2 v3 v4 :=
 h.only_b hb.ge hb.at_ rfl ((Only.refl _ _).setCell (by simp) _)
theorem Bl.put1 (hb:Bl w0 w b t v1 v2 v3 v4) (x:Value):Bl w0 (w.setCell ⟨b,1,none⟩ x) b t x v2 v3 v4:=⟨hb.ge,set_one hb.at_⟩
theorem Bl.put2 (hb:Bl w0 w b t v1 v2 v3 v4) (x:Value):Bl w0 (w.setCell ⟨b,2,none⟩ x) b t v1 x v3 v4:=⟨hb.ge,set_one hb.at_⟩
theorem Bl.put3 (hb:Bl w0 w b t v1 v2 v3 v4) (x:Value):Bl w0 (w.setCell ⟨b,3,none⟩ x) b t v1 v2 x v4:=⟨hb.ge,set_one hb.at_⟩
theorem Bl.put4 (hb:Bl w0 w b t v1 v2 v3 v4) (x:Value):Bl w0 (w.setCell ⟨b,4,none⟩ x) b t v1 v2 v3 x:=⟨hb.ge,set_one hb.at_⟩
theorem Bl.cells (hb:Bl w0 w b t v1 v2 v3 v4):(w.cell? ⟨b,0,none⟩=some (.int .i64 (t:Nat))/\w.cell? ⟨b,1,none⟩=some v1/\w.cell? ⟨b,2,none⟩=some v2/\w.cell? ⟨b,3,none⟩=some v3/\w.cell? ⟨b,4,none⟩=some v4) /\
  w.frozen? ⟨b,0,none⟩=false/\w.frozen? ⟨b,1,none⟩=false/\w.frozen? ⟨b,2,none⟩=false/\w.frozen? ⟨b,3,none⟩=false/\w.frozen? ⟨b,4,none⟩=false:=c5_at hb.at_
theorem Bl.lt (hb:Bl w0 w b t v1 v2 v3 v4):b < w.heap.size:=(head_row hb.at_).lt
end
end Go.Proofs.YtcpggonengkgiaaGreatDoor
