/- Words and walks: S3L S3C S3Ep. -/
import Derived.Test.YtcpggonengkgiaaGreatDoorG12
import Derived.Deep.QuietTactic
import Derived.BigQuiet
namespace Go.Proofs.YtcpggonengkgiaaGreatDoor
open Go Go.RowKit Go.Deep
set_option maxRecDepth 8000
def fsP:List It->List It->List It × List It × Option Nat
 | [],m=>([],m,none)
 | t :: r,m=>if 1 < t.f then fsP r (⟨t.key,0⟩ :: m) else (r,m,some t.key)
theorem fsR_some:∀ (r m:List It) {k:Nat},(fsP r m).2.2=some k->fsR r m=((fsP r m).1,(fsP r m).2.1,k,true)
 | [],m,k,h=>by simp [fsP] at h
 | t :: r,m,k,h=>by
  unfold fsP at h ⊢
  unfold fsR
  split
  ·rename_i hc
   rw [if_pos hc] at h
   exact fsR_some r _ h
  ·rename_i hc
   rw [if_neg hc] at h
   injection h with h
   rw [h]
theorem fsR_none:∀ (r m:List It),(fsP r m).2.2=none->fsR r m=([],(fm (fsP r m).2.1).1,(fm (fsP r m).2.1).2,false)/\(fsP r m).1=[]
 | [],m,_=>⟨rfl,rfl⟩
 | t :: r,m,h=>by
  unfold fsP at h ⊢
  unfold fsR
  split
  ·rename_i hc
   rw [if_pos hc] at h
   exact fsR_none r _ h
  ·rename_i hc
   rw [if_neg hc] at h
   cases h
theorem fsP_len:∀ (r m:List It),(fsP r m).2.2=none->(fsP r m).2.1.length=r.length+m.length/\((∀ x∈m,x.f<=3)->∀ x∈(fsP r m).2.1,x.f<=3)
 | [],m,_=>⟨by simp [fsP],fun h=>h⟩
 | t :: r,m,h=>by
  unfold fsP at h ⊢
  split
  ·rename_i hc
   rw [if_pos hc] at h
   obtain ⟨h1,h2⟩:=fsP_len r _ h
   refine ⟨by rw [h1];simp;omega,fun hm=>h2 (fun x hx=>?_)⟩
   rcases List.mem_cons.1 hx with rfl | hx
   ·exact Nat.zero_le _
   ·exact hm x hx
  ·rename_i hc
   rw [if_neg hc] at h
   cases h
theorem Off.cut {F:Option Addr} {n c:Nat} {v:Value} (h:Off (.slice F (n+1) c) v):Off (.slice F n c) v:=fun m c' ad e=>by
 injection e with e1 e2 e3
 exact h n c ad (by rw [e1])
theorem Lr.ad {w0 w:World} {sm mn:List It} {ev gh:List Nat} {v1 v2 v3 v4:Value} (h:Lr w0 w sm mn ev gh v1 v2 v3 v4) (o:Obj):Lr w0 (w.alloc o).drew sm mn ev gh v1 v2 v3 v4:=h.below (below_drewn (low_one w o) 1)
theorem Bl.ad {w0 w:World} {v1 v2 v3 v4:Value} {b t:Nat} (h:Bl w0 w b t v1 v2 v3 v4) (o:Obj):Bl w0 (w.alloc o).drew b t v1 v2 v3 v4:=h.below (below_drewn (low_one w o) 1)
theorem heap_ad {w:World} {P:Nat} {x:Obj} (h:w.heap[P]? = some x) (o:Obj):(w.alloc o).drew.heap[P]? = some x:=(Below.heap_alloc w o P (Array.getElem?_eq_some_iff.1 h).1).trans h
theorem KV.one_ad (w:World) (k:Nat):KV (w.alloc (.cells #[.int .u64 (k:Nat)] 56)).drew (.slice (some ⟨w.heap.size,0,none⟩) 1 1) [k]:=(KV.one w k).drewn 1
theorem KO.far {w0 w w':World} {v v':Value} {ks:List Nat} {P:Nat} {cs:Array Value} {T:TypeId} (h:KO w0.heap.size w0 w v ks) (hP:w.heap[P]? = some (.cells cs T (0,0))) (ha:AppQ w0.heap.size w0 w w' v v') (hT:T≠56):w'.heap[P]? = some (.cells cs T (0,0)) :=
 (ha.grown.block P (head_row hP).lt (fun e=>by
  obtain ⟨_,_,ds,hd⟩:=h.typ P e.symm
  exact typ_ne hd hP (fun e=>hT e.symm) rfl)).trans hP
section
variable {w0 w:World} {sm mn:List It} {ev gh:List Nat} {v1 v2 v3 v4:Value} {b t:Nat}
structure Es (w0 wr:World) (b t:Nat) (ev gh:List Nat) (v3 v4:Value) (sm mn:List It) (v1 v2:Value) (N:Nat) (q:List It × List It × Option Nat):Prop where
 rows:Lr w0 wr sm mn ev gh v1 v2 v3 v4
 box:Bl w0 wr b t v1 v2 v3 v4
 len:sm.length+mn.length=N
 fs:fsP sm.reverse mn.reverse=q
theorem Es.next {wr w':World} {l M:List It} {x:It} {v1' v2':Value} {N:Nat} {q:List It × List It × Option Nat} (h:Es w0 wr b t ev gh v3 v4 (l ++ [x]) M v1 v2 N q) (hx:1 < x.f) (hr:Lr w0 w' l (M ++ [⟨x.key,0⟩]) ev gh v1' v2' v3 v4) (hb:Bl w0 w' b t v1' v2' v3 v4):Es w0 w' b t ev gh v3 v4 l (M ++ [⟨x.key,0⟩]) v1' v2' N q:=by
 refine ⟨hr,hb,?_,?_⟩
 ·have:=h.len
  rw [List.length_append] at this
  rw [List.length_append]
  simp at *
  omega
 ·rw [<- h.fs,List.reverse_append,List.reverse_append]
  simp [fsP,hx]
def EsP (w0:World) (b t:Nat) (ev gh:List Nat) (q:List It × List It × Option Nat) (e:Ending) (w':World):Prop:=∃ v1 v2 v3 v4,e = .returned (.bool q.2.2.isSome)/\Lr w0 w' q.1.reverse q.2.1.reverse (ev ++ q.2.2.toList) (gh ++ q.2.2.toList) v1 v2 v3 v4/\Bl w0 w' b t v1 v2 v3 v4
set_option maxHeartbeats 8000000 in
set_option maxRecDepth 8000 in
theorem esmall_walk (hL:Lr w0 w sm mn ev gh v1 v2 v3 v4) (hB:Bl w0 w b t v1 v2 v3 v4) (hl:sm.length+mn.length<=100000000) (hel:ev.length<=100000000) (hgl:gh.length<=100000000) :
  Calls Tryz.prog 297 #[.pointer (some ⟨b,0,none⟩)] w (EsP w0 b t ev gh (fsP sm.reverse mn.reverse)):=by
 obtain ⟨F3,n3,c3,rfl⟩:=hL.ev.kv.form
 obtain ⟨F4,n4,c4,rfl⟩:=hL.gh.kv.form
 obtain ⟨q,hq⟩:∃ q,fsP sm.reverse mn.reverse=q:=⟨_,rfl⟩
 have HI0:Hid (Es w0 w b t ev gh (.slice F3 n3 c3) (.slice F4 n4 c4) sm mn v1 v2 (sm.length+mn.length) q):=Lib.hid ⟨hL,hB,rfl,hq⟩
 rw [hq]
 have HLL:=Lib.hid hl
 have HEL:=Lib.hid (And.intro hel hgl)
 clear hL hB hl hel hgl hq
 go_enter Tryz.func297,Tryz.ntmps297
 go_wp2_with fail
 go_loopg [] sm.length (fun gg wr=>∃ (sm' mn':List It) (v1 v2:Value),gg=sm'.length/\Hid (Es w0 wr b t ev gh (.slice F3 n3 c3) (.slice F4 n4 c4) sm' mn' v1 v2 (sm.length+mn.length) q))
 case atStart=>exact ⟨sm,mn,v1,v2,rfl,HI0⟩
 case round =>
  clear HI0
  obtain ⟨S,M,v1,v2,hgg,HI⟩:=hrel
  obtain ⟨F2,n2,c2,rfl⟩:=HI.out.rows.mn.frm
  obtain ⟨F1,c1,rfl,hle,_,h3⟩:=HI.out.rows.sm.mem
  have hSM:S.length+M.length<=100000000:=by have:=HI.out.len;have:=HLL.out;omega
  obtain ⟨⟨x0,x1,x2,x3,x4⟩,xf0,xf1,xf2,xf3,xf4⟩:=HI.out.box.cells
  have hbb:=HI.out.box.lt
  by_cases hS:S=[]
  ·subst hS
   have HQ:Hid (q=([],M.reverse,none)):=Lib.hid HI.out.fs.symm
   clear h3 hle hgg
   simp only [List.length_nil] at x1
   have HF:Hid (Lr w0 wr [] M ev gh _ _ _ _/\Bl w0 wr b t _ _ _ _):=Lib.hid ⟨HI.out.rows,HI.out.box⟩
   clear HI
   go_wp2
   exact bodyPost_ret (v := .bool false) (by simp [results,Tryz.results297,go_sem]) rfl (by
    rw [HQ.out]
    refine ⟨_,_,_,_,rfl,?_,HF.out.2⟩
    show Lr w0 wr [] M.reverse.reverse (ev ++ []) (gh ++ []) _ _ _ _
    rw [List.reverse_reverse,List.append_nil,List.append_nil]
    exact HF.out.1)
  ·obtain ⟨l,x,rfl⟩:=snoc_of hS
   have hlen:(l ++ [x]).length=l.length+1:=by simp
   obtain ⟨g,off,hF,hg,q0,q1⟩:=h3 l.length (by simp)
   subst hF
   have hx:(l ++ [x])[l.length]'(by simp)=x:=by simp
   rw [hx] at q0 q1
   rw [hlen] at hle hgg hSM x1 HI
   obtain ⟨n,hn⟩:∃ n,l.length=n:=⟨_,rfl⟩
   rw [hn] at hle hgg hSM x1 q0 q1 HI
   have HN:=Lib.hid (And.intro hn hSM)
   clear h3 hS hx hlen
   obtain ⟨k,f⟩:=x
   dsimp only at q0 q1
   have hnI:(n:Int)<=100000000:=by omega
   have hkc:n<=c1:=by omega
   have hkcI:(n:Int)<=(c1:Int):=by omega
   have hneP:b≠wr.heap.size:=by omega
   have hneP2:wr.heap.size≠b:=by omega
   have HLT:Hid (Lr w0 wr l M ev gh (.slice (some ⟨g,off,none⟩) n c1) (.slice F2 n2 c2) (.slice F3 n3 c3) (.slice F4 n4 c4)):=Lib.hid (by
    have hr:=HI.out.rows
    obtain ⟨F',c',e,hk⟩:=hr.sm.take l.length (by simp)
    injection e with e1 e2 e3
    subst e1 e3
    rw [List.take_left,hn] at hk
    exact ⟨hk,hr.mn,hr.ev,hr.gh,hr.o12.cut,hr.o13.cut,hr.o14.cut,hr.o34⟩)
   have HO2:Hid (Only [b] wr ((wr.setCell ⟨b,1,none⟩ (.slice (some ⟨g,off,none⟩) n c1)).alloc (.cells #[.int .u64 (k:Nat),.int .i64 (f:Nat)] QTI10))):=Lib.hid (((Only.refl _ _).setCell (by simp) _).alloc _)
   have HB2:Hid (Bl w0 ((wr.setCell ⟨b,1,none⟩ (.slice (some ⟨g,off,none⟩) n c1)).alloc (.cells #[.int .u64 (k:Nat),.int .i64 (f:Nat)] QTI10)) b t (.slice (some ⟨g,off,none⟩) n c1) (.slice F2 n2 c2) (.slice F3 n3 c3) (.slice F4 n4 c4)):=Lib.hid ((HI.out.box.put1 _).below (low_one _ _))
   have HP2:Hid (((wr.setCell ⟨b,1,none⟩ (.slice (some ⟨g,off,none⟩) n c1)).alloc (.cells #[.int .u64 (k:Nat),.int .i64 (f:Nat)] QTI10)).heap[wr.heap.size]? = some (.cells #[.int .u64 (k:Nat),.int .i64 (f:Nat)] QTI10 (0,0))):=Lib.hid (by
    have h:=heap_alloc_new (wr.setCell ⟨b,1,none⟩ (.slice (some ⟨g,off,none⟩) n c1)) (.cells #[.int .u64 (k:Nat),.int .i64 (f:Nat)] QTI10)
    simpa using h)
   go_upto_region 5 with fail
   generalize (wr.setCell ⟨b,1,none⟩ (.slice (some ⟨g,off,none⟩) n c1)).alloc (.cells #[.int .u64 (k:Nat),.int .i64 (f:Nat)] QTI10)=W2 at HO2 HB2 HP2 ⊢
   have HL2:Hid (Lr w0 W2 l M ev gh (.slice (some ⟨g,off,none⟩) n c1) (.slice F2 n2 c2) (.slice F3 n3 c3) (.slice F4 n4 c4)):=Lib.hid (HLT.out.only_b HI.out.box.ge HI.out.box.at_ rfl HO2.out)
   clear x0 x1 x2 x3 x4 xf0 xf1 xf2 xf3 xf4 q0 q1 hg hbb HLT HO2 hle
   obtain ⟨⟨x0,x1,x2,x3,x4⟩,xf0,xf1,xf2,xf3,xf4⟩:=HB2.out.cells
   have hbb:=HB2.out.lt
   obtain ⟨⟨p0,p1⟩,pf0,pf1⟩:=c2_at HP2.out
   have hpp:=(head_row HP2.out).lt
   generalize hP:wr.heap.size=P at *
   clear hP
   by_cases hf1:f<=1
   ·have hfI:(f:Int)<=1:=by omega
    have HQ:Hid (q=(l.reverse,M.reverse,some k)):=Lib.hid (by
     rw [<- HI.out.fs]
     simp only [List.reverse_append,List.reverse_cons,List.reverse_nil,List.nil_append,List.cons_append,fsP]
     rw [if_neg (show ¬ 1 < f by omega)])
    clear HI hf1
    have HLA:=Lib.hid (HL2.out.ad (.cells #[.int .u64 (k:Nat)] 56))
    have HBA:=Lib.hid (HB2.out.ad (.cells #[.int .u64 (k:Nat)] 56))
    have HPA:=Lib.hid (heap_ad HP2.out (.cells #[.int .u64 (k:Nat)] 56))
    clear HL2 HB2 HP2
    go_wp2_with fail
    go_cut [] (fun wx=>∃ F6 n6 c6,Lr w0 wx l M (ev ++ [k]) gh (.slice (some ⟨g,off,none⟩) n c1) (.slice F2 n2 c2) (.slice F6 n6 c6) (.slice F4 n4 c4)/\Bl w0 wx b t (.slice (some ⟨g,off,none⟩) n c1) (.slice F2 n2 c2) (.slice F6 n6 c6) (.slice F4 n4 c4)/\wx.heap[P]? = some (.cells #[.int .u64 (k:Nat),.int .i64 (f:Nat)] QTI10 (0,0)))
    case first =>
     go_region_law
      (refine step_append_kq (by rfl) (.tmp 40) (.tmp 43) (by rfl) (by kernel_rfl) (by kernel_rfl) w0.heap.size _ ev (by rfl) HLA.out.ev HLA.out.low.size _ k (by rfl) (KV.one_ad _ k) (by have:=HEL.out.1;omega) ?_;intro v6 w6 hq6 ha6;obtain ⟨F6,n6,c6,rfl⟩:=hq6.kv.form;have hb6:=HLA.out.ev.bl HBA.out ha6;have hp6:=HLA.out.ev.far HPA.out ha6 (by decide);obtain ⟨⟨kk0,kk1,kk2,kk3,kk4⟩,kf0,kf1,kf2,kf3,kf4⟩:=hb6.cells;have hlt6:=hb6.lt)
     all_goals
      go_wp2_with fail
      go_meet
      exact ⟨_,_,_,(HLA.out.app3 hq6 ha6).put hb6 3 _,hb6.put3 _,(Below.heap_setCell _ _ _ _ hneP2).trans hp6⟩
    case rest =>
     obtain ⟨F6,n6,c6,hl6,hb6,hp6⟩:=hcut
     have HL6:=Lib.hid hl6
     have HB6:=Lib.hid hb6
     have HP6:=Lib.hid hp6
     clear hl6 hb6 hp6 HLA HBA HPA x0 x1 x2 x3 x4 xf0 xf1 xf2 xf3 xf4 p0 p1 pf0 pf1 hbb hpp
     obtain ⟨⟨x0,x1,x2,x3,x4⟩,xf0,xf1,xf2,xf3,xf4⟩:=HB6.out.cells
     have hbb:=HB6.out.lt
     obtain ⟨⟨p0,p1⟩,pf0,pf1⟩:=c2_at HP6.out
     have hpp:=(head_row HP6.out).lt
     have HLA:=Lib.hid (HL6.out.ad (.cells #[.int .u64 (k:Nat)] 56))
     have HBA:=Lib.hid (HB6.out.ad (.cells #[.int .u64 (k:Nat)] 56))
     have HPA:=Lib.hid (heap_ad HP6.out (.cells #[.int .u64 (k:Nat)] 56))
     clear HL6 HB6 HP6
     go_wp2_with fail
     go_region_law
      (refine step_append_kq (by rfl) (.tmp 51) (.tmp 54) (by rfl) (by kernel_rfl) (by kernel_rfl) w0.heap.size _ gh (by rfl) HLA.out.gh HLA.out.low.size _ k (by rfl) (KV.one_ad _ k) (by have:=HEL.out.2;omega) ?_;intro v7 w7 hq7 ha7;obtain ⟨F7,n7,c7,rfl⟩:=hq7.kv.form;have hb7:=HLA.out.gh.bl HBA.out ha7;obtain ⟨⟨kk0,kk1,kk2,kk3,kk4⟩,kf0,kf1,kf2,kf3,kf4⟩:=hb7.cells;have hlt7:=hb7.lt)
     all_goals
      have HF:Hid (Lr w0 (w7.setCell ⟨b,4,none⟩ (.slice F7 n7 c7)) l M (ev ++ [k]) (gh ++ [k]) (.slice (some ⟨g,off,none⟩) n c1) (.slice F2 n2 c2) (.slice F6 n6 c6) (.slice F7 n7 c7)/\Bl w0 (w7.setCell ⟨b,4,none⟩ (.slice F7 n7 c7)) b t (.slice (some ⟨g,off,none⟩) n c1) (.slice F2 n2 c2) (.slice F6 n6 c6) (.slice F7 n7 c7)):=Lib.hid ⟨(HLA.out.app4 hq7 ha7).put hb7 4 _,hb7.put4 _⟩
      clear hq7 ha7 hb7 HLA HBA HPA x0 x1 x2 x3 x4 xf0 xf1 xf2 xf3 xf4 p0 p1 pf0 pf1
      go_wp2
      exact bodyPost_ret (v := .bool true) (by simp [results,Tryz.results297,go_sem]) rfl (by
       rw [HQ.out]
       refine ⟨_,_,_,_,rfl,?_,HF.out.2⟩
       show Lr w0 _ l.reverse.reverse M.reverse.reverse (ev ++ [k]) (gh ++ [k]) _ _ _ _
       rw [List.reverse_reverse,List.reverse_reverse]
       exact HF.out.1)
   ·have hfI:¬ (f:Int)<=1:=by omega
    have HLA:Hid (Lr w0 (W2.alloc (.cells #[.int .u64 (k:Nat),.int .i64 0] QTI10)).drew l M ev gh (.slice (some ⟨g,off,none⟩) n c1) (.slice F2 n2 c2) (.slice F3 n3 c3) (.slice F4 n4 c4)):=Lib.hid (HL2.out.below (below_drewn (low_one W2 (.cells #[.int .u64 (k:Nat),.int .i64 0] QTI10)) 1))
    have HBA:Hid (Bl w0 (W2.alloc (.cells #[.int .u64 (k:Nat),.int .i64 0] QTI10)).drew b t (.slice (some ⟨g,off,none⟩) n c1) (.slice F2 n2 c2) (.slice F3 n3 c3) (.slice F4 n4 c4)):=Lib.hid (HB2.out.below (below_drewn (low_one W2 (.cells #[.int .u64 (k:Nat),.int .i64 0] QTI10)) 1))
    have HSA:Hid (IV (W2.alloc (.cells #[.int .u64 (k:Nat),.int .i64 0] QTI10)).drew (.slice (some ⟨W2.heap.size,0,none⟩) 1 1) [⟨k,0⟩]):=Lib.hid ((IV.one W2 QTI10 ⟨k,0⟩).drewn 1)
    clear HL2 HB2 HP2
    go_wp2_with fail
    go_region_law
     (refine step_append_iq (by rfl) (.tmp 62) (.tmp 66) 30 (by rfl) (by kernel_rfl) (by kernel_rfl) w0.heap.size _ M (by rfl) HLA.out.mn HLA.out.low.size _ ⟨k,0⟩ (by rfl) HSA.out (by have:=HN.out.2;omega) ?_;intro v6 w6 hq6 ha6;obtain ⟨F6,n6,c6,rfl⟩:=hq6.frm;have hb6:=HLA.out.bl2 HBA.out ha6;obtain ⟨⟨kk0,kk1,kk2,kk3,kk4⟩,kf0,kf1,kf2,kf3,kf4⟩:=hb6.cells;have hlt6:=hb6.lt)
    all_goals
     have HF:=Lib.hid (HI.out.next (by show 1 < f;omega) ((HLA.out.app2 hq6 ha6).put hb6 2 (.slice F6 n6 c6)) (hb6.put2 (.slice F6 n6 c6)))
     clear hq6 ha6 hb6 HLA HBA HSA HI x0 x1 x2 x3 x4 xf0 xf1 xf2 xf3 xf4 p0 p1 pf0 pf1
     go_wp2
     go_roundg n
     case measure=>omega
     case rel=>exact ⟨l,M ++ [⟨k,0⟩],_,_,HN.out.1.symm,HF⟩
end
set_option maxRecDepth 8000
def remB (s:L10):Bool:=if tgt s.c<=s.small.length∨s.main.length=0 then (fsR s.small.reverse s.main).2.2.2 else false
theorem evict_small {s:L10} (h:tgt s.c<=s.small.length∨s.main.length=0):s.evict=s.fromSmall:=by unfold L10.evict;rw [if_pos h]
theorem evict_main {s:L10} (h:¬ (tgt s.c<=s.small.length∨s.main.length=0)):s.evict=s.fromMain:=by unfold L10.evict;rw [if_neg h]
theorem evict_ghost (s:L10):s.evict.1.ghost=if remB s then (fr s.evict.2 s.ghost).take (room s.c) else s.ghost:=by
 by_cases h:tgt s.c<=s.small.length∨s.main.length=0
 ·rw [evict_small h,remB,if_pos h]
  rfl
 ·rw [evict_main h,remB,if_neg h]
  rfl
def remL (s:L10):List Nat:=if remB s then [s.evict.2] else []
section
variable {w0 w:World} {ev gh:List Nat} {v1 v2 v3 v4:Value} {b:Nat} {s:L10}
def EoP (w0:World) (b t:Nat) (s:L10) (ev gh:List Nat) (e:Ending) (w':World):Prop:=∃ v1 v2 v3 v4,e = .returned (.tuple #[])/\Lr w0 w' s.evict.1.small s.evict.1.main.reverse (ev ++ [s.evict.2]) (gh ++ remL s) v1 v2 v3 v4/\Bl w0 w' b t v1 v2 v3 v4
theorem eo_some {wx:World} {t k:Nat} {q:List It × List It × Option Nat} (h:tgt s.c<=s.small.length∨s.main.length=0) (hq:fsP s.small.reverse s.main=q) (hk:q.2.2=some k)
  (hl:Lr w0 wx q.1.reverse q.2.1.reverse (ev ++ q.2.2.toList) (gh ++ q.2.2.toList) v1 v2 v3 v4) (hb:Bl w0 wx b t v1 v2 v3 v4):EoP w0 b t s ev gh (.returned (.tuple #[])) wx:=by
 have hr:=fsR_some s.small.reverse s.main (by rw [hq];exact hk)
 rw [hq] at hr
 rw [hk] at hl
 refine ⟨v1,v2,v3,v4,rfl,?_,hb⟩
 have e1:remB s=true:=by rw [remB,if_pos h,hr]
 rw [remL,e1,if_pos rfl,evict_small h]
 unfold L10.fromSmall
 rw [hr]
 exact hl
theorem eo_none {wx:World} {t:Nat} {q:List It × List It × Option Nat} (h:tgt s.c<=s.small.length∨s.main.length=0) (hq:fsP s.small.reverse s.main=q) (hk:q.2.2=none)
  (hl:Lr w0 wx q.1.reverse (fm q.2.1).1.reverse (ev ++ [(fm q.2.1).2]) gh v1 v2 v3 v4) (hb:Bl w0 wx b t v1 v2 v3 v4):EoP w0 b t s ev gh (.returned (.tuple #[])) wx:=by
 obtain ⟨hr,h1⟩:=fsR_none s.small.reverse s.main (by rw [hq];exact hk)
 rw [hq] at hr h1
 rw [h1] at hl
 refine ⟨v1,v2,v3,v4,rfl,?_,hb⟩
 have e1:remB s=false:=by rw [remB,if_pos h,hr]
 rw [remL,e1,if_neg (by decide),List.append_nil,evict_small h]
 unfold L10.fromSmall
 rw [hr]
 exact hl
theorem eo_main {wx:World} {t:Nat} (h:¬ (tgt s.c<=s.small.length∨s.main.length=0)) (hl:Lr w0 wx s.small (fm s.main).1.reverse (ev ++ [(fm s.main).2]) gh v1 v2 v3 v4) (hb:Bl w0 wx b t v1 v2 v3 v4):EoP w0 b t s ev gh (.returned (.tuple #[])) wx:=by
 refine ⟨v1,v2,v3,v4,rfl,?_,hb⟩
 have e1:remB s=false:=by rw [remB,if_neg h]
 rw [remL,e1,if_neg (by decide),List.append_nil,evict_main h]
 exact hl
set_option maxHeartbeats 2000000 in
theorem eone_walk (hL:Lr w0 w s.small s.main.reverse ev gh v1 v2 v3 v4) (hB:Bl w0 w b (tgt s.c) v1 v2 v3 v4) (hp:0 < s.total) (ht:s.total<=1048576) (hc:s.c<=1048576) (hf:∀ x∈s.main,x.f<=3) (hel:ev.length<=100000000) (hgl:gh.length<=100000000) :
  Calls Tryz.prog 265 #[.pointer (some ⟨b,0,none⟩)] w (EoP w0 b (tgt s.c) s ev gh):=by
 obtain ⟨F1,c1,rfl,-⟩:=hL.sm.mem
 obtain ⟨F2,c2,rfl,-⟩:=hL.mn.form
 obtain ⟨F3,n3,c3,rfl⟩:=hL.ev.kv.form
 obtain ⟨F4,n4,c4,rfl⟩:=hL.gh.kv.form
 have htt:s.total=s.small.length+s.main.length:=rfl
 have HSM:Hid (∀ W,Below w.heap.size w W->Calls Tryz.prog 297 #[.pointer (some ⟨b,0,none⟩)] W (EsP w0 b (tgt s.c) ev gh (fsP s.small.reverse s.main))):=Lib.hid (fun W hb=>by
  have h:=esmall_walk (hL.below hb) (hB.below hb) (by rw [List.length_reverse];omega) hel hgl
  rw [List.reverse_reverse] at h
  exact h)
 have HMN:Hid (s.main≠[]->∀ W,Below w.heap.size w W->Calls Tryz.prog 298 #[.pointer (some ⟨b,0,none⟩)] W (EmP w0 b (tgt s.c) s.small ev gh (.slice F1 s.small.length c1) (.slice F4 n4 c4) (fm s.main))):=Lib.hid (fun hm W hb=>by
  have h:=emain_walk (hL.below hb) (hB.below hb) (by simpa using hm) (by rw [List.length_reverse];omega) hel (fun x hx=>hf x (by simpa using hx))
  rw [List.reverse_reverse] at h
  exact h)
 have HEL:=Lib.hid hel
 have HFF:=Lib.hid hf
 have HTP:=Lib.hid (And.intro hp ht)
 obtain ⟨n1,hn1⟩:∃ n,s.small.length=n:=⟨_,rfl⟩
 obtain ⟨n2,hn2⟩:∃ n,s.main.length=n:=⟨_,rfl⟩
 obtain ⟨q,hq⟩:∃ q,tgt s.c=q:=⟨_,rfl⟩
 have hqc:q<=1048576:=by
  have:tgt s.c<=max 1 s.c:=by unfold tgt;split <;> omega
  omega
 rw [List.length_reverse] at hB hL
 rw [hn1,hn2] at htt hB hL
 rw [hn1] at HMN
 rw [hq] at hB HSM HMN ⊢
 have HN:=Lib.hid (And.intro hn1 (And.intro hn2 hq))
 have hqI:(q:Int)<=1048576:=by omega
 have hn1I:(n1:Int)<=1048576:=by omega
 have hn2I:(n2:Int)<=1048576:=by omega
 have HTT:=Lib.hid htt
 obtain ⟨⟨x0,x1,x2,x3,x4⟩,xf0,xf1,xf2,xf3,xf4⟩:=hB.cells
 have hbb:=hB.lt
 clear hL hB hel hgl hf hp ht htt hn1 hn2 hq hqc
 by_cases hA:q<=n1
 ·have hAI:((q:Nat):Int)<=((n1:Nat):Int):=by omega
  have hAd:decide (((q:Nat):Int)<=((n1:Nat):Int))=true:=decide_eq_true hAI
  have HC:Hid (tgt s.c<=s.small.length∨s.main.length=0):=Lib.hid (by rw [HN.out.1,HN.out.2.1,HN.out.2.2];exact .inl hA)
  have KR:=Lib.hid (fun m:Nat=>HSM.out (w.drewN m) (below_drewn (Below.refl _ _) m))
  obtain ⟨Q,hQ⟩:∃ Q,fsP s.small.reverse s.main=Q:=⟨_,rfl⟩
  rw [hQ] at KR
  have HQ:=Lib.hid hQ
  clear HSM HMN hQ
  go_enter Tryz.func265,Tryz.ntmps265
  go_wp2_with fail
  go_quiet (fail)
  go_wp2_with fail
  refine (KR.out _).mono ?_
  rintro e w5 ⟨u1,u2,u3,u4,rfl,hl5,hb5⟩
  obtain ⟨ko,hko⟩:∃ ko,Q.2.2=ko:=⟨_,rfl⟩
  rw [hko]
  cases ko with
  | some k =>
   have HF:=Lib.hid (eo_some HC.out HQ.out hko hl5 hb5)
   clear hl5 hb5 hko KR x0 x1 x2 x3 x4 xf0 xf1 xf2 xf3 xf4 hbb
   go_wp2
   exact bodyPost_ret (v := .tuple #[]) (by simp [results,Tryz.results265,go_sem]) rfl (by rw [<- HN.out.2.2];rw [<- HN.out.2.2] at HF;exact HF.out)
  | none =>
   have hl6:=hl5
   rw [hko] at hl6
   obtain ⟨hln,hfl⟩:=fsP_len s.small.reverse s.main (by rw [HQ.out];exact hko)
   rw [HQ.out] at hln hfl
   rw [List.length_reverse] at hln
   have KM:=Lib.hid (emain_walk (ev:=ev) (gh:=gh) (by simpa using hl6) hb5 (by
    intro e
    rw [List.reverse_eq_nil_iff] at e
    rw [e] at hln
    have h1:=HTP.out.1
    have h2:=HTT.out
    have h3:=HN.out
    simp at hln
    omega) (by rw [List.length_reverse,hln];have h1:=HTP.out.2;have h2:=HTT.out;have h3:=HN.out;omega) HEL.out (fun x hx=>hfl HFF.out x (by simpa using hx)))
   rw [List.reverse_reverse] at KM
   have HKO:=Lib.hid hko
   clear hl5 hl6 hb5 hko hln hfl KR x0 x1 x2 x3 x4 xf0 xf1 xf2 xf3 xf4 hbb
   go_wp2_with fail
   refine KM.out.mono ?_
   rintro e w7 ⟨u2',u3',rfl,hl7,hb7⟩
   have HF:=Lib.hid (eo_none HC.out HQ.out HKO.out hl7 hb7)
   clear hl7 hb7 KM
   go_wp2
   first
    | exact bodyPost_ret (v := .tuple #[]) (by simp [results,Tryz.results265,go_sem]) rfl HF.out
    | (go_end0;exact HF.out)
 ·have hAI:¬ ((q:Nat):Int)<=((n1:Nat):Int):=by omega
  have hAd:decide (((q:Nat):Int)<=((n1:Nat):Int))=false:=decide_eq_false hAI
  by_cases hB:n2=0
  ·obtain rfl:n2=0:=hB
   have HC:Hid (tgt s.c<=s.small.length∨s.main.length=0):=Lib.hid (by rw [HN.out.1,HN.out.2.1,HN.out.2.2];exact .inr rfl)
   have KR:=Lib.hid (fun m:Nat=>HSM.out (w.drewN m) (below_drewn (Below.refl _ _) m))
   obtain ⟨Q,hQ⟩:∃ Q,fsP s.small.reverse s.main=Q:=⟨_,rfl⟩
   rw [hQ] at KR
   have HQ:=Lib.hid hQ
   clear HSM HMN hQ
   go_enter Tryz.func265,Tryz.ntmps265
   go_wp2_with fail
   go_quiet (fail)
   go_wp2_with fail
   refine (KR.out _).mono ?_
   rintro e w5 ⟨u1,u2,u3,u4,rfl,hl5,hb5⟩
   obtain ⟨ko,hko⟩:∃ ko,Q.2.2=ko:=⟨_,rfl⟩
   rw [hko]
   cases ko with
   | some k =>
    have HF:=Lib.hid (eo_some HC.out HQ.out hko hl5 hb5)
    clear hl5 hb5 hko KR x0 x1 x2 x3 x4 xf0 xf1 xf2 xf3 xf4 hbb
    go_wp2
    exact bodyPost_ret (v := .tuple #[]) (by simp [results,Tryz.results265,go_sem]) rfl (by rw [<- HN.out.2.2];rw [<- HN.out.2.2] at HF;exact HF.out)
   | none =>
    have hl6:=hl5
    rw [hko] at hl6
    obtain ⟨hln,hfl⟩:=fsP_len s.small.reverse s.main (by rw [HQ.out];exact hko)
    rw [HQ.out] at hln hfl
    rw [List.length_reverse] at hln
    have KM:=Lib.hid (emain_walk (ev:=ev) (gh:=gh) (by simpa using hl6) hb5 (by
     intro e
     rw [List.reverse_eq_nil_iff] at e
     rw [e] at hln
     have h1:=HTP.out.1
     have h2:=HTT.out
     have h3:=HN.out
     simp at hln
     omega) (by rw [List.length_reverse,hln];have h1:=HTP.out.2;have h2:=HTT.out;have h3:=HN.out;omega) HEL.out (fun x hx=>hfl HFF.out x (by simpa using hx)))
    rw [List.reverse_reverse] at KM
    have HKO:=Lib.hid hko
    clear hl5 hl6 hb5 hko hln hfl KR x0 x1 x2 x3 x4 xf0 xf1 xf2 xf3 xf4 hbb
    go_wp2_with fail
    refine KM.out.mono ?_
    rintro e w7 ⟨u2',u3',rfl,hl7,hb7⟩
    have HF:=Lib.hid (eo_none HC.out HQ.out HKO.out hl7 hb7)
    clear hl7 hb7 KM
    go_wp2
    first
     | exact bodyPost_ret (v := .tuple #[]) (by simp [results,Tryz.results265,go_sem]) rfl HF.out
     | (go_end0;exact HF.out)
  ·have hBd:((((n2:Nat):Int)) == 0)=false:=by rw [beq_eq_false_iff_ne];omega
   have HC:Hid (¬ (tgt s.c<=s.small.length∨s.main.length=0)):=Lib.hid (by rw [HN.out.1,HN.out.2.1,HN.out.2.2];omega)
   have KR:=Lib.hid (fun m:Nat=>HMN.out (fun e=>HC.out (.inr (by rw [e];rfl))) (w.drewN m) (below_drewn (Below.refl _ _) m))
   clear HSM HMN
   go_enter Tryz.func265,Tryz.ntmps265
   go_wp2_with fail
   go_quiet (fail)
   go_wp2_with fail
   refine (KR.out _).mono ?_
   rintro e w7 ⟨u2',u3',rfl,hl7,hb7⟩
   have HF:=Lib.hid (eo_main HC.out hl7 hb7)
   clear hl7 hb7 KR x0 x1 x2 x3 x4 xf0 xf1 xf2 xf3 xf4 hbb
   go_wp2
   first
    | exact bodyPost_ret (v := .tuple #[]) (by simp [results,Tryz.results265,go_sem]) rfl HF.out
    | (go_end0;exact HF.out)
end
set_option maxRecDepth 8000
theorem take_cons_same {k R:Nat} {X Y:List Nat} (h:X.take R=Y.take R):(k :: X).take R=(k :: Y).take R:=by
 cases R with
 | zero=>rfl
 | succ r =>
  rw [List.take_succ_cons,List.take_succ_cons]
  have h2:=congrArg (List.take r) h
  rw [List.take_take,List.take_take,Nat.min_eq_left (by omega)] at h2
  rw [h2]
structure Ep (s:L10) (N m:Nat) (σ:L10) (ev gh:List Nat):Prop where
 out:ev ++ (L10.shrN m σ).2=s.shrOut N
 li:(L10.shrN m σ).1=s.shr N
 fine:σ.Fine
 c:σ.c=s.c
 tot:σ.total<=1048576
 m:σ.total - N=m
 gs:(gh.reverse ++ s.ghost).take (room s.c)=σ.ghost.take (room s.c)
 gl:gh.length<=ev.length
theorem Ep.start {s:L10} (fine:s.Fine) (tot:s.total<=1048576) (N:Nat):Ep s N (s.total - N) s [] []:=⟨rfl,rfl,fine,rfl,tot,rfl,rfl,Nat.le_refl _⟩
theorem Ep.next {s σ:L10} {N m:Nat} {ev gh:List Nat} (h:Ep s N (m+1) σ ev gh):Ep s N m σ.evict.1 (ev ++ [σ.evict.2]) (gh ++ remL σ):=by
 have hm:=h.m
 have e:=L10.ev_evict (s:=σ) (by omega)
 have ht:=e.total
 refine ⟨by rw [List.append_assoc];exact h.out,h.li,h.fine.ev e,e.c.trans h.c,by have:=h.tot;omega,by omega,?_,?_⟩
 ·have hr:room σ.c=room s.c:=by rw [h.c]
  rw [evict_ghost,remL]
  cases hb:remB σ with
  | false =>
   rw [if_neg (by decide),if_neg (by decide),List.append_nil]
   exact h.gs
  | true =>
   rw [if_pos rfl,if_pos rfl,hr,List.take_take,Nat.min_self,List.reverse_append]
   have hn:σ.evict.2∉σ.ghost:=by
    intro hm2
    have h1:σ.evict.2∈σ.keys:=e.kp.mem_iff.1 (List.mem_cons_self ..)
    exact (List.nodup_append.1 h.fine.nd).2.2 _ h1 _ hm2 rfl
   rw [fr,wo_none8 hn]
   exact take_cons_same h.gs
 ·have h1:=h.gl
  rw [List.length_append,List.length_append,List.length_singleton]
  have:(remL σ).length<=1:=by
   unfold remL
   split <;> simp
  omega
theorem Ep.len {s σ:L10} {N m:Nat} {ev gh:List Nat} (h:Ep s N m σ ev gh) (hs:s.Fine) (hst:s.total<=1048576):ev.length<=1048576/\gh.length<=1048576:=by
 have h1:=congrArg List.length h.out
 rw [List.length_append,L10.shrOut_len hs] at h1
 have:=h.gl
 omega
theorem Ep.fin {s σ:L10} {N:Nat} {ev gh:List Nat} (h:Ep s N 0 σ ev gh):σ=s.shr N/\ev=s.shrOut N/\(s.shr N).fall=⟨s.c,σ.small,σ.main,(gh.reverse ++ s.ghost).take (room s.c)⟩:=by
 have h1:σ=s.shr N:=h.li
 have h2:ev=s.shrOut N:=by rw [<- h.out];simp [L10.shrN]
 refine ⟨h1,h2,?_⟩
 rw [<- h1,h.gs,L10.fall,h.c]
end Go.Proofs.YtcpggonengkgiaaGreatDoor
