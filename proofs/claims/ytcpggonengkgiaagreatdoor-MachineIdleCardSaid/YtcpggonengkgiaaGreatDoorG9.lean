/- Words and walks: S3Y S3Q. -/
import Derived.Test.YtcpggonengkgiaaGreatDoorG3
import Derived.Test.YtcpggonengkgiaaGreatDoorG8
import Derived.IntWalk
import Derived.Deep.RegionLaw
import Derived.Maps.AppendAt
namespace Go.Proofs.YtcpggonengkgiaaGreatDoor
open Go Go.RowKit Go.Deep
set_option maxRecDepth 8000
abbrev QTI10:TypeId:=239
def RetI (w:World) (xs:List It) (e:Ending) (w':World):Prop:=∃ v,e = .returned v/\OwnI QTI10 w.heap.size w w' v xs
theorem flatIt_take {α:Type} (F:It->List α) {xs:List It} {i:Nat} (h:i < xs.length):(xs.take (i+1)).flatMap F=(xs.take i).flatMap F ++ F xs[i]:=by
 rw [<- List.take_append_getElem h,List.flatMap_append,List.flatMap_singleton]
def useI (k:Nat) (t:It):It:=if t.key=k/\t.f < 3 then ⟨t.key,t.f+1⟩ else t
theorem usI_flat (k:Nat) (xs:List It):usI k xs=xs.flatMap (fun t=>[useI k t]):=List.map_eq_flatMap
theorem woI_flat (k:Nat):∀ (xs:List It),woI k xs=xs.flatMap (fun t=>if t.key=k then [] else [t])
 | []=>rfl
 | x :: xs=>by
  have ih:=woI_flat k xs
  unfold woI at ih ⊢
  rw [List.filter_cons,List.flatMap_cons,ih]
  by_cases h:x.key=k
  ·simp [h]
  ·simp [h]
theorem keysI_flat (xs:List It):keysI xs=xs.flatMap (fun t=>[t.key]):=List.map_eq_flatMap
theorem growI_zero (w:World):Calls Tryz.prog 261 #[.slice none 0 0,.int .i64 (0:Nat)] w fun e w'=>e = .returned (.slice none 0 0)/\w'=w:=by
 go_enter Tryz.func261,Tryz.ntmps261
 go_wp2
 go_ret
 exact ⟨rfl,rfl⟩
set_option maxHeartbeats 2000000 in
set_option maxRecDepth 8000 in
theorem growI_new (n:Nat) (w:World) (hn0:0 < n) (hbig:n<=100000000) :
  Calls Tryz.prog 261 #[.slice none 0 0,.int .i64 n] w fun e w' =>
   e = .returned (.slice (some ⟨w.heap.size,0,none⟩) 0 (grownCap w n 0 QTI10)) /\
   w'=w.drew.alloc (.cells (#[] ++ Builtin.zeroCells (Value.agg #[.int .u64 0,.int .i64 0]).cells n ++ Builtin.zeroCells (Value.agg #[.int .u64 0,.int .i64 0]).cells (grownCap w n 0 QTI10 - n)) QTI10):=by
 have hinfo:(Tryz.prog.info? QTI10).map (fun i=>(i.zero,i.size,i.bytes))=some (some (.agg #[.int .u64 0,.int .i64 0]),2,16):=by kernel_rfl
 obtain ⟨i0,hi0,hz0,hs0,hby⟩:=info_parts hinfo
 have ht:Tryz.prog.underlying 30=some (.slice QTI10):=by kernel_rfl
 have htn:Tryz.prog.underlying 3=some (.int .i64):=by kernel_rfl
 have hold:(Builtin.firstCells i0.size 0 (.slice none 0 0)).run Tryz.prog w.drew = .ok ([]:List Value).toArray w.drew:=by
  rw [hs0]
  exact run_firstCells_none w.drew 2 0 0 0
 have hrz:∀ ty,(Builtin.append_ #[30,3] ty #[.slice none 0 0,.int .i64 ((n:Int) - 0)]).run Tryz.prog w =
   .ok (.slice (some ⟨w.heap.size,0,none⟩) n (grownCap w n 0 QTI10)) (w.drew.alloc (.cells (#[] ++ Builtin.zeroCells (Value.agg #[.int .u64 0,.int .i64 0]).cells n ++ Builtin.zeroCells (Value.agg #[.int .u64 0,.int .i64 0]).cells (grownCap w n 0 QTI10 - n)) QTI10)):=fun ty=>by
  have h:=Lib.run_append_grow_zeros w 30 3 ty QTI10 i0 (.agg #[.int .u64 0,.int .i64 0]) .i64 .i64 ht htn hi0 hz0 none 0 0 [] hold n (by omega) (by omega) (by omega) (by omega)
   (by rw [hby];omega) (by rw [Nat.zero_add,hby];exact growslice_fits (by omega) (by omega))
  rw [Nat.zero_add] at h
  rw [show (n:Int) - 0=((n:Nat):Int) by omega]
  exact h
 have hGn:n<=grownCap w n 0 QTI10:=grownCap_ge w _ _ _
 have hG63:grownCap w n 0 QTI10<=maxLen:=grownCap_le_maxLen w n 0 QTI10 (by unfold maxLen;omega)
 unfold maxLen at hG63
 have h1:¬ ((n:Int) < 0):=by omega
 have h2:wrap64 ((0:Int) - 0)=(0:Int) - 0:=by unfold wrap64;omega
 have h3:wrap64 ((n:Int) - 0)=(n:Int) - 0:=by unfold wrap64;omega
 have h4:(n:Int) > 0:=by omega
 generalize grownCap w n 0 QTI10=G at hrz hGn hG63 ⊢
 clear hold hi0 hz0 hs0 hby hinfo i0
 go_enter Tryz.func261,Tryz.ntmps261
 go_wp2_with (at_builtin;refine Lib.wpList_append_run _ rfl _ _ _ _ rfl _ _ rfl rfl _ _ (hrz _) ?_)
 all_goals (go_ret;exact ⟨rfl,rfl⟩)
theorem growI_walk (w:World) (n:Nat) (hn:n<=100000000):Calls Tryz.prog 261 #[.slice none 0 0,.int .i64 n] w (RetI w []):=by
 rcases Nat.eq_zero_or_pos n with rfl | hp
 ·refine (growI_zero w).mono ?_
  rintro e w' ⟨rfl,rfl⟩
  exact ⟨_,rfl,OwnI.nil (Below.refl _ _)⟩
 ·refine (growI_new n w hp hn).mono ?_
  rintro e w' ⟨rfl,rfl⟩
  have hG:=grownCap_ge w n 0 QTI10
  have hG2:=grownCap_le_maxLen w n 0 QTI10 (by unfold maxLen;omega)
  refine ⟨_,rfl,⟨(below_drewn (Below.refl _ _) 1).alloc (by simp) _,⟨by simp [itL],.inr ⟨w.heap.size,_,_,rfl,Nat.le_refl _,heap_alloc_new w.drew _,Nat.zero_le _,hG2,?_,by simp [itL]⟩⟩⟩⟩
  simp [size_zeroCells,Value.cells]
  omega
section
variable {w:World} {u:Value} {xs:List It} {ks:List Nat}
theorem copyI_walk (h:IV w u xs) (hl:xs.length<=100000000):Calls Tryz.prog 262 #[u] w (RetI w xs):=by
 have H:=Lib.hid h
 obtain ⟨F,n,c,rfl⟩:=h.form
 clear h
 go_enter Tryz.func262,Tryz.ntmps262
 go_wp2_with (at_builtin;refine wpList_append_iv (e:=QTI10) rfl _ (.tmp 3) rfl w.heap.size (by kernel_rfl) (by kernel_rfl) (.slice none 0 0) [] rfl (OwnI.nil (w0:=w) (Below.refl _ _)) _ xs rfl H.out (by simp;omega) (Nat.le_refl _) ?_)
 intro v6 w6 hown6 _ _
 have HO:Hid (OwnI QTI10 w.heap.size w w6 v6 xs):=Lib.hid hown6
 clear hown6
 go_wp2
 go_ret
 exact ⟨_,rfl,HO.out⟩
theorem copyK_walk (h:KV w u ks) (hl:ks.length<=100000000):Calls Tryz.prog 176 #[u] w (OwnK w ks):=by
 have H:=Lib.hid h
 obtain ⟨F,n,c,rfl⟩:=h.form
 clear h
 go_enter Tryz.func176,Tryz.ntmps176
 go_wp2_with (at_builtin;refine wpList_append_kv rfl _ (.tmp 3) rfl w.heap.size (by kernel_rfl) (by kernel_rfl) (.slice none 0 0) [] rfl (KO.nil (w0:=w) (Below.refl _ _)) _ ks rfl H.out (by simp;omega) (Nat.le_refl _) ?_)
 intro v6 w6 hown6 _ _
 have HO:Hid (KO w.heap.size w w6 v6 ks):=Lib.hid hown6
 clear hown6
 go_wp2
 go_ret
 exact ⟨_,rfl,HO.out⟩
theorem frontI_walk (h:IV w u xs) (hl:xs.length<=100000000) (k:Nat):Calls Tryz.prog 179 #[u,.int .u64 (k:Nat)] w (RetI w (⟨k,0⟩ :: xs)):=by
 have how:OwnI QTI10 w.heap.size w (w.alloc (.cells #[.int .u64 (k:Nat),.int .i64 0] QTI10)) (.slice (some ⟨w.heap.size,0,none⟩) 1 1) [⟨k,0⟩]:=OwnI.one (e:=QTI10) (Nat.le_refl w.heap.size) (Below.refl _ w) ⟨k,0⟩
 have HOW:=Lib.hid how
 have H:=Lib.hid (h.below (low_one w (.cells #[.int .u64 (k:Nat),.int .i64 0] QTI10)))
 obtain ⟨F,n,c,rfl⟩:=h.form
 clear h how
 go_enter Tryz.func179,Tryz.ntmps179
 go_wp2_with (at_builtin;refine wpList_append_iv (e:=QTI10) rfl (.tmp 7) (.tmp 8) rfl w.heap.size (by kernel_rfl) (by kernel_rfl) _ [⟨k,0⟩] rfl HOW.out _ xs rfl H.out (by simp;omega) (by simp) ?_)
 intro v6 w6 hown6 _ _
 have HO:Hid (OwnI QTI10 w.heap.size w w6 v6 (⟨k,0⟩ :: xs)):=Lib.hid hown6
 clear hown6
 go_wp2
 go_ret
 exact ⟨_,rfl,HO.out⟩
set_option maxHeartbeats 1000000 in
theorem use_walk {kb k:Nat} (hk:w.cell? ⟨kb,0,none⟩=some (.int .u64 (k:Nat))) (hkb:kb < w.heap.size) (x:It) (hf:x.f<=3) :
  Calls Tryz.prog 174 #[.agg #[.int .u64 (x.key:Nat),.int .i64 (x.f:Nat)],.pointer (some ⟨kb,0,none⟩)] w fun e w'=>e = .returned (.tuple #[.agg #[.int .u64 ((useI k x).key:Nat),.int .i64 ((useI k x).f:Nat)],.bool true])/\Below w.heap.size w w':=by
 obtain ⟨kx,fx⟩:=x
 dsimp only at hf ⊢
 have hne:kb≠w.heap.size:=by omega
 have hne2:w.heap.size≠kb:=by omega
 have hne3:kb≠w.heap.size+1:=by omega
 have HB:=Lib.hid (low_two w)
 by_cases he:kx=k
 ·subst he
  rcases (by omega:fx=0∨fx=1∨fx=2∨fx=3) with rfl | rfl | rfl | rfl
  ·have hU:useI kx ⟨kx,0⟩=⟨kx,1⟩:=by simp [useI]
   rw [hU]
   clear hU hf
   go_enter Tryz.func174,Tryz.ntmps174
   go_wp2
   exact bodyPost_ret (v := .tuple #[.agg #[.int .u64 (kx:Nat),.int .i64 1],.bool true]) (by simp [results,Tryz.results174,go_sem]) rfl ⟨rfl,HB.out _ _⟩
  ·have hU:useI kx ⟨kx,1⟩=⟨kx,2⟩:=by simp [useI]
   rw [hU]
   clear hU hf
   go_enter Tryz.func174,Tryz.ntmps174
   go_wp2
   exact bodyPost_ret (v := .tuple #[.agg #[.int .u64 (kx:Nat),.int .i64 2],.bool true]) (by simp [results,Tryz.results174,go_sem]) rfl ⟨rfl,HB.out _ _⟩
  ·have hU:useI kx ⟨kx,2⟩=⟨kx,3⟩:=by simp [useI]
   rw [hU]
   clear hU hf
   go_enter Tryz.func174,Tryz.ntmps174
   go_wp2
   exact bodyPost_ret (v := .tuple #[.agg #[.int .u64 (kx:Nat),.int .i64 3],.bool true]) (by simp [results,Tryz.results174,go_sem]) rfl ⟨rfl,HB.out _ _⟩
  ·have hU:useI kx ⟨kx,3⟩=⟨kx,3⟩:=by simp [useI]
   rw [hU]
   clear hU hf
   go_enter Tryz.func174,Tryz.ntmps174
   go_wp2
   exact bodyPost_ret (v := .tuple #[.agg #[.int .u64 (kx:Nat),.int .i64 3],.bool true]) (by simp [results,Tryz.results174,go_sem]) rfl ⟨rfl,HB.out _ _⟩
 ·have hU:useI k ⟨kx,fx⟩=⟨kx,fx⟩:=by unfold useI;rw [if_neg (fun h=>he h.1)]
  rw [hU]
  have hne4:((kx:Int) == (k:Int))=false:=by rw [beq_eq_false_iff_ne];omega
  clear hU he hf
  go_enter Tryz.func174,Tryz.ntmps174
  go_wp2
  exact bodyPost_ret (v := .tuple #[.agg #[.int .u64 (kx:Nat),.int .i64 (fx:Nat)],.bool true]) (by simp [results,Tryz.results174,go_sem]) rfl ⟨rfl,HB.out _ _⟩
set_option maxHeartbeats 1000000 in
theorem other_walk {kb k:Nat} (hk:w.cell? ⟨kb,0,none⟩=some (.int .u64 (k:Nat))) (hkb:kb < w.heap.size) (x:It) :
  Calls Tryz.prog 180 #[.agg #[.int .u64 (x.key:Nat),.int .i64 (x.f:Nat)],.pointer (some ⟨kb,0,none⟩)] w fun e w'=>e = .returned (.tuple #[.agg #[.int .u64 (x.key:Nat),.int .i64 (x.f:Nat)],.bool (!decide (x.key=k))])/\Below w.heap.size w w':=by
 obtain ⟨kx,fx⟩:=x
 dsimp only
 have hne:kb≠w.heap.size:=by omega
 have hne2:w.heap.size≠kb:=by omega
 have hne3:kb≠w.heap.size+1:=by omega
 have HB:=Lib.hid (low_two w)
 by_cases he:kx=k
 ·subst he
  rw [decide_eq_true rfl]
  have hne4:((kx:Int) != (kx:Int))=false:=by simp
  go_enter Tryz.func180,Tryz.ntmps180
  go_wp2_with fail
  go_region
  go_wp2
  exact bodyPost_ret (v := .tuple #[.agg #[.int .u64 (kx:Nat),.int .i64 (fx:Nat)],.bool false]) (by simp [results,Tryz.results180,go_sem]) rfl ⟨rfl,below_drewn (HB.out _ _) 1⟩
 ·rw [decide_eq_false he]
  have hne4:((kx:Int) != (k:Int))=true:=by rw [bne_iff_ne];omega
  clear he
  go_enter Tryz.func180,Tryz.ntmps180
  go_wp2_with fail
  go_region
  go_wp2
  exact bodyPost_ret (v := .tuple #[.agg #[.int .u64 (kx:Nat),.int .i64 (fx:Nat)],.bool true]) (by simp [results,Tryz.results180,go_sem]) rfl ⟨rfl,below_drewn (HB.out _ _) 1⟩
theorem is_walk {kb k:Nat} (hk:w.cell? ⟨kb,0,none⟩=some (.int .u64 (k:Nat))) (hkb:kb < w.heap.size) (x:It) :
  Calls Tryz.prog 181 #[.agg #[.int .u64 (x.key:Nat),.int .i64 (x.f:Nat)],.pointer (some ⟨kb,0,none⟩)] w fun e w'=>e = .returned (.bool (decide (x.key=k)))/\Below w.heap.size w w':=by
 obtain ⟨kx,fx⟩:=x
 dsimp only
 have hne:kb≠w.heap.size:=by omega
 have hne2:w.heap.size≠kb:=by omega
 have HB:=Lib.hid (low_one w)
 by_cases he:kx=k
 ·subst he
  rw [decide_eq_true rfl]
  go_enter Tryz.func181,Tryz.ntmps181
  go_wp2
  go_ret
  exact ⟨by simp,HB.out _⟩
 ·rw [decide_eq_false he]
  have hne4:((kx:Int) == (k:Int))=false:=by rw [beq_eq_false_iff_ne];omega
  clear he
  go_enter Tryz.func181,Tryz.ntmps181
  go_wp2
  go_ret
  exact ⟨by first | rfl | simp [hne4],HB.out _⟩
theorem key_walk (x:It) :
  Calls Tryz.prog 183 #[.agg #[.int .u64 (x.key:Nat),.int .i64 (x.f:Nat)]] w fun e w'=>e = .returned (.tuple #[.int .u64 (x.key:Nat),.bool true])/\Below w.heap.size w w':=by
 obtain ⟨kx,fx⟩:=x
 dsimp only
 have HB:=Lib.hid (low_one w)
 go_enter Tryz.func183,Tryz.ntmps183
 go_wp2
 exact bodyPost_ret (v := .tuple #[.int .u64 (kx:Nat),.bool true]) (by simp [results,Tryz.results183,go_sem]) rfl ⟨rfl,HB.out _⟩
end
set_option maxRecDepth 8000
def Hold (cur:Array Value) (off:Nat) (xs:List It):Prop:=∀ i (h:i < xs.length),cur[off+i * 2]? = some (.int .u64 (xs[i].key:Nat))/\cur[off+i * 2+1]? = some (.int .i64 (xs[i].f:Nat))
theorem IV.of_hold {w:World} {g off c:Nat} {cur:Array Value} {t:TypeId} {xs:List It} (hg:w.heap[g]? = some (.cells cur t (0,0))) (h:Hold cur off xs) (hc:xs.length<=c) (he:okT t=true:=by decide):IV w (.slice (some ⟨g,off,none⟩) xs.length c) xs:=by
 refine ⟨itL_len xs,⟨_,c,rfl,hc,(fun e=>by cases e),fun j u hu=>⟨_,rfl,(Array.getElem?_eq_some_iff.1 hg).1,?_⟩⟩,fun m c' ad e1=>by
  injection e1 with e1
  injection e1 with e1
  subst e1
  exact NP.cells hg he⟩
 have hj:=(List.getElem?_eq_some_iff.1 hu).1
 rw [itL_len] at hj
 rw [Addr.add_lit,cell_of_row w g (off+j) cur t (0,0) hg]
 obtain ⟨i,hi | hi⟩:∃ i,j=i * 2∨j=i * 2+1:=⟨j / 2,by omega⟩
 ·subst hi
  have hi2:i < xs.length:=by omega
  rw [(h i hi2).1,<- (itL_at xs i hi2).1,hu]
 ·subst hi
  have hi2:i < xs.length:=by omega
  rw [<- Nat.add_assoc,(h i hi2).2,<- (itL_at xs i hi2).2,hu]
structure IQ (B:Nat) (w0 w:World) (v:Value) (xs:List It):Prop where
 low:Below B w0 w
 own:v = .slice none 0 0/\xs=[]∨∃ g off c cur,v = .slice (some ⟨g,off,none⟩) xs.length c/\B<=g/\w.heap[g]? = some (.cells cur QTI10 (0,0))/\xs.length<=c/\c<=maxLen/\off+c * 2<=cur.size/\Hold cur off xs
section
variable {B:Nat} {w0 w w':World} {v:Value} {xs:List It}
theorem OwnI.iq (h:OwnI QTI10 B w0 w v xs):IQ B w0 w v xs:=by
 refine ⟨h.low,?_⟩
 rcases h.own.2 with ⟨rfl,h0⟩ | ⟨g,c,cur,rfl,hB,hg,hle,hc,hsz,htk⟩
 ·exact .inl ⟨rfl,List.length_eq_zero_iff.1 h0⟩
 ·refine .inr ⟨g,0,c,cur,rfl,hB,hg,hle,hc,by omega,fun i hi=>?_⟩
  obtain ⟨a1,a2⟩:=itL_at xs i hi
  rw [<- htk,List.getElem?_take] at a1 a2
  rw [if_pos (by omega)] at a1 a2
  rw [Nat.zero_add]
  exact ⟨by simpa using a1,by simpa using a2⟩
theorem IQ.iv (h:IQ B w0 w v xs):IV w v xs:=by
 rcases h.own with ⟨rfl,rfl⟩ | ⟨g,off,c,cur,rfl,hB,hg,hle,hc,hsz,hh⟩
 ·exact IV.nil w
 ·exact IV.of_hold hg hh hle
theorem IQ.below (h:IQ B w0 w v xs) (hB:B<=w.heap.size) (hb:Below w.heap.size w w'):IQ B w0 w' v xs:=by
 refine ⟨h.low.trans (hb.mono hB),?_⟩
 rcases h.own with q | ⟨g,off,c,cur,e,hBg,hg,rest⟩
 ·exact .inl q
 ·exact .inr ⟨g,off,c,cur,e,hBg,(hb.block g (Array.getElem?_eq_some_iff.1 hg).1).trans hg,rest⟩
theorem IQ.only {S:List Nat} (h:IQ B w0 w v xs) (ho:Only S w w') (hS:∀ g∈S,(∃ cs t,w.heap[g]? = some (.cells cs t (0,0))/\t≠QTI10)/\B<=g) (hB:B<=w.heap.size):IQ B w0 w' v xs:=by
 refine ⟨h.low.trans (ho.below (fun g hg=>(hS g hg).2) hB),?_⟩
 rcases h.own with q | ⟨g,off,c,cur,e,hBg,hg,rest⟩
 ·exact .inl q
 ·refine .inr ⟨g,off,c,cur,e,hBg,(ho.block g (Array.getElem?_eq_some_iff.1 hg).1 (fun hm=>?_)).trans hg,rest⟩
  obtain ⟨⟨cs,t,hg2,ht⟩,_⟩:=hS g hm
  rw [hg] at hg2
  injection hg2 with hg2
  injection hg2 with _ hg2
  exact ht hg2.symm
theorem IQ.lt (h:IQ B w0 w v xs):∀ g,v.ownBlock=some g->B<=g/\g < w.heap.size/\∃ cs,w.heap[g]? = some (.cells cs QTI10 (0,0)):=fun k hk=>by
 rcases h.own with ⟨rfl,_⟩ | ⟨g,off,c,cur,rfl,hBg,hg,_⟩
 ·simp [Value.ownBlock] at hk
 ·simp [Value.ownBlock] at hk
  subst hk
  exact ⟨hBg,(Array.getElem?_eq_some_iff.1 hg).1,cur,hg⟩
theorem Hold.tail {cur:Array Value} {off:Nat} {x:It} {xs:List It} (h:Hold cur off (x :: xs)):Hold cur (off+2) xs:=fun i hi=>by
 have:=h (i+1) (by simpa using hi)
 rw [show off+2+i * 2=off+(i+1) * 2 by omega]
 exact this
theorem IQ.tail {g off n c:Nat} {x:It} (h:IQ B w0 w (.slice (some ⟨g,off,none⟩) (n+1) (c+1)) (x :: xs)) (hn:xs.length=n):IQ B w0 w (.slice (some ⟨g,off+2,none⟩) n c) xs:=by
 rcases h.own with ⟨e,_⟩ | ⟨g',off',c',cur,e,hBg,hg,hle,hc,hsz,hh⟩
 ·cases e
 ·injection e with e1 e2 e3
  injection e1 with e1
  injection e1 with e4 e5
  subst e4 e5 e3 hn
  exact ⟨h.low,.inr ⟨g,off+2,c,cur,rfl,hBg,hg,by simpa using hle,by omega,by omega,hh.tail⟩⟩
theorem IQ.tail0 {g off:Nat} {x:It} (h:IQ B w0 w (.slice (some ⟨g,off,none⟩) 1 1) [x]):IQ B w0 w (.slice (some ⟨g,off,none⟩) 0 0) []:=by
 rcases h.own with ⟨e,_⟩ | ⟨g',off',c',cur,e,hBg,hg,hle,hc,hsz,hh⟩
 ·cases e
 ·injection e with e1 e2 e3
  injection e1 with e1
  injection e1 with e4 e5
  subst e4 e5
  exact ⟨h.low,.inr ⟨g,off,0,cur,rfl,hBg,hg,by simp,by unfold maxLen;omega,by omega,fun i hi=>by simp at hi⟩⟩
theorem IQ.form (h:IQ B w0 w v xs):∃ F c,v = .slice F xs.length c/\xs.length<=c/\(0 < xs.length->∃ g off,F=some ⟨g,off,none⟩):=by
 rcases h.own with ⟨rfl,rfl⟩ | ⟨g,off,c,cur,rfl,hB,hg,hle,_⟩
 ·exact ⟨none,0,rfl,Nat.le_refl _,fun h=>by simp at h⟩
 ·exact ⟨_,c,rfl,hle,fun _=>⟨g,off,rfl⟩⟩
end
structure AppQ (B:Nat) (w0 w w':World) (v v':Value):Prop where
 grown:w.grownBy w' v.ownBlock
 at_:v'.ownBlock=v.ownBlock∨v'.ownBlock=some w.heap.size
theorem arr_set_other {cur:Array Value} {j k:Nat} {x:Value} (h:k≠j):(cur.setIfInBounds j x)[k]? = cur[k]? := by
 rw [Array.getElem?_setIfInBounds]
 split
 ·omega
 ·rfl
theorem arr_set_same {cur:Array Value} {j:Nat} {x:Value} (h:j < cur.size):(cur.setIfInBounds j x)[j]? = some x:=by
 rw [Array.getElem?_setIfInBounds]
 simp [h]
theorem run_append_iq {P:Program} {w w0:World} {B:Nat} {v:Value} {xs:List It} {x:It} {t ty:TypeId} (ht:P.underlying t=some (.slice QTI10))
  (hinfo:(P.info? QTI10).map (fun i=>(i.zero,i.size,i.bytes))=some (some (.agg #[.int .u64 0,.int .i64 0]),2,16))
  (h:IQ B w0 w v xs) (hB:B<=w.heap.size) {y:Value} (hy:IV w y [x]) (hl:xs.length<=500000000) :
  ∃ v' w',(Builtin.append_ #[t,t] ty #[v,y]).run P w = .ok v' w'/\IQ B w0 w' v' (xs ++ [x])/\AppQ B w0 w w' v v':=by
 obtain ⟨i,hi,hz,hsize,hby⟩:=info_parts hinfo
 obtain ⟨F,c,rfl,hc1,hc2,h3⟩:=hy.mem
 obtain ⟨yg,yoff,rfl,hyg,q0,q1⟩:=h3 0 (by simp)
 dsimp only [List.getElem_cons_zero] at q0 q1
 rw [Nat.zero_mul,Nat.add_zero] at q0 q1
 have hnews:∀ j u,(itV x)[j]? = some u->w.cell? ((⟨yg,yoff,none⟩:Addr).add j)=some u:=fun j u hu=>by
  rw [Addr.add_lit]
  match j,hu with
  | 0,hu=>rw [Nat.add_zero,q0];exact hu
  | 1,hu=>rw [q1];exact hu
  | j+2,hu=>exact absurd hu (by simp [itV])
 have h1:∀ u∈itV x,u.oneCell'=true:=fun u hu=>itL_one [x] u (by simpa [itL] using hu)
 have hnil:∀ (hv:v = .slice none 0 0) (hx:xs=[]), ∃ v' w',(Builtin.append_ #[t,t] ty #[v,.slice (some ⟨yg,yoff,none⟩) 1 c]).run P w = .ok v' w'/\IQ B w0 w' v' (xs ++ [x])/\AppQ B w0 w w' v v':=fun hv hx=>by
  subst hv hx
  have hown:w.ownsRow B QTI10 2 (.slice none 0 0) 0 []:=World.ownsRow_nil _ _ _ _
  obtain ⟨v',w',hr,h2,h3,_,h6⟩:=run_append_own_at (P:=P) w B t ty QTI10 i (.agg #[.int .u64 0,.int .i64 0]) 2 16 ht hi hz hsize hby rfl (by decide) (.slice none 0 0) 0 [] hown ⟨yg,yoff,none⟩ 1 c (itV x) rfl hnews h1 (by unfold maxLen;omega) (by omega) hB
  refine ⟨v',w',hr,?_,⟨h3,h6⟩⟩
  exact OwnI.iq ⟨below_grown h.low hown h3 hB,by simpa [itL] using h2⟩
 rcases h.own with ⟨e,hx⟩ | ⟨g,off,cap,cur,rfl,hBg,hg,hle,hcm,hsz,hh⟩
 ·exact hnil e hx
 ·have hgl:=(Array.getElem?_eq_some_iff.1 hg).1
  have hrow:=head_row hg
  by_cases hroom:xs.length+1<=cap
  ·have hcl:∀ j,j < (itV x).length->(w.cell? ⟨g,off+xs.length * i.size+j,none⟩).isSome=true:=fun j hj=>by
    have hj2:j < 2:=hj
    rw [cell_of_row w g _ cur QTI10 (0,0) hg,hsize]
    rw [Array.getElem?_eq_getElem (by omega)]
    rfl
   have hfr:∀ j,j < (itV x).length->w.frozen? ⟨g,off+xs.length * i.size+j,none⟩=false:=fun j _=>hrow.frozen _
   have hr:=run_append_room_cells (P:=P) w t ty QTI10 i ht hi g off xs.length cap ⟨yg,yoff,none⟩ 1 c (itV x) (by rw [hsize];rfl) hnews h1 hroom hcl hfr
   rw [hsize] at hr
   have hset:w.setCells g (off+xs.length * 2) (itV x)=(w.setCell ⟨g,off+xs.length * 2,none⟩ (.int .u64 (x.key:Nat))).setCell ⟨g,off+xs.length * 2+1,none⟩ (.int .i64 (x.f:Nat)):=rfl
   rw [hset] at hr
   have ho:Only [g] w ((w.setCell ⟨g,off+xs.length * 2,none⟩ (.int .u64 (x.key:Nat))).setCell ⟨g,off+xs.length * 2+1,none⟩ (.int .i64 (x.f:Nat))):=((Only.refl _ _).setCell (by simp) _).setCell (by simp) _
   refine ⟨_,_,hr,⟨h.low.trans (ho.below (by simpa using hBg) hB),.inr ⟨g,off,cap,_,by rw [List.length_append];rfl,hBg,set_one (set_one hg),by rw [List.length_append];exact hroom,hcm,by simpa using hsz,fun j hj=>?_⟩⟩,⟨⟨rfl,rfl,rfl,ho.size,fun k hk hne=>ho.block k hk (by simpa [Value.ownBlock] using fun e:k=g=>hne (by simp [Value.ownBlock,e]))⟩,.inl rfl⟩⟩
   rw [List.length_append,List.length_singleton] at hj
   by_cases hjl:j < xs.length
   ·rw [List.getElem_append_left hjl]
    have h4:=hh j hjl
    rw [arr_set_other (by omega),arr_set_other (by omega),arr_set_other (by omega),arr_set_other (by omega)]
    exact h4
   ·obtain rfl:j=xs.length:=by omega
    rw [List.getElem_append_right (Nat.le_refl _)]
    simp only [Nat.sub_self,List.getElem_cons_zero]
    refine ⟨?_,?_⟩
    ·rw [arr_set_other (by omega),arr_set_same (by omega)]
    ·rw [arr_set_same (by simp;omega)]
  ·have holds:∀ j u,(itL xs)[j]? = some u->w.cell? ((⟨g,off,none⟩:Addr).add j)=some u:=fun j u hu=>by
    obtain ⟨_,⟨F',c',e,_,_,h5⟩⟩:=h.iv
    injection e with e1 e2 e3
    obtain ⟨ad,e4,_,h6⟩:=h5 j u hu
    rw [<- e1] at e4
    injection e4 with e4
    subst e4
    exact h6
   have hr:=run_append_grow (P:=P) w t ty QTI10 i (.agg #[.int .u64 0,.int .i64 0]) ht hi hz ⟨g,off,none⟩ xs.length cap (itL xs) (by rw [hsize];exact itL_len xs) holds ⟨yg,yoff,none⟩ 1 c (itV x) (by rw [hsize];rfl) hnews (by omega) (by omega) (growslice_fits (by omega) (by rw [hby];omega))
   have hge:=grownCap_ge w (xs.length+1) cap QTI10
   have hcm2:=grownCap_le_maxLen w (xs.length+1) cap QTI10 (by unfold maxLen;omega)
   have e2:(itL xs).toArray ++ (itV x).toArray=(itL (xs ++ [x])).toArray:=by rw [<- itL_append];simp [itL]
   rw [e2] at hr
   refine ⟨_,_,hr,?_,⟨⟨rfl,rfl,rfl,by simp,fun k hk _=>Below.heap_alloc w.drew _ k hk⟩,.inr rfl⟩⟩
   refine OwnI.iq ⟨(below_drewn h.low 1).alloc hB _,⟨itL_len _,.inr ⟨w.heap.size,_,_,by rw [List.length_append];rfl,hB,heap_alloc_new w.drew _,by rw [List.length_append];exact hge,hcm2,?_,?_⟩⟩⟩
   ·simp [size_zeroCells,Value.cells,itL_len]
    omega
   ·simp [itL_len]
theorem step_append_run {P:Program} {w:World} {ops:Array Oper} {o:Oper} {a:Act} {K:Act->World->Prop} {Q:Exit->Act->World->Prop} {E:Prop} (hgd:o.guard=none) (s x:Operand) (t:TypeId)
  (ho:o.op = .call { callee := .builtin .append,args:=#[s,x],argTypes:=#[t,t] }) (v y v':Value) (w':World) (hs:a.eval s=v) (hx:a.eval x=y)
  (hr:(Builtin.append_ #[t,t] o.type #[v,y]).run P w = .ok v' w') (h:K (a.put o.dst v') w'):if Region.wanted o (yielded ops a.tmps)=true then Oper.wp P o a w K Q else E:=by
 have hw:Region.wanted o (yielded ops a.tmps)=true:=by simp [Region.wanted,hgd]
 rw [if_pos hw]
 unfold Oper.wp execOp
 simp only [ho,resolve,invoke,builtin,Sem.run_bind,Sem.run_pure,Result.andThen_ok,List.map_toArray,List.map_cons,List.map_nil,hs,hx,hr]
 exact h
theorem step_append_iq {P:Program} {w:World} {ops:Array Oper} {o:Oper} {a:Act} {K:Act->World->Prop} {Q:Exit->Act->World->Prop} {E:Prop} (hgd:o.guard=none) (s x:Operand) (t:TypeId)
  (ho:o.op = .call { callee := .builtin .append,args:=#[s,x],argTypes:=#[t,t] }) (ht:P.underlying t=some (.slice QTI10))
  (hinfo:(P.info? QTI10).map (fun i=>(i.zero,i.size,i.bytes))=some (some (.agg #[.int .u64 0,.int .i64 0]),2,16))
  (B:Nat) {w0:World} (v:Value) (xs:List It) (hs:a.eval s=v) (hq:IQ B w0 w v xs) (hB:B<=w.heap.size) (y:Value) (z:It) (hx:a.eval x=y) (hy:IV w y [z]) (hl:xs.length<=500000000)
  (h:∀ v' w',IQ B w0 w' v' (xs ++ [z])->AppQ B w0 w w' v v'->K (a.put o.dst v') w'):if Region.wanted o (yielded ops a.tmps)=true then Oper.wp P o a w K Q else E:=by
 obtain ⟨v',w',hr,h1,h2⟩:=run_append_iq (P:=P) (ty:=o.type) ht hinfo hq hB hy hl
 exact step_append_run hgd s x t ho v y v' w' hs hx hr (h v' w' h1 h2)
theorem step_append_kq {P:Program} {w:World} {ops:Array Oper} {o:Oper} {a:Act} {K:Act->World->Prop} {Q:Exit->Act->World->Prop} {E:Prop} (hgd:o.guard=none) (s x:Operand)
  (ho:o.op = .call { callee := .builtin .append,args:=#[s,x],argTypes:=#[25,25] }) (ht:P.underlying 25=some (.slice 56))
  (hinfo:(P.info? 56).map (fun i=>(i.zero,i.size,i.bytes))=some (some (.int .u64 0),1,8))
  (B:Nat) {w0:World} (v:Value) (ks:List Nat) (hs:a.eval s=v) (hq:KO B w0 w v ks) (hB:B<=w.heap.size) (y:Value) (z:Nat) (hx:a.eval x=y) (hy:KV w y [z]) (hl:ks.length<=500000000)
  (h:∀ v' w',KO B w0 w' v' (ks ++ [z])->AppQ B w0 w w' v v'->K (a.put o.dst v') w'):if Region.wanted o (yielded ops a.tmps)=true then Oper.wp P o a w K Q else E:=by
 obtain ⟨i,hi,hz,hsize,hby⟩:=info_parts hinfo
 obtain ⟨F,c,rfl,hc1,hc2,h3⟩:=hy.mem
 obtain ⟨ad,rfl,hyg,q0⟩:=h3 0 (by simp)
 obtain ⟨v',w',hr,h2,h4,_,h6⟩:=run_append_own_at (P:=P) w B 25 o.type 56 i (.int .u64 0) 1 8 ht hi hz hsize hby rfl (by decide) v ks.length (u64L ks) hq.own ad 1 c (u64L [z]) rfl (fun j u hu=>by
  match j,hu with
  | 0,hu=>rw [q0];exact hu
  | j+1,hu=>exact absurd hu (by simp [u64L])) (u64L_one _) (by unfold maxLen;omega) (by omega) hB
 refine step_append_run hgd s x _ ho v _ v' w' hs hx hr (h v' w' ⟨below_grown hq.low hq.own h4 hB,?_⟩ ⟨h4,h6⟩)
 rw [List.length_append,<- u64L_append]
 exact h2
end Go.Proofs.YtcpggonengkgiaaGreatDoor
