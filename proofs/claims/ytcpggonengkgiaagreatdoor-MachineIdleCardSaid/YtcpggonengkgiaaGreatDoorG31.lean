/- Words and walks: McG McH. -/
import Derived.Test.YtcpggonengkgiaaGreatDoorG3
import Derived.Test.YtcpggonengkgiaaGreatDoorG30
import Derived.Maps.OwnSet
namespace Go.Proofs.YtcpggonengkgiaaGreatDoor
open Go Go.RowKit Go.Deep
set_option maxRecDepth 8000
section
variable {w:World} {v:Value} {l:Prs}
theorem prL_set:∀ (l:Prs) (i:Nat) (_:i < l.length) (p:Nat × Nat),prL (l.set i p)=((prL l).set (i * 2) (.int .u64 (p.1:Nat))).set (i * 2+1) (.int .u64 (p.2:Nat))
 | x :: xs,0,_,p=>rfl
 | x :: xs,i+1,h,p=>by
  rw [List.set_cons_succ,prL_cons,prL_cons,prL_set xs i (by simpa using h) p]
  show _=(List.set (_ :: _ :: prL xs) ((i+1) * 2) _).set ((i+1) * 2+1) _
  rw [show (i+1) * 2=i * 2+1+1 by omega,List.set_cons_succ,List.set_cons_succ,List.set_cons_succ,List.set_cons_succ]
  rfl
theorem prL_setK:∀ (l:Prs) (i:Nat) (h:i < l.length) (k:Nat),prL (l.set i (k,l[i].2))=(prL l).set (i * 2) (.int .u64 (k:Nat))
 | x :: xs,0,_,k=>rfl
 | x :: xs,i+1,h,k=>by
  rw [List.set_cons_succ,prL_cons,prL_cons,List.getElem_cons_succ,prL_setK xs i (by simpa using h) k]
  show _=List.set (_ :: _ :: prL xs) ((i+1) * 2) _
  rw [show (i+1) * 2=i * 2+1+1 by omega,List.set_cons_succ,List.set_cons_succ]
  rfl
theorem prL_setV:∀ (l:Prs) (i:Nat) (h:i < l.length) (k:Nat),prL (l.set i (l[i].1,k))=(prL l).set (i * 2+1) (.int .u64 (k:Nat))
 | x :: xs,0,_,k=>rfl
 | x :: xs,i+1,h,k=>by
  rw [List.set_cons_succ,prL_cons,prL_cons,List.getElem_cons_succ,prL_setV xs i (by simpa using h) k]
  show _=List.set (_ :: _ :: prL xs) ((i+1) * 2+1) _
  rw [show (i+1) * 2+1=i * 2+1+1+1 by omega,List.set_cons_succ,List.set_cons_succ]
  rfl
def PairsAt (w:World) (g:Nat) (l:Prs):Prop:=∃ cs:Array Value,w.heap[g]? = some (.cells cs PairT (0,0))/\cs.toList.take (l.length * 2)=prL l
theorem PairsAt.lt {g:Nat} (h:PairsAt w g l):g < w.heap.size:=by
 obtain ⟨cs,h1,_⟩:=h
 exact (head_row h1).lt
theorem PairsAt.keep {w':World} {g:Nat} (h:PairsAt w g l) (e:w'.heap[g]? = w.heap[g]?):PairsAt w' g l:=by
 obtain ⟨cs,h1,h2⟩:=h
 exact ⟨cs,e.trans h1,h2⟩
theorem PairsAt.alloc {g:Nat} (h:PairsAt w g l) (o:Obj):PairsAt (w.alloc o) g l:=h.keep (Below.heap_alloc w o g h.lt)
theorem PairsAt.cells {g:Nat} (h:PairsAt w g l) {i:Nat} (hi:i < l.length):w.cell? ⟨g,i * 2,none⟩=some (.int .u64 (l[i].1:Nat))/\w.cell? ⟨g,i * 2+1,none⟩=some (.int .u64 (l[i].2:Nat))/\w.frozen? ⟨g,i * 2,none⟩=false/\w.frozen? ⟨g,i * 2+1,none⟩=false:=by
 obtain ⟨cs,h1,h2⟩:=h
 obtain ⟨a1,a2⟩:=prL_at l i hi
 rw [<- h2,List.getElem?_take,if_pos (by omega)] at a1 a2
 exact ⟨(cell_of_row w g _ cs PairT (0,0) h1).trans (by simpa using a1),(cell_of_row w g _ cs PairT (0,0) h1).trans (by simpa using a2),(head_row h1).frozen _,(head_row h1).frozen _⟩
theorem PairsAt.setK {g:Nat} (h:PairsAt w g l) {i:Nat} (hi:i < l.length) (k:Nat):PairsAt (w.setCell ⟨g,i * 2,none⟩ (.int .u64 (k:Nat))) g (l.set i (k,l[i].2)):=by
 obtain ⟨cs,h1,h2⟩:=h
 exact ⟨_,set_one h1,by rw [Array.toList_setIfInBounds,List.length_set,List.take_set,h2,prL_setK l i hi]⟩
theorem PairsAt.setV {g:Nat} (h:PairsAt w g l) {i:Nat} (hi:i < l.length) (k:Nat):PairsAt (w.setCell ⟨g,i * 2+1,none⟩ (.int .u64 (k:Nat))) g (l.set i (l[i].1,k)):=by
 obtain ⟨cs,h1,h2⟩:=h
 exact ⟨_,set_one h1,by rw [Array.toList_setIfInBounds,List.length_set,List.take_set,h2,prL_setV l i hi]⟩
theorem PairsAt.set {g:Nat} (h:PairsAt w g l) {i:Nat} (hi:i < l.length) (p:Nat × Nat):PairsAt ((w.setCell ⟨g,i * 2,none⟩ (.int .u64 (p.1:Nat))).setCell ⟨g,i * 2+1,none⟩ (.int .u64 (p.2:Nat))) g (l.set i p):=by
 obtain ⟨cs,h1,h2⟩:=h
 exact ⟨_,set_one (set_one h1),by rw [Array.toList_setIfInBounds,Array.toList_setIfInBounds,List.length_set,List.take_set,List.take_set,h2,prL_set l i hi]⟩
theorem PairsAt.pv {g c:Nat} (h:PairsAt w g l) (hc:l.length<=c):PV w (.slice (some ⟨g,0,none⟩) l.length c) l:=by
 obtain ⟨cs,h1,h2⟩:=h
 refine ⟨_,c,rfl,hc,(fun e=>by cases e),fun j u hu=>⟨_,rfl,(head_row h1).lt,?_⟩⟩
 rw [Addr.add_lit,Nat.zero_add,cell_of_row w g j cs PairT (0,0) h1]
 rw [<- h2,List.getElem?_take] at hu
 split at hu
 ·simpa using hu
 ·cases hu
theorem PairsAt.bn {g:Nat} (h:PairsAt w g l):Bn w g:=by
 obtain ⟨cs,h1,_⟩:=h
 exact ⟨cs,PairT,(0,0),h1,by decide⟩
theorem own_at {B:Nat} (h:w.ownsRow B PairT 2 v l.length (prL l)):v = .slice none 0 0/\l=[]∨∃ g c,v = .slice (some ⟨g,0,none⟩) l.length c/\l.length<=c/\B<=g/\PairsAt w g l:=by
 rcases h.2 with ⟨rfl,h0⟩ | ⟨g,c,cur,rfl,hB,hg,hle,hc,hsz,htk⟩
 ·exact .inl ⟨rfl,List.length_eq_zero_iff.1 h0⟩
 ·exact .inr ⟨g,c,rfl,hle,hB,cur,hg,by
   have h1:=prL_len l
   rw [<- h1] at htk ⊢
   exact htk⟩
theorem make_pairs (n:Nat) (hn:n<=1000000000) (w:World) :
  ∃ cs:Array Value,(Instr.makeSlice 38 (.int .i64 n) (.int .i64 n)).run Tryz.prog w = .ok (.slice (some ⟨w.heap.size,0,none⟩) n n) (w.alloc (.cells cs PairT))/\cs.toList=prL (List.replicate n (0,0)):=by
 have hinfo:(Tryz.prog.info? PairT).map (fun i=>(i.zero,i.size,i.bytes))=some (some (.agg #[.int .u64 0,.int .u64 0]),2,16):=by kernel_rfl
 obtain ⟨i,hi,hz0,hz1,hz2⟩:=info_parts hinfo
 have hr:=run_make (P:=Tryz.prog) w 38 PairT i _ (by kernel_rfl) hi hz0 .i64 .i64 n n (by omega) (by omega) (by rw [hz2];omega) (by omega)
 refine ⟨_,by simpa using hr,?_⟩
 rw [hz1]
 refine List.ext_getElem? (fun p=>?_)
 by_cases hp:p < n * 2
 ·have hp3:p % 2 < 2:=Nat.mod_lt _ (by decide)
  have e1:(prL (List.replicate n (0,0)))[p]? = some (.int .u64 (0:Nat)):=by
   obtain ⟨q,hq | hq⟩:∃ q,p=q * 2∨p=q * 2+1:=⟨p / 2,by omega⟩
   ·have:=(prL_at (List.replicate n (0,0)) q (by rw [List.length_replicate];omega)).1
    rw [hq,this]
    simp
   ·have:=(prL_at (List.replicate n (0,0)) q (by rw [List.length_replicate];omega)).2
    rw [hq,this]
    simp
  rw [e1]
  simp only [madeCells,Value.cells,Array.getElem?_toList,Array.getElem?_map]
  rw [Array.getElem?_range,if_pos hp]
  simp only [Option.map_some,Option.some.injEq]
  generalize p % 2=j at hp3
  match j,hp3 with
  | 0,_=>rfl
  | 1,_=>rfl
 ·have h1:(prL (List.replicate n (0,0)))[p]? = none:=List.getElem?_eq_none (by rw [prL_len,List.length_replicate];omega)
  rw [h1]
  refine List.getElem?_eq_none ?_
  rw [Array.length_toList,size_madeCells]
  omega
set_option maxHeartbeats 2000000 in
theorem value_walk (h:PV w v l) (hl:l.length<=100000000) (k:Nat):Calls Tryz.prog 225 #[v,.int .u64 (k:Nat)] w fun e w'=>e = .returned (.int .u64 (valP k l:Nat))/\Below w.heap.size w w':=by
 obtain ⟨F,c,rfl,-⟩:=h.at_
 have H:=Lib.hid h
 obtain ⟨n,hn⟩:∃ n,l.length=n:=⟨_,rfl⟩
 rw [hn] at hl H ⊢
 have HN:=Lib.hid hn
 obtain ⟨r,hr⟩:∃ r,valP k l=r:=⟨_,rfl⟩
 have HR:=Lib.hid hr
 rw [hr]
 clear h hn hr
 go_enter Tryz.func225,Tryz.ntmps225
 go_wp2_with fail
 go_loopg [9] n (fun gg s9 wr=>∃ (i:Nat),i+gg=n/\s9 = .int .i64 (i:Nat)/\Hid (Below w.heap.size w wr/\∀ j (hj:j < l.length),j < i->l[j].1≠k))
 case atStart=>exact ⟨0,by omega,rfl,Lib.hid ⟨Below.refl _ _,fun j _ h=>absurd h (Nat.not_lt_zero _)⟩⟩
 case round =>
  obtain ⟨i,hi,rfl,HI⟩:=hrel
  by_cases hlt:i < n
  ·have hltI:(i:Int) < (n:Int):=by omega
   obtain ⟨F',c',e,_,_,h3⟩:=(H.out.below HI.out.1).at_
   injection e with e1 e2 e3
   subst e1 e3
   have hix:i < l.length:=by have:=HN.out;omega
   obtain ⟨gb,off,hF,hg,q0,q1⟩:=h3 i hix
   subst hF
   obtain ⟨p,hp⟩:∃ p,l[i]=p:=⟨_,rfl⟩
   have HPX:=Lib.hid hp
   rw [hp] at q0 q1
   obtain ⟨kx,vx⟩:=p
   dsimp only at q0 q1
   have HB2:=Lib.hid (HI.out.1.alloc HI.out.1.size (.cells #[.int .u64 (kx:Nat),.int .u64 (vx:Nat)] PairT))
   clear h3 e2 hp
   by_cases hk:kx=k
   ·subst hk
    have hkI:((kx:Int) == (kx:Int))=true:=by simp
    have HF:Hid (vx=r):=Lib.hid (by
     rw [<- HR.out]
     have hle:i < l.length:=hix
     have e5:l=l.take i ++ l[i] :: l.drop (i+1):=by rw [List.getElem_cons_drop,List.take_append_drop]
     rw [e5,valP_append,if_neg (fun hm=>by
      obtain ⟨q,hq,he⟩:=List.mem_map.1 hm
      obtain ⟨j,hj,rfl⟩:=List.getElem_of_mem hq
      rw [List.getElem_take] at he
      rw [List.length_take] at hj
      exact HI.out.2 j (by omega) (by omega) he),HPX.out,valP,if_pos rfl])
    clear HPX
    go_wp2
    go_ret
    exact ⟨by first | rfl | (rw [HF.out];rfl),HB2.out⟩
   ·have hkI:((kx:Int) == (k:Int))=false:=by rw [beq_eq_false_iff_ne];omega
    have HN2:Hid (Below w.heap.size w (wr.alloc (.cells #[.int .u64 (kx:Nat),.int .u64 (vx:Nat)] PairT))/\∀ j (hj:j < l.length),j < i+1->l[j].1≠k):=Lib.hid ⟨HB2.out,fun j hj h=>by
     rcases Nat.lt_or_ge j i with h5 | h5
     ·exact HI.out.2 j hj h5
     ·obtain rfl:j=i:=by omega
      rw [HPX.out]
      exact hk⟩
    clear HPX HB2
    go_wp2
    go_roundg (gk - 1)
    case measure=>omega
    case rel=>exact ⟨i+1,by omega,by go_num,HN2⟩
  ·have hltI:¬ (i:Int) < (n:Int):=by omega
   have HF:Hid (r=0):=Lib.hid (by
    rw [<- HR.out]
    refine valP_none (fun hm=>?_)
    obtain ⟨q,hq,he⟩:=List.mem_map.1 hm
    obtain ⟨j,hj,rfl⟩:=List.getElem_of_mem hq
    have:=HN.out
    exact HI.out.2 j hj (by omega) he)
   go_wp2
   go_ret
   exact ⟨by rw [HF.out];rfl,HI.out.1⟩
def setAt (k v:Nat):Prs->Prs
 | []=>[]
 | p :: l=>if p.1=k then (p.1,v) :: l else p :: setAt k v l
theorem setAt_is {l:Prs} {k v:Nat} (h:(keysP l).Nodup):setAt k v l=setP k v l:=by
 induction l with
 | nil=>rfl
 | cons p l ih =>
  obtain ⟨h1,h2⟩:=List.nodup_cons.1 h
  rw [setAt]
  unfold setP at ih ⊢
  rw [List.map_cons]
  by_cases e:p.1=k
  ·rw [if_pos e,if_pos e]
   congr 1
   refine ((List.map_congr_left (g:=id) (fun q hq=>?_)).trans (List.map_id l)).symm
   rw [if_neg (fun e2:q.1=k=>h1 (by rw [e,<- e2];exact List.mem_map_of_mem hq))]
   rfl
  ·rw [if_neg e,if_neg e,ih h2]
theorem setAt_at:∀ {l:Prs} {i k v:Nat} (hi:i < l.length),l[i].1=k->(∀ j (hj:j < l.length),j < i->l[j].1≠k)->setAt k v l=l.set i (k,v)
 | p :: l,0,k,v,_,h1,_=>by
  have e:p.1=k:=h1
  rw [setAt,if_pos e,List.set_cons_zero,e]
 | p :: l,i+1,k,v,hi,h1,h2=>by
  have hi2:i < l.length:=by simpa using hi
  have h3:l[i].1=k:=h1
  rw [setAt,if_neg (show ¬ p.1=k from h2 0 (by simp) (by omega)),List.set_cons_succ,setAt_at hi2 h3 (fun j hj hji=>h2 (j+1) (by simpa using hj) (by omega))]
theorem setAt_none:∀ {l:Prs} {k v:Nat},(∀ j (hj:j < l.length),l[j].1≠k)->setAt k v l=l
 | [],_,_,_=>rfl
 | p :: l,k,v,h=>by rw [setAt,if_neg (show ¬ p.1=k from h 0 (by simp)),setAt_none (fun j hj=>h (j+1) (by simpa using hj))]
theorem find_at {l:Prs} {i k:Nat} (hi:i < l.length) (h1:l[i].1=k) (h2:∀ j (hj:j < l.length),j < i->l[j].1≠k):valP k l=l[i].2:=by
 have e5:l=l.take i ++ l[i] :: l.drop (i+1):=by rw [List.getElem_cons_drop,List.take_append_drop]
 have e6:valP k (l.take i ++ l[i] :: l.drop (i+1))=l[i].2:=by
  rw [valP_append,if_neg (fun hm=>by
   obtain ⟨q,hq,he⟩:=List.mem_map.1 hm
   obtain ⟨j,hj,rfl⟩:=List.getElem_of_mem hq
   rw [List.getElem_take] at he
   rw [List.length_take] at hj
   exact h2 j (by omega) (by omega) he),valP,if_pos h1]
 rw [<- e5] at e6
 exact e6
set_option maxHeartbeats 2000000 in
theorem exchange_walk {g c:Nat} (h:PairsAt w g l) (hl:l.length<=100000000) (k x:Nat):Calls Tryz.prog 226 #[.slice (some ⟨g,0,none⟩) l.length c,.int .u64 (k:Nat),.int .u64 (x:Nat)] w fun e w'=>e = .returned (.int .u64 (valP k l:Nat))/\Only [g] w w'/\PairsAt w' g (setAt k x l):=by
 have H:=Lib.hid h
 have HLT:=Lib.hid h.lt
 obtain ⟨n,hn⟩:∃ n,l.length=n:=⟨_,rfl⟩
 rw [hn] at hl ⊢
 have HN:=Lib.hid hn
 obtain ⟨r,hr⟩:∃ r,valP k l=r:=⟨_,rfl⟩
 have HR:=Lib.hid hr
 rw [hr]
 clear h hn hr
 go_enter Tryz.func226,Tryz.ntmps226
 go_wp2_with fail
 go_loopg [11] n (fun gg s11 wr=>∃ (i:Nat),i+gg=n/\s11 = .int .i64 (i:Nat)/\Hid (Below w.heap.size w wr/\PairsAt wr g l/\∀ j (hj:j < l.length),j < i->l[j].1≠k))
 case atStart=>exact ⟨0,by omega,rfl,Lib.hid ⟨Below.refl _ _,H.out,fun j _ h=>absurd h (Nat.not_lt_zero _)⟩⟩
 case round =>
  obtain ⟨i,hi,rfl,HI⟩:=hrel
  by_cases hlt:i < n
  ·have hltI:(i:Int) < (n:Int):=by omega
   have hix:i < l.length:=by have:=HN.out;omega
   obtain ⟨q0,q1,f0,f1⟩:=HI.out.2.1.cells hix
   obtain ⟨p,hp⟩:∃ p,l[i]=p:=⟨_,rfl⟩
   have HPX:=Lib.hid hp
   have hgw:g < wr.heap.size:=HI.out.2.1.lt
   rw [hp] at q0 q1
   obtain ⟨kx,vx⟩:=p
   dsimp only at q0 q1
   have HB2:=Lib.hid (HI.out.1.alloc HI.out.1.size (.cells #[.int .u64 (kx:Nat),.int .u64 (vx:Nat)] PairT))
   have HP2:=Lib.hid (HI.out.2.1.alloc (.cells #[.int .u64 (kx:Nat),.int .u64 (vx:Nat)] PairT))
   have hne:g≠wr.heap.size:=by omega
   have hne2:wr.heap.size≠g:=by omega
   clear hp
   by_cases hk:kx=k
   ·subst hk
    have hkI:((kx:Int) == (kx:Int))=true:=by simp
    have HF:Hid (vx=r):=Lib.hid (by
     rw [<- HR.out,find_at hix (by rw [HPX.out]) HI.out.2.2,HPX.out])
    have HEND:Hid (Only [g] w ((wr.setCell ⟨g,i * 2+1,none⟩ (.int .u64 (x:Nat))).alloc (.cells #[.int .u64 (kx:Nat),.int .u64 (vx:Nat)] PairT))/\PairsAt ((wr.setCell ⟨g,i * 2+1,none⟩ (.int .u64 (x:Nat))).alloc (.cells #[.int .u64 (kx:Nat),.int .u64 (vx:Nat)] PairT)) g (setAt kx x l)):=Lib.hid ⟨((Only.of_below HI.out.1).setCell (by simp) _).alloc _,by
     have h5:=HI.out.2.1.setV hix x
     rw [HPX.out] at h5
     rw [setAt_at hix (by rw [HPX.out]) HI.out.2.2]
     exact h5.alloc _⟩
    clear HPX HI HP2
    go_wp2
    go_ret
    exact ⟨by first | rfl | (rw [HF.out];rfl),HEND.out⟩
   ·have hkI:((kx:Int) == (k:Int))=false:=by rw [beq_eq_false_iff_ne];omega
    have HN2:Hid (Below w.heap.size w (wr.alloc (.cells #[.int .u64 (kx:Nat),.int .u64 (vx:Nat)] PairT))/\PairsAt (wr.alloc (.cells #[.int .u64 (kx:Nat),.int .u64 (vx:Nat)] PairT)) g l/\∀ j (hj:j < l.length),j < i+1->l[j].1≠k):=Lib.hid ⟨HB2.out,HP2.out,fun j hj h=>by
     rcases Nat.lt_or_ge j i with h5 | h5
     ·exact HI.out.2.2 j hj h5
     ·obtain rfl:j=i:=by omega
      rw [HPX.out]
      exact hk⟩
    clear HPX HB2 HP2 HI
    go_wp2
    go_roundg (gk - 1)
    case measure=>omega
    case rel=>exact ⟨i+1,by omega,by go_num,HN2⟩
  ·have hltI:¬ (i:Int) < (n:Int):=by omega
   have hno:∀ j (hj:j < l.length),l[j].1≠k:=fun j hj=>HI.out.2.2 j hj (by have:=HN.out;omega)
   have HF:Hid (r=0):=Lib.hid (by
    rw [<- HR.out]
    refine valP_none (fun hm=>?_)
    obtain ⟨q,hq,he⟩:=List.mem_map.1 hm
    obtain ⟨j,hj,rfl⟩:=List.getElem_of_mem hq
    exact hno j hj he)
   have HEND:Hid (Only [g] w wr/\PairsAt wr g (setAt k x l)):=Lib.hid ⟨Only.of_below HI.out.1,by rw [setAt_none hno];exact HI.out.2.1⟩
   clear hno
   go_wp2
   go_ret
   exact ⟨by rw [HF.out];rfl,HEND.out⟩
end
set_option maxRecDepth 8000
theorem zeroI (w:World):(zeroValue 3).run Tryz.prog w = .ok (.int .i64 0) w:=by kernel_rfl
theorem wf_int {i:Nat} (h:i < 9223372036854775808):(Lit.int .i64 (i:Nat)).wf=true:=by
 have m1:IntKind.i64.min = -9223372036854775808:=rfl
 have m2:IntKind.i64.max=9223372036854775807:=rfl
 simp only [Lit.wf,Bool.and_eq_true,decide_eq_true_eq,m1,m2]
 omega
structure TurnM (w:World) (b:Nat) (ks:List Nat) (i:Nat):Prop where
 own:∃ D:DataW Unit,w.ownsMap Tryz.prog 56 (plainElem Tryz.prog 3) b i D/\Maps.IsMap D/\∀ k:Nat,k < 18446744073709551616->Maps.has D (.int .u64 (k:Nat))=decide (k∈ks.take i)/\∀ j (hj:j < ks.length),j < i->ks[j]=k->D.atKey (.int .u64 (k:Nat)) (.lit (.int .i64 0)) = .lit (.int .i64 (j:Nat))
theorem TurnM.made (w:World) (ks:List Nat):TurnM (w.alloc (.map #[] 0)) w.heap.size ks 0 :=
 ⟨⟨.map [],World.ownsMap_made _ _ _ _,⟨_,rfl⟩,fun k _=>⟨by simp [Maps.has],fun j _ h=>absurd h (Nat.not_lt_zero _)⟩⟩⟩
theorem TurnM.kept {w w':World} {b i:Nat} {ks:List Nat} {row:Option Nat} (h:TurnM w b ks i) (hg:w.grownBy w' row) (hne:some b≠row):TurnM w' b ks i:=by
 obtain ⟨D,h1,h2⟩:=h.own
 exact ⟨⟨D,h1.kept hg hne,h2⟩⟩
theorem TurnM.alloc {w:World} {b i:Nat} {ks:List Nat} (h:TurnM w b ks i) (o:Obj):TurnM (w.alloc o) b ks i:=h.kept (World.grownBy_alloc w o none) (by simp)
theorem TurnM.setCell {w:World} {b i:Nat} {ks:List Nat} {a:Addr} (h:TurnM w b ks i) (ha:b≠a.block) (u:Value):TurnM (w.setCell a u) b ks i:=by
 obtain ⟨D,h1,h2⟩:=h.own
 exact ⟨⟨D,h1.setCell ha u,h2⟩⟩
theorem TurnM.lt {w:World} {b i:Nat} {ks:List Nat} (h:TurnM w b ks i):b < w.heap.size:=by
 obtain ⟨D,h1,_⟩:=h.own
 exact h1.lt
theorem TurnM.look {w:World} {b i:Nat} {ks:List Nat} (h:TurnM w b ks i) {k:Nat} (hk:k < 18446744073709551616) :
  ∃ a:Int,(Instr.lookup 306 (.map (some b)) (.int .u64 (k:Nat)) true).run Tryz.prog w = .ok (.tuple #[.int .i64 a,.bool (decide (k∈ks.take i))]) w/\∀ j (hj:j < ks.length),j < i->ks[j]=k->a=(j:Nat):=by
 obtain ⟨D,h1,_,h3⟩:=h.own
 obtain ⟨h4,h5⟩:=h3 k hk
 obtain ⟨v,ps,hrun,hv⟩:=h1.look_ok keyed64 Tryz.underlying306 (zeroI w) (plainElem_int Tryz.underlying3 (wf_int (i:=0) (by decide))) (key64 hk)
 obtain ⟨a,rfl,e,_⟩:=plainElem_int_inv Tryz.underlying3 hv
 rw [h4] at hrun
 refine ⟨a,hrun,fun j hj hji e2=>?_⟩
 have h6:=h5 j hj hji e2
 injection e with e3 _
 have e4:(DataW.lit (.int .i64 (j:Nat)):DataW Unit) = .lit (.int .i64 a):=h6.symm.trans e3
 injection e4 with e4
 injection e4 with _ e4
 exact e4.symm
theorem wpList_turn {w:World} {ops:Array Oper} {rest:List Oper} {o:Oper} {a:Act} {Q:Exit->Act->World->Prop} (hg:o.guard=none) (m x v:Operand) (hop:o.op=Op.mapUpdate 306 m x v)
  (b:Nat) (ks:List Nat) (i:Nat) (hi:i < ks.length) (hm:a.eval m = .map (some b)) (h:TurnM w b ks i) (hn:ks.length<=1000000000) (hnd:ks.Nodup) (hk:ks[i] < 18446744073709551616) (hx:a.eval x = .int .u64 (ks[i]:Nat)) (hv:a.eval v = .int .i64 (i:Nat))
  (hK:∀ w',TurnM w' b ks (i+1)->w.grownBy w' (some b)->wpList Tryz.prog ops Q rest (a.put o.dst undef) w'):wpList Tryz.prog ops Q (o :: rest) a w:=by
 obtain ⟨D,h1,h2,h3⟩:=h.own
 refine wpList_mapUpdate_own w hg m x v _ hop 56 3 keyed64 Tryz.underlying306 _ b i D hm h1 (by unfold maxLen;omega) _ _ _ hx hv (key64 hk) _ [] (plainElem_int Tryz.underlying3 (wf_int (by omega))) ?_
 intro w' h5 h6
 refine hK w' ⟨⟨_,h5,?_,fun k hk2=>?_⟩⟩ h6
 ·obtain ⟨es,rfl⟩:=h2
  exact ⟨_,rfl⟩
 ·obtain ⟨h7,h8⟩:=h3 k hk2
  have htk:∀ x,x∈ks.take (i+1) ↔ x∈ks.take i∨x=ks[i]:=fun x=>by rw [List.take_succ_eq_append_getElem hi,List.mem_append,List.mem_singleton]
  by_cases e:k=ks[i]
  ·subst e
   refine ⟨?_,fun j hj hji e2=>?_⟩
   ·rw [Maps.has_put_same h2 (by simp [WideAt.IsKeyLit])]
    exact (decide_eq_true ((htk _).2 (.inr rfl))).symm
   ·obtain rfl:j=i:=nodup_inj hnd hj hi e2
    rw [Maps.atKey_put_same h2 (by simp [WideAt.IsKeyLit])]
  ·have hne:(Lit.int .u64 (k:Nat))≠.int .u64 (ks[i]:Nat):=by
    intro e2
    injection e2 with _ e3
    exact e (by omega)
   refine ⟨?_,fun j hj hji e2=>?_⟩
   ·rw [Maps.has_put_other hne,h7]
    exact decide_eq_decide.2 ⟨fun h9=>(htk _).2 (.inl h9),fun h9=>((htk _).1 h9).resolve_right e⟩
   ·rw [Maps.atKey_put_other hne]
    refine h8 j hj ?_ e2
    rcases Nat.lt_or_ge j i with h9 | h9
    ·exact h9
    ·obtain rfl:j=i:=by omega
     exact absurd e2.symm e
structure Lv (w:World) (b:Nat) (m:M13) (x:V13) (ks:List Nat) (v:Value) (w':World):Prop where
 only:Only [b] w w'
 st:∃ x':V13,x'.p=x.p/\S13 w' PT13 b ⟨m.ps,syP ks m.prs,m.hits,m.misses,m.ev⟩ x'/\w'.ownsRow w.heap.size PairT 2 (.slice x'.pr.F x'.pr.n x'.pr.c) (syP ks m.prs).length (prL (syP ks m.prs))/\∀ n c ad,v = .slice (some ad) (n+1) c->(Value.slice x'.pr.F x'.pr.n x'.pr.c).ownBlock≠some ad.block
 left:PV w' v (lvP ks m.prs)
theorem own_set {w:World} {B size n:Nat} {e:TypeId} {v:Value} {xs:List Value} {a:Addr} (h:w.ownsRow B e size v n xs) (ha:∀ g,v.ownBlock=some g->g≠a.block) (u:Value):(w.setCell a u).ownsRow B e size v n xs:=by
 refine ⟨h.1,?_⟩
 rcases h.2 with q | ⟨g,cap,cur,rfl,e2,e3,e4⟩
 ·exact .inl q
 ·exact .inr ⟨g,cap,cur,rfl,e2,(Below.heap_setCell w a u g (fun e5=>ha g rfl e5)).trans e3,e4⟩
section
variable {w:World} {b:Nat} {m:M13} {x:V13} {ks:List Nat} {kv:Value}
set_option maxHeartbeats 4000000 in
theorem leave_walk (h:S13 w PT13 b m x) (hk:KV w kv ks) (hnd:ks.Nodup) (hkb:∀ k∈ks,k < 18446744073709551616) (hl:ks.length<=10000000) (hpn:(keysP m.prs).Nodup) (hpb:∀ p∈m.prs,p.1 < 18446744073709551616/\p.2 < 18446744073709551616) (hpl:m.prs.length<=10000000) :
  Calls Tryz.prog 227 #[.pointer (some ⟨b,0,none⟩),kv] w fun e w'=>∃ v,e = .returned v/\Lv w b m x ks v w':=by
 obtain ⟨F,c,rfl,-⟩:=hk.mem
 have HK:=Lib.hid hk
 have HS:=Lib.hid h
 have HND:=Lib.hid hnd
 have HKB:=Lib.hid hkb
 have HPN:=Lib.hid hpn
 have HPB:=Lib.hid hpb
 obtain ⟨n,hn⟩:∃ n,ks.length=n:=⟨_,rfl⟩
 have HN:=Lib.hid hn
 obtain ⟨q,hq⟩:∃ q,m.prs.length=q:=⟨_,rfl⟩
 have HQ:=Lib.hid hq
 have hbw:=h.lt
 obtain ⟨Fp,hFp⟩:∃ Fp,x.pr.F=Fp:=⟨_,rfl⟩
 obtain ⟨cp,hcp⟩:∃ cp,x.pr.c=cp:=⟨_,rfl⟩
 have hpr:x.pr.n=q:=by
  obtain ⟨F',c',e,_⟩:=h.st.prs.mem
  injection e with _ e _
  rw [e,hq]
 have HBX:Hid (∀ W,Below w.heap.size w W->W.cell? ⟨b,20,none⟩=some (.slice Fp q cp)/\W.frozen? ⟨b,20,none⟩=false/\PV W (.slice Fp q cp) m.prs):=Lib.hid (fun W hW=>by
  have hb2:=(hW.block b h.lt).trans h.box
  obtain ⟨-,-,-,-,-,-,-,-,-,-,-,-,-,-,-,-,-,-,-,-,p20,-⟩:=box_cells hb2
  rw [hFp,hpr,hcp] at p20
  have hpv:=h.st.prs.below hW
  rw [hFp,hpr,hcp] at hpv
  exact ⟨p20,box_free hb2 20,hpv⟩)
 obtain ⟨cs,hmk,hcs⟩:=make_pairs n (by omega) w
 have hmm:=@run_makeMap Tryz.prog
 have H0:Hid (Below w.heap.size w ((w.alloc (.cells cs PairT)).alloc (.map #[] 0))/\PairsAt ((w.alloc (.cells cs PairT)).alloc (.map #[] 0)) w.heap.size (layP ks 0)/\TurnM ((w.alloc (.cells cs PairT)).alloc (.map #[] 0)) (w.heap.size+1) ks 0):=Lib.hid ⟨low_two w _ _,(show PairsAt (w.alloc (.cells cs PairT)) w.heap.size (layP ks 0) from ⟨cs,heap_alloc_new w _,by rw [layP_zero,hn,<- hcs,List.length_replicate,List.take_of_length_le (by rw [hcs,prL_len,List.length_replicate];exact Nat.le_refl _)]⟩).alloc _,by
  have:=TurnM.made (w.alloc (.cells cs PairT)) ks
  rw [World.size_alloc] at this
  exact this⟩
 rw [hn] at hl hk ⊢
 clear h hk hnd hkb hpn hpb hn hq hcs hFp hcp hpr
 go_enter Tryz.func227,Tryz.ntmps227
 go_wp2_with fail
 go_loopg [20] n (fun gg s20 wr=>∃ (i:Nat),i+gg=n/\s20 = .int .i64 (i:Nat)/\Hid (Below w.heap.size w wr/\PairsAt wr w.heap.size (layP ks i)/\TurnM wr (w.heap.size+1) ks i))
 case atStart=>exact ⟨0,by omega,rfl,H0⟩
 case round =>
  obtain ⟨i,hi,rfl,HI⟩:=hrel
  by_cases hlt:i < n
  ·have hltI:(i:Int) < (n:Int):=by omega
   have hik:i < ks.length:=by rw [HN.out];exact hlt
   obtain ⟨F',c',e,_,_,h3⟩:=(HK.out.below HI.out.1).mem
   injection e with e1 e2 e3
   subst e1 e3
   obtain ⟨ad,hF,hadb,q0⟩:=h3 i hik
   subst hF
   clear h3 e2
   have hlen:i < (layP ks i).length:=by rw [layP_len i (Nat.le_of_lt hik)];exact hik
   obtain ⟨q1,_,f1,_⟩:=HI.out.2.1.cells hlen
   have hxb:=HKB.out _ (List.getElem_mem hik)
   have HP2:Hid (PairsAt (wr.setCell ⟨w.heap.size,i * 2,none⟩ (.int .u64 (ks[i]:Nat))) w.heap.size (layP ks (i+1))):=Lib.hid (by
    have h5:=HI.out.2.1.setK hlen ks[i]
    have h6:(layP ks i)[i]=(0,0):=by
     have:=layP_at (ks:=ks) hik
     rw [List.getElem?_eq_getElem hlen] at this
     exact Option.some.inj this
    rw [h6] at h5
    rw [layP_step hik]
    exact h5)
   have HT2:Hid (TurnM (wr.setCell ⟨w.heap.size,i * 2,none⟩ (.int .u64 (ks[i]:Nat))) (w.heap.size+1) ks i):=Lib.hid (HI.out.2.2.setCell (by simp) _)
   have HB2:Hid (Below w.heap.size w (wr.setCell ⟨w.heap.size,i * 2,none⟩ (.int .u64 (ks[i]:Nat)))):=Lib.hid (HI.out.1.trans (((Only.refl [w.heap.size] wr).setCell (by simp) _).below (by simp) HI.out.1.size))
   have hnb:ks.length<=1000000000:=by have:=HN.out;omega
   obtain ⟨kx,hkx⟩:∃ kx,ks[i]=kx:=⟨_,rfl⟩
   have HKX:=Lib.hid hkx
   rw [hkx] at q0 HP2 HT2 HB2 hxb
   clear hkx HI
   go_wp2_with (at_mapUpdate;refine wpList_turn rfl _ _ _ rfl (w.heap.size+1) ks i hik rfl HT2.out hnb HND.out (by rw [HKX.out];exact hxb) (by rw [HKX.out];rfl) rfl ?_)
   intro w7 ht7 hg7
   have HN2:Hid (Below w.heap.size w w7/\PairsAt w7 w.heap.size (layP ks (i+1))/\TurnM w7 (w.heap.size+1) ks (i+1)):=Lib.hid ⟨HB2.out.grown hg7 HB2.out.size (fun j hj=>by cases hj;omega),HP2.out.keep (hg7.block _ HP2.out.lt (by simp)),ht7⟩
   clear ht7 hg7 HP2 HT2 HB2 q0 q1 f1
   go_wp2
   go_roundg (gk - 1)
   case measure=>omega
   case rel=>exact ⟨i+1,by omega,by go_num,HN2⟩
  ·have hltI:¬ (i:Int) < (n:Int):=by omega
   obtain ⟨n0,hn0⟩:∃ n0,n=n0:=⟨_,rfl⟩
   obtain rfl:i=n:=by omega
   subst hn0
   obtain ⟨p20,pf20,-⟩:=HBX.out wr HI.out.1
   obtain ⟨wB,hwB⟩:∃ z,z=wr:=⟨_,rfl⟩
   subst hwB
   have H1:Hid (Below w.heap.size w wB/\PairsAt wB w.heap.size (lvP ks (m.prs.take 0))/\TurnM wB (w.heap.size+1) ks ks.length/\OwnP w.heap.size w wB (.slice none 0 0) (syP ks (m.prs.take 0))):=Lib.hid (by
    have h:=HI.out
    rw [<- HN.out] at h
    rw [layP_all] at h
    exact ⟨h.1,h.2.1,h.2.2,OwnP.nil h.1⟩)
   clear HI
   go_wp2_with fail
   go_loopg [9,39] q (fun gg s9 s39 wr=>∃ (j:Nat) (v9:Value),j+gg=q/\v9=s9/\s39 = .int .i64 (j:Nat)/\Hid (Below w.heap.size w wr/\PairsAt wr w.heap.size (lvP ks (m.prs.take j))/\TurnM wr (w.heap.size+1) ks ks.length/\OwnP w.heap.size w wr v9 (syP ks (m.prs.take j))/\∀ g,v9.ownBlock=some g->g≠w.heap.size/\g≠w.heap.size+1))
   case atStart=>exact ⟨0,_,by omega,rfl,rfl,Lib.hid ⟨H1.out.1,H1.out.2.1,H1.out.2.2.1,H1.out.2.2.2,fun g hg=>by simp [Value.ownBlock] at hg⟩⟩
   case round =>
    obtain ⟨j,v9,hj,rfl,rfl,HJ⟩:=hrel
    by_cases hlj:j < q
    ·have hljI:(j:Int) < (q:Int):=by omega
     have hjq:j < m.prs.length:=by rw [HQ.out];exact hlj
     obtain ⟨F',c',e,_,_,h3⟩:=(HBX.out wr HJ.out.1).2.2.at_
     injection e with e1 e2 e3
     subst e1 e3
     obtain ⟨gb,off,hF,hg,q0,q1⟩:=h3 j hjq
     subst hF
     obtain ⟨px,hpx⟩:∃ px,m.prs[j]=px:=⟨_,rfl⟩
     have HPX:=Lib.hid hpx
     have hkx:=(HPB.out _ (List.getElem_mem hjq)).1
     rw [hpx] at q0 q1 hkx
     obtain ⟨kx,vx⟩:=px
     dsimp only at q0 q1 hkx
     clear h3 e2 hpx
     have HB2:=Lib.hid (HJ.out.1.alloc HJ.out.1.size (.cells #[.int .u64 (kx:Nat),.int .u64 (vx:Nat)] PairT))
     have HP2:=Lib.hid (HJ.out.2.1.alloc (.cells #[.int .u64 (kx:Nat),.int .u64 (vx:Nat)] PairT))
     have HT2:=Lib.hid (HJ.out.2.2.1.alloc (.cells #[.int .u64 (kx:Nat),.int .u64 (vx:Nat)] PairT))
     have HO2:=Lib.hid (HJ.out.2.2.2.1.alloc HJ.out.1.size (.cells #[.int .u64 (kx:Nat),.int .u64 (vx:Nat)] PairT))
     obtain ⟨ai,hlook,hai⟩:=HT2.out.look hkx
     rw [List.take_length] at hlook
     have HSY:=Lib.hid (syP_step (ks:=ks) hjq)
     rw [HPX.out] at HSY
     dsimp only at HSY
     by_cases hin:kx∈ks
     ·obtain ⟨i0,hi0,he0⟩:=List.getElem_of_mem hin
      have hai0:=hai i0 hi0 hi0 he0
      subst hai0
      rw [decide_eq_true hin] at hlook
      rw [if_pos hin,List.append_nil] at HSY
      have hi0n:i0 < i:=by rw [<- HN.out];exact hi0
      have hi0I:(i0:Int) < (i:Int):=by omega
      have hlen:i0 < (lvP ks (m.prs.take j)).length:=by rw [lvP_len];exact hi0
      obtain ⟨q2,q3,f2,f3⟩:=HJ.out.2.1.cells hlen
      have hlw:w.heap.size < wr.heap.size:=HJ.out.2.1.lt
      have hne:w.heap.size≠wr.heap.size:=by omega
      have hne2:wr.heap.size≠w.heap.size:=by omega
      have HN2:Hid (Below w.heap.size w (((wr.setCell ⟨w.heap.size,i0 * 2,none⟩ (.int .u64 (kx:Nat))).setCell ⟨w.heap.size,i0 * 2+1,none⟩ (.int .u64 (vx:Nat))).alloc (.cells #[.int .u64 (kx:Nat),.int .u64 (vx:Nat)] PairT))/\PairsAt (((wr.setCell ⟨w.heap.size,i0 * 2,none⟩ (.int .u64 (kx:Nat))).setCell ⟨w.heap.size,i0 * 2+1,none⟩ (.int .u64 (vx:Nat))).alloc (.cells #[.int .u64 (kx:Nat),.int .u64 (vx:Nat)] PairT)) w.heap.size (lvP ks (m.prs.take (j+1)))/\TurnM (((wr.setCell ⟨w.heap.size,i0 * 2,none⟩ (.int .u64 (kx:Nat))).setCell ⟨w.heap.size,i0 * 2+1,none⟩ (.int .u64 (vx:Nat))).alloc (.cells #[.int .u64 (kx:Nat),.int .u64 (vx:Nat)] PairT)) (w.heap.size+1) ks ks.length/\OwnP w.heap.size w (((wr.setCell ⟨w.heap.size,i0 * 2,none⟩ (.int .u64 (kx:Nat))).setCell ⟨w.heap.size,i0 * 2+1,none⟩ (.int .u64 (vx:Nat))).alloc (.cells #[.int .u64 (kx:Nat),.int .u64 (vx:Nat)] PairT)) v9 (syP ks (m.prs.take (j+1)))/\∀ g,v9.ownBlock=some g->g≠w.heap.size/\g≠w.heap.size+1):=Lib.hid (by
       have hlow:Below w.heap.size w ((wr.setCell ⟨w.heap.size,i0 * 2,none⟩ (.int .u64 (kx:Nat))).setCell ⟨w.heap.size,i0 * 2+1,none⟩ (.int .u64 (vx:Nat))):=HJ.out.1.trans ((((Only.refl [w.heap.size] wr).setCell (by simp) _).setCell (by simp) _).below (by simp) HJ.out.1.size)
       refine ⟨hlow.alloc hlow.size _,?_,((HJ.out.2.2.1.setCell (by simp) _).setCell (by simp) _).alloc _,?_,HJ.out.2.2.2.2⟩
       ·have h5:=HJ.out.2.1.set hlen (kx,vx)
        rw [lvP_leave HPN.out HND.out hjq hi0 (by rw [HPX.out];exact he0),HPX.out]
        exact h5.alloc _
       ·rw [HSY.out]
        exact (OwnP.mk hlow (own_set (own_set HJ.out.2.2.2.1.own (fun g hg=>(HJ.out.2.2.2.2 g hg).1) _) (fun g hg=>(HJ.out.2.2.2.2 g hg).1) _)).alloc hlow.size _)
      clear HB2 HP2 HT2 HO2 HSY hai HPX
      go_wp2
      go_roundg (gk - 1)
      case measure=>omega
      case rel=>exact ⟨j+1,v9,by omega,rfl,by go_num,HN2⟩
     ·rw [decide_eq_false hin] at hlook
      rw [if_neg hin] at HSY
      have HLS:Hid (lvP ks (m.prs.take (j+1))=lvP ks (m.prs.take j)):=Lib.hid (lvP_stay HPN.out hjq (by rw [HPX.out];exact hin))
      have HO3:Hid (OwnP w.heap.size w ((wr.alloc (.cells #[.int .u64 (kx:Nat),.int .u64 (vx:Nat)] PairT)).alloc (.cells #[.int .u64 (kx:Nat),.int .u64 (vx:Nat)] PairT)) v9 (syP ks (m.prs.take j))):=Lib.hid (HO2.out.alloc HB2.out.size _)
      have HSRC:=Lib.hid (PV.one (wr.alloc (.cells #[.int .u64 (kx:Nat),.int .u64 (vx:Nat)] PairT)) kx vx)
      have hsyl:(syP ks (m.prs.take j)).length<=10000000:=by
       have h5:=syP_len (ks:=ks) (l:=m.prs.take j)
       rw [List.length_take] at h5
       omega
      have HNE:=Lib.hid HJ.out.2.2.2.2
      have HP3:=Lib.hid (HP2.out.alloc (.cells #[.int .u64 (kx:Nat),.int .u64 (vx:Nat)] PairT))
      have HT3:=Lib.hid (HT2.out.alloc (.cells #[.int .u64 (kx:Nat),.int .u64 (vx:Nat)] PairT))
      have hszw:w.heap.size+1 < wr.heap.size:=HJ.out.2.2.1.lt
      clear HB2 HP2 HT2 HO2 hai HPX HJ
      go_wp2_with (at_builtin;refine wpList_append_pv rfl _ _ rfl w.heap.size (by kernel_rfl) (by kernel_rfl) v9 (syP ks (m.prs.take j)) rfl HO3.out _ [(kx,vx)] rfl (by first | exact HSRC.out | (have h:=HSRC.out;simp only [World.size_alloc] at h;exact h)) (by simp;omega) HO3.out.low.size ?_)
      intro v6 w6 hown6 hg6 hat6
      have HN2:Hid (Below w.heap.size w w6/\PairsAt w6 w.heap.size (lvP ks (m.prs.take (j+1)))/\TurnM w6 (w.heap.size+1) ks ks.length/\OwnP w.heap.size w w6 v6 (syP ks (m.prs.take (j+1)))/\∀ g,v6.ownBlock=some g->g≠w.heap.size/\g≠w.heap.size+1):=Lib.hid (by
       refine ⟨hown6.low,?_,HT3.out.kept hg6 (fun e=>(HNE.out _ e.symm).2 rfl),?_,fun g hg=>?_⟩
       ·rw [HLS.out]
        exact HP3.out.keep (hg6.block _ HP3.out.lt (fun e=>(HNE.out _ (by first | exact e | exact e.symm)).1 rfl))
       ·rw [HSY.out]
        exact hown6
       ·rcases hat6 with e | e
        ·exact HNE.out g (e ▸ hg)
        ·rw [e] at hg
         injection hg with hg
         try simp only [World.size_alloc] at hg
         omega)
      clear hown6 hg6 hat6 HO3 HSRC HP3 HT3 HLS HSY HNE
      go_wp2
      go_roundg (gk - 1)
      case measure=>omega
      case rel=>exact ⟨j+1,v6,by omega,rfl,by go_num,HN2⟩
    ·have hljI:¬ (j:Int) < (q:Int):=by omega
     obtain rfl:j=q:=by omega
     obtain ⟨p20,pf20,-⟩:=HBX.out wr HJ.out.1
     obtain ⟨F9,n9,c9,rfl⟩:=HJ.out.2.2.2.1.pv.form
     have HEND:Hid (Lv w b m x ks (.slice (some ⟨w.heap.size,0,none⟩) ks.length ks.length) (wr.setCell ⟨b,20,none⟩ (.slice F9 n9 c9))):=Lib.hid (by
      obtain ⟨h1,h2,h3,h4,h5⟩:=HJ.out
      rw [<- HQ.out,List.take_length] at h2 h4
      have hS:=HS.out.below h1
      obtain ⟨k1,k2⟩:=box_setp hS.box F9 n9 c9
      have hst:=hS.st.only k2 hS.bx
      refine ⟨(Only.of_below h1).trans k2 (by simp),⟨{ x with pr:=⟨F9,n9,c9⟩ },rfl,⟨k1,hS.ty,⟨hst.pol,h4.pv.only k2 hS.bx,hst.hi,hst.mi,hst.ev⟩⟩,own_set h4.own (fun g hg e=>?_) _,fun n c ad e=>?_⟩,?_⟩
      ·have h6:=(h4.own.lt g hg).1
       have h7:=HS.out.lt
       rw [e] at h6
       exact absurd h6 (by simpa using h7)
      ·injection e with e
       injection e with e
       subst e
       exact fun e2=>(h5 _ e2).1 rfl
      ·have h6:=h2.pv (c:=ks.length) (by rw [lvP_len];exact Nat.le_refl _)
       rw [lvP_len] at h6
       exact h6.only k2 hS.bx)
     rw [HN.out] at HEND
     clear HJ
     go_wp2
     go_ret
     exact ⟨_,rfl,HEND.out⟩
end
end Go.Proofs.YtcpggonengkgiaaGreatDoor
