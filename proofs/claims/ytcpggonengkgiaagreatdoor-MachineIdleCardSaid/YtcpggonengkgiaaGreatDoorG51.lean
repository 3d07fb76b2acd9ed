/- Words and walks: McDS. -/
import Derived.Test.YtcpggonengkgiaaGreatDoorG1
import Derived.Test.YtcpggonengkgiaaGreatDoorG30
namespace Go.Proofs.YtcpggonengkgiaaGreatDoor
open Go Go.RowKit Go.Deep
set_option maxRecDepth 8000
section
variable {w:World} {v:Value} {l:Prs}
set_option maxHeartbeats 400000 in
theorem rvalue_walk (h:PV w v l) (hl:l.length<=100000000) (k:Nat):Calls Tryz.prog 31 #[v,.int .u64 (k:Nat)] w fun e w'=>e = .returned (.int .u64 (valP k l:Nat))/\Below w.heap.size w w':=by
 obtain ⟨F,c,rfl,-⟩:=h.at_
 have H:=Lib.hid h
 obtain ⟨n,hn⟩:∃ n,l.length=n:=⟨_,rfl⟩
 rw [hn] at hl H ⊢
 have HN:=Lib.hid hn
 obtain ⟨r,hr⟩:∃ r,valP k l=r:=⟨_,rfl⟩
 have HR:=Lib.hid hr
 rw [hr]
 clear h hn hr
 go_enter Tryz.func31,Tryz.ntmps31
 go_wp2_with fail
 go_loopg [5] n (fun gg s5 wr=>∃ (i:Nat),i+gg=n/\s5 = .int .i64 (i:Nat)/\Hid (Below w.heap.size w wr/\∀ j (hj:j < l.length),j < i->l[j].1≠k))
 case atStart=>exact ⟨0,by omega,rfl,Lib.hid ⟨Below.refl _ _,fun j _ h=>absurd h (Nat.not_lt_zero _)⟩⟩
 case round =>
  obtain ⟨i,hi,rfl,HI⟩:=hrel
  by_cases hlt:i < n
  ·have hltI:(i:Int) < (n:Int):=by omega
   obtain ⟨F',c',e,_,_,h3⟩:=(H.out.below HI.out.1).at_
   injection e with e1 e2 e3
   subst e1 e3
   have hix:i < l.length:=by have:=HN.out;omega
   obtain ⟨gb,off,hF,hg,q0,q1⟩:=h3 i hix
   subst hF
   obtain ⟨p,hp⟩:∃ p,l[i]=p:=⟨_,rfl⟩
   have HPX:=Lib.hid hp
   rw [hp] at q0 q1
   obtain ⟨kx,vx⟩:=p
   dsimp only at q0 q1
   clear h3 e2 hp
   by_cases hk:kx=k
   ·subst hk
    have hkI:((kx:Int) == (kx:Int))=true:=by simp
    have HF:Hid (vx=r):=Lib.hid (by
     rw [<- HR.out]
     have e5:l=l.take i ++ l[i] :: l.drop (i+1):=by rw [List.getElem_cons_drop,List.take_append_drop]
     rw [e5,valP_append,if_neg (fun hm=>by
      obtain ⟨q,hq,he⟩:=List.mem_map.1 hm
      obtain ⟨j,hj,rfl⟩:=List.getElem_of_mem hq
      rw [List.getElem_take] at he
      rw [List.length_take] at hj
      exact HI.out.2 j (by omega) (by omega) he),HPX.out,valP,if_pos rfl])
    clear HPX
    go_wp2
    go_ret
    exact ⟨by first | rfl | (rw [HF.out];rfl),HI.out.1⟩
   ·have hkI:((kx:Int) == (k:Int))=false:=by rw [beq_eq_false_iff_ne];omega
    have HN2:Hid (Below w.heap.size w wr/\∀ j (hj:j < l.length),j < i+1->l[j].1≠k):=Lib.hid ⟨HI.out.1,fun j hj h=>by
     rcases Nat.lt_or_ge j i with h5 | h5
     ·exact HI.out.2 j hj h5
     ·obtain rfl:j=i:=by omega
      rw [HPX.out]
      exact hk⟩
    clear HPX
    go_wp2
    go_roundg (gk - 1)
    case measure=>omega
    case rel=>exact ⟨i+1,by omega,by go_num,HN2⟩
  ·have hltI:¬ (i:Int) < (n:Int):=by omega
   have HF:Hid (r=0):=Lib.hid (by
    rw [<- HR.out]
    refine valP_none (fun hm=>?_)
    obtain ⟨q,hq,he⟩:=List.mem_map.1 hm
    obtain ⟨j,hj,rfl⟩:=List.getElem_of_mem hq
    have:=HN.out
    exact HI.out.2 j hj (by omega) he)
   go_wp2
   go_ret
   exact ⟨by rw [HF.out];rfl,HI.out.1⟩
set_option maxHeartbeats 400000 in
theorem samep_walk {a b:Value} {ks js:Prs} (ha:PV w a ks) (hb:PV w b js) (hl:ks.length<=100000000) :
  Calls Tryz.prog 14 #[a,b] w fun e w'=>e = .returned (.bool (decide (ks=js)))/\Below w.heap.size w w':=by
 obtain ⟨F,c,rfl,-⟩:=ha.at_
 obtain ⟨G,d,rfl,-⟩:=hb.at_
 obtain ⟨r,hr⟩:∃ r,decide (ks=js)=r:=⟨_,rfl⟩
 have HR:=Lib.hid hr
 rw [hr]
 by_cases hlen:ks.length=js.length
 ·have H1:=Lib.hid ha
  have H2:=Lib.hid hb
  have HL:=Lib.hid hlen
  rw [<- hlen] at H2 ⊢
  clear ha hb hr hlen
  obtain ⟨n,hn⟩:∃ n,ks.length=n:=⟨_,rfl⟩
  rw [hn] at hl H1 H2 ⊢
  have HN:=Lib.hid hn
  clear hn
  go_enter Tryz.func14,Tryz.ntmps14
  go_wp2_with fail
  go_loopg [5] n (fun gg s5 wr=>∃ i:Nat,i+gg=n/\s5 = .int .i64 (i:Nat)/\Hid (Below w.heap.size w wr/\∀ j (hj:j < ks.length) (hj2:j < js.length),j < i->ks[j]=js[j]))
  case atStart=>exact ⟨0,by omega,rfl,Lib.hid ⟨Below.refl _ _,fun j _ _ hj=>by omega⟩⟩
  case round =>
   obtain ⟨i,hi,rfl,HB⟩:=hrel
   by_cases hlt:i < n
   ·have hltI:(i:Int) < (n:Int):=by omega
    have hk:i < ks.length:=by rw [HN.out];exact hlt
    have hj:i < js.length:=by rw [<- HL.out];exact hk
    obtain ⟨F',c',e,_,_,h3⟩:=(H1.out.below HB.out.1).at_
    injection e with e1 e2 e3
    subst e1 e3
    obtain ⟨ga,oa,hF,hga,q0,q1⟩:=h3 i hk
    subst hF
    obtain ⟨G',d',e,_,_,h4⟩:=(H2.out.below HB.out.1).at_
    injection e with e1 e4 e3
    subst e1 e3
    obtain ⟨gb,ob,hG,hgb,q2,q3⟩:=h4 i hj
    subst hG
    have HB2:=Lib.hid HB.out.1
    clear h3 h4 e2 e4
    obtain ⟨pk,hpk⟩:∃ p,ks[i]=p:=⟨_,rfl⟩
    obtain ⟨pj,hpj⟩:∃ p,js[i]=p:=⟨_,rfl⟩
    by_cases he:pk=pj
    ·have HNX:Hid (∀ j (hj:j < ks.length) (hj2:j < js.length),j < i+1->ks[j]=js[j]):=Lib.hid (fun j h h' hji=>by
      rcases Nat.lt_or_ge j i with h2 | h2
      ·exact HB.out.2 j h h' h2
      ·have:j=i:=by omega
       subst this
       rw [hpk,hpj,he])
     rw [hpk,he] at q0 q1
     rw [hpj] at q2 q3
     clear he hpk hpj pk HB
     obtain ⟨kx,vx⟩:=pj
     dsimp only at q0 q1 q2 q3
     go_wp2_with fail
     go_quiet (fail)
     go_wp2
     go_roundg (gk - 1)
     case measure=>omega
     case rel=>exact ⟨i+1,by omega,by go_num,Lib.hid ⟨below_drewn HB2.out _,HNX.out⟩⟩
    ·have HF:Hid (r=false):=Lib.hid (by
      rw [<- HR.out]
      refine decide_eq_false (fun e=>he ?_)
      subst e
      rw [<- hpk,<- hpj])
     rw [hpk] at q0 q1
     rw [hpj] at q2 q3
     obtain ⟨kx,vx⟩:=pk
     obtain ⟨ky,vy⟩:=pj
     dsimp only at q0 q1 q2 q3
     clear HB hpk hpj
     by_cases hkk:kx=ky
     ·subst hkk
      have hvv:vx≠vy:=fun e=>he (by rw [e])
      have hne:(((vx:Nat):Int) != ((vy:Nat):Int))=true:=by
       rw [bne_iff_ne]
       omega
      have hne2:(((vx:Nat):Int) == ((vy:Nat):Int))=false:=by
       rw [beq_eq_false_iff_ne]
       omega
      clear he hvv
      go_wp2_with fail
      go_quiet (fail)
      go_wp2
      go_ret
      exact ⟨congrArg (fun x:Bool=>Ending.returned (Value.bool x)) HF.out.symm,below_drewn HB2.out _⟩
     ·have hne:(((kx:Nat):Int) != ((ky:Nat):Int))=true:=by
       rw [bne_iff_ne]
       omega
      have hne2:(((kx:Nat):Int) == ((ky:Nat):Int))=false:=by
       rw [beq_eq_false_iff_ne]
       omega
      clear he hkk
      go_wp2_with fail
      go_quiet (fail)
      go_wp2
      go_ret
      exact ⟨congrArg (fun x:Bool=>Ending.returned (Value.bool x)) HF.out.symm,below_drewn HB2.out _⟩
   ·have hltI:¬ (i:Int) < (n:Int):=by omega
    have HT:Hid (r=true):=Lib.hid (by
     rw [<- HR.out]
     refine decide_eq_true (List.ext_getElem HL.out (fun j h h'=>HB.out.2 j h h' ?_))
     have:=HN.out
     omega)
    go_wp2
    go_ret
    exact ⟨congrArg (fun x:Bool=>Ending.returned (Value.bool x)) HT.out.symm,HB.out.1⟩
 ·have HF:Hid (r=false):=Lib.hid (by
   rw [<- hr]
   exact decide_eq_false (fun e=>hlen (congrArg List.length e)))
  have hne:(((ks.length:Nat):Int) != ((js.length:Nat):Int))=true:=by
   rw [bne_iff_ne]
   omega
  have hne2:(((ks.length:Nat):Int) == ((js.length:Nat):Int))=false:=by
   rw [beq_eq_false_iff_ne]
   omega
  clear hr ha hb
  generalize ks.length=x at *
  generalize js.length=y at *
  go_enter Tryz.func14,Tryz.ntmps14
  go_wp2
  go_ret
  exact ⟨congrArg (fun x:Bool=>Ending.returned (Value.bool x)) HF.out.symm,Below.refl _ _⟩
end
end Go.Proofs.YtcpggonengkgiaaGreatDoor
