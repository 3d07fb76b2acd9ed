/- Words and walks: LiF LiC4. -/
import Derived.Test.YtcpggonengkgiaaGreatDoorG22
import Derived.Test.YtcpggonengkgiaaGreatDoorG23
namespace Go.Proofs.YtcpggonengkgiaaGreatDoor
open Go Go.RowKit Go.Deep
set_option maxRecDepth 8000
theorem nk_append (f:Nat) (a b:List It):nk f (a ++ b)=nk f a+nk f b:=List.countP_append
theorem tot_append (k:Nat) (a b:List It):tot k (a ++ b)=tot k a+tot k b:=by
 unfold tot keysI
 rw [List.map_append,List.count_append]
theorem setI_append (k f:Nat) (a b:List It):setI k f (a ++ b)=setI k f a ++ setI k f b:=List.map_append
theorem wi_append (k:Nat) (a b:List It):wi k (a ++ b)=wi k a ++ wi k b:=List.filter_append _ _
theorem setI_no {k f:Nat} {l:List It} (h:tot k l=0):setI k f l=l:=by
 unfold setI
 refine (List.map_congr_left (fun y hy=>?_)).trans (List.map_id l)
 rw [if_neg]
 ·rfl
 ·rintro rfl
  have h2:0 < tot y.key l:=tot_in.1 (List.mem_map_of_mem hy)
  omega
theorem last_split {f:Nat}:∀ {l:List It},0 < nk f l->∃ a x b,l=a ++ x :: b/\x.f=f/\nk f b=0/\lastK f l=x.key
 | [],h=>absurd h (Nat.lt_irrefl _)
 | x :: l,h=>by
  by_cases hp:0 < nk f l
  ·obtain ⟨a,y,b,h1,h2,h3,h4⟩:=last_split hp
   refine ⟨x :: a,y,b,by rw [h1];rfl,h2,h3,?_⟩
   rw [lastK,if_pos hp,h4]
  ·rw [nk_cons] at h
   have hx:x.f=f:=by
    by_cases e:x.f=f
    ·exact e
    ·simp only [e,if_false] at h
     omega
   exact ⟨[],x,l,rfl,hx,by omega,by rw [lastK,if_neg hp,if_pos hx]⟩
theorem pr_append_none {a b:List It} (h:nk 2 b=0):pr (a ++ b)=pr a:=by
 induction a with
 | nil=>exact pr_none h
 | cons x a ih =>
  have h1:nk 2 (x :: (a ++ b))=nk 2 (x :: a):=by rw [nk_cons,nk_cons,nk_append,h,Nat.add_zero]
  show (if 0 < nk 2 (x :: (a ++ b)) then x :: pr (a ++ b) else [])=(if 0 < nk 2 (x :: a) then x :: pr a else [])
  rw [h1,ih]
theorem pr_split (l:List It):∃ t,l=pr l ++ t/\nk 2 t=0:=by
 induction l with
 | nil=>exact ⟨[],rfl,rfl⟩
 | cons x l ih =>
  obtain ⟨t,h1,h2⟩:=ih
  by_cases hp:0 < nk 2 (x :: l)
  ·refine ⟨t,?_,h2⟩
   rw [pr,if_pos hp,List.cons_append,<- h1]
  ·exact ⟨x :: l,by rw [pr,if_neg hp];rfl,by omega⟩
def coolK:Nat->List It->List It
 | _,[]=>[]
 | r,x :: l=>if x.f=2 then (if r=0 then ⟨x.key,1⟩ else x) :: coolK (r - 1) l else x :: coolK r l
def coolO:Nat->List It->List Nat
 | _,[]=>[]
 | r,x :: l=>if x.f=2 then (if r=0 then [x.key] else []) ++ coolO (r - 1) l else coolO r l
def dropK (f:Nat):Nat->List It->List It
 | _,[]=>[]
 | m,x :: l=>if x.f=f then (if m=0 then [] else [x]) ++ dropK f (m - 1) l else x :: dropK f m l
def goneK (ks:List Nat) (l:List It):List It:=l.map (fun x=>if x.key∈ks then ⟨x.key,0⟩ else x)
theorem coolK_append:∀ (a:List It) (r:Nat) (b:List It),coolK r (a ++ b)=coolK r a ++ coolK (r - nk 2 a) b
 | [],r,b=>rfl
 | x :: a,r,b=>by
  rw [List.cons_append,coolK,coolK,coolK_append a,coolK_append a,nk_cons]
  by_cases e:x.f=2
  ·rw [if_pos e,if_pos e,if_pos e,List.cons_append,show r - 1 - nk 2 a=r - (nk 2 a+1) by omega]
  ·rw [if_neg e,if_neg e,if_neg e,List.cons_append,Nat.add_zero]
theorem coolO_append:∀ (a:List It) (r:Nat) (b:List It),coolO r (a ++ b)=coolO r a ++ coolO (r - nk 2 a) b
 | [],r,b=>rfl
 | x :: a,r,b=>by
  rw [List.cons_append,coolO,coolO,coolO_append a,coolO_append a,nk_cons]
  by_cases e:x.f=2
  ·rw [if_pos e,if_pos e,if_pos e,List.append_assoc,show r - 1 - nk 2 a=r - (nk 2 a+1) by omega]
  ·rw [if_neg e,if_neg e,if_neg e,Nat.add_zero]
theorem dropK_append (f:Nat):∀ (a:List It) (r:Nat) (b:List It),dropK f r (a ++ b)=dropK f r a ++ dropK f (r - nk f a) b
 | [],r,b=>rfl
 | x :: a,r,b=>by
  rw [List.cons_append,dropK,dropK,dropK_append f a,dropK_append f a,nk_cons]
  by_cases e:x.f=f
  ·rw [if_pos e,if_pos e,if_pos e,List.append_assoc,show r - 1 - nk f a=r - (nk f a+1) by omega]
  ·rw [if_neg e,if_neg e,if_neg e,List.cons_append,Nat.add_zero]
theorem coolK_nk2:∀ (l:List It) (r:Nat),nk 2 (coolK r l)=min r (nk 2 l)
 | [],r=>by simp [coolK,nk_nil]
 | x :: l,r=>by
  rw [coolK,nk_cons]
  by_cases e:x.f=2
  ·rw [if_pos e,if_pos e,nk_cons,coolK_nk2 l]
   by_cases hr:r=0
   ·rw [if_pos hr]
    simp
    omega
   ·rw [if_neg hr,if_pos e]
    omega
  ·rw [if_neg e,if_neg e,nk_cons,coolK_nk2 l,if_neg e]
   omega
theorem coolK_all:∀ (l:List It) (r:Nat),nk 2 l<=r->coolK r l=l/\coolO r l=[]
 | [],r,_=>⟨rfl,rfl⟩
 | x :: l,r,h=>by
  rw [nk_cons] at h
  rw [coolK,coolO]
  by_cases e:x.f=2
  ·rw [if_pos e] at h
   obtain ⟨h1,h2⟩:=coolK_all l (r - 1) (by omega)
   rw [if_pos e,if_pos e,if_neg (by omega),if_neg (by omega),h1,h2]
   exact ⟨rfl,rfl⟩
  ·rw [if_neg e] at h
   obtain ⟨h1,h2⟩:=coolK_all l r (by omega)
   rw [if_neg e,if_neg e,h1,h2]
   exact ⟨rfl,rfl⟩
theorem dropK_all (f:Nat):∀ (l:List It) (r:Nat),nk f l<=r->dropK f r l=l
 | [],r,_=>rfl
 | x :: l,r,h=>by
  rw [nk_cons] at h
  rw [dropK]
  by_cases e:x.f=f
  ·rw [if_pos e] at h
   rw [if_pos e,if_neg (by omega),dropK_all f l (r - 1) (by omega)]
   rfl
  ·rw [if_neg e] at h
   rw [if_neg e,dropK_all f l r (by omega)]
theorem coolK_len:∀ (l:List It) (r:Nat),(coolK r l).length=l.length
 | [],_=>rfl
 | x :: l,r=>by
  rw [coolK]
  by_cases e:x.f=2
  ·rw [if_pos e,List.length_cons,coolK_len l,List.length_cons]
  ·rw [if_neg e,List.length_cons,coolK_len l,List.length_cons]
theorem coolO_len:∀ (l:List It) (r:Nat),(coolO r l).length<=l.length
 | [],_=>Nat.le_refl _
 | x :: l,r=>by
  rw [coolO]
  have h1:=coolO_len l r
  have h2:=coolO_len l (r - 1)
  by_cases e:x.f=2
  ·rw [if_pos e,List.length_append,List.length_cons]
   split <;> simp <;> omega
  ·rw [if_neg e,List.length_cons]
   omega
theorem goneK_len (ks:List Nat) (l:List It):(goneK ks l).length=l.length:=List.length_map _
theorem coolK_pr (r:Nat) (a:List It):pr (coolK r (pr a))=pr (coolK r a)/\coolO r (pr a)=coolO r a:=by
 obtain ⟨t,h1,h2⟩:=pr_split a
 have e1:coolK r a=coolK r (pr a) ++ coolK (r - nk 2 (pr a)) t:=by
  have:=coolK_append (pr a) r t
  rw [<- h1] at this
  exact this
 have e2:coolO r a=coolO r (pr a) ++ coolO (r - nk 2 (pr a)) t:=by
  have:=coolO_append (pr a) r t
  rw [<- h1] at this
  exact this
 obtain ⟨e3,e4⟩:=coolK_all t (r - nk 2 (pr a)) (by omega)
 rw [e3] at e1
 rw [e4,List.append_nil] at e2
 exact ⟨by rw [e1,pr_append_none h2],e2.symm⟩
theorem goneK_pr {ks:List Nat}:∀ {l:List It},(∀ k∈ks,ct k 2 l=0)->pr (goneK ks l)=goneK ks (pr l)
 | [],_=>rfl
 | x :: l,h=>by
  have h2:∀ k∈ks,ct k 2 l=0:=fun k hk=>by have:=h k hk;rw [ct_cons] at this;omega
  have hn:∀ (l:List It),(∀ k∈ks,ct k 2 l=0)->nk 2 (goneK ks l)=nk 2 l:=by
   intro l
   induction l with
   | nil=>intro _;rfl
   | cons y l ih =>
    intro hh
    have h3:∀ k∈ks,ct k 2 l=0:=fun k hk=>by have:=hh k hk;rw [ct_cons] at this;omega
    show nk 2 ((if y.key∈ks then ⟨y.key,0⟩ else y) :: goneK ks l)=_
    rw [nk_cons,nk_cons,ih h3]
    by_cases hy:y.key∈ks
    ·rw [if_pos hy]
     have:=hh y.key hy
     rw [ct_cons] at this
     by_cases e:y.f=2
     ·rw [if_pos ⟨rfl,e⟩] at this
      omega
     ·simp [e]
    ·rw [if_neg hy]
  have e1:=hn (x :: l) h
  show pr ((if x.key∈ks then ⟨x.key,0⟩ else x) :: goneK ks l)=_
  rw [pr,pr]
  have e2:nk 2 ((if x.key∈ks then (⟨x.key,0⟩:It) else x) :: goneK ks l)=nk 2 (x :: l):=e1
  rw [e2,goneK_pr h2]
  split
  ·rfl
  ·rfl
namespace L12
def coolP (s:L12):L12:=⟨s.c,coolK (roomH s.c) s.s,s.q ++ (coolO (roomH s.c) s.s).reverse⟩
def forgetP (s:L12):L12:=⟨s.c,dropK 0 s.c s.s,s.q⟩
def evP (s:L12) (m:Nat):L12:=⟨s.c,goneK (s.q.take m) s.s,s.q.drop m⟩
def useP (s:L12) (k:Nat):Bool->L12
 | true=>((s.stack k 2).less k).coolP.prune
 | false=>((s.stack k 1).last k).prune
theorem coolN_plain:∀ (m:Nat) (s:L12) (r:Nat),s.Fine->nk 2 s.s=r+m->pr (coolN m s).s=pr (coolK r s.s)/\(coolN m s).q=s.q ++ (coolO r s.s).reverse
 | 0,s,r,_,h=>by
  obtain ⟨h1,h2⟩:=coolK_all s.s r (by omega)
  rw [h1,h2]
  exact ⟨rfl,by simp [coolN]⟩
 | m+1,s,r,hf,h=>by
  obtain ⟨h1,h2,-⟩:=hf.cool1 (by omega)
  obtain ⟨i1,i2⟩:=coolN_plain m s.cool1 r h1 (by omega)
  obtain ⟨a,x,b,e,hx,hb,hk⟩:=last_split (f:=2) (l:=s.s) (by omega)
  have ht:=hf.tot_le x.key
  rw [e,tot_append,tot_cons,if_pos rfl] at ht
  have hna:nk 2 a=r+m:=by
   have h3:=h
   rw [e,nk_append,nk_cons,if_pos hx] at h3
   omega
  have hc1:s.cool1.s=pr a:=by
   show pr (setI (lastK 2 s.s) 1 s.s)=_
   rw [hk,e,setI_append,setI_no (k:=x.key) (l:=a) (by omega)]
   refine pr_append_none ?_
   show nk 2 ((if x.key=x.key then ⟨x.key,1⟩ else x) :: setI x.key 1 b)=0
   rw [if_pos rfl,nk_cons,setI_no (k:=x.key) (l:=b) (by omega),hb]
   simp
  have hq1:s.cool1.q=s.q ++ [x.key]:=by
   show s.q ++ [lastK 2 s.s]=_
   rw [hk]
  obtain ⟨c1,c2⟩:=coolK_pr r a
  have k1:coolK r s.s=coolK r a ++ coolK 0 (x :: b):=by rw [e,coolK_append,show r - nk 2 a=0 by omega]
  have k2:coolO r s.s=coolO r a ++ [x.key]:=by
   rw [e,coolO_append,show r - nk 2 a=0 by omega,coolO,if_pos hx,if_pos rfl,(coolK_all b _ (by omega)).2]
   rfl
  have k3:nk 2 (coolK 0 (x :: b))=0:=by rw [coolK_nk2];omega
  show pr (coolN m s.cool1).s=_/\(coolN m s.cool1).q=_
  rw [i1,i2,hc1,c1,c2,k1,pr_append_none k3,k2,hq1]
  exact ⟨rfl,by simp⟩
theorem cool_plain {s:L12} (h:s.Fine):pr s.cool.s=pr s.coolP.s/\s.cool.q=s.coolP.q:=by
 show pr (coolN (nk 2 s.s - roomH s.c) s).s=pr (coolK (roomH s.c) s.s)/\(coolN (nk 2 s.s - roomH s.c) s).q=s.q ++ (coolO (roomH s.c) s.s).reverse
 by_cases hl:nk 2 s.s<=roomH s.c
 ·obtain ⟨h1,h2⟩:=coolK_all s.s (roomH s.c) hl
  rw [h1,h2,show nk 2 s.s - roomH s.c=0 by omega]
  exact ⟨rfl,by simp [coolN]⟩
 ·exact coolN_plain _ s (roomH s.c) h (by omega)
theorem coolN_cc:∀ (m:Nat) (s:L12),(coolN m s).c=s.c
 | 0,_=>rfl
 | m+1,s=>coolN_cc m s.cool1
theorem cool_cc (s:L12):s.cool.c=s.c:=coolN_cc _ _
theorem coolP_prune {s:L12} (h:s.Fine):s.coolP.prune=s.cool.prune:=by
 obtain ⟨h1,h2⟩:=cool_plain h
 unfold L12.prune
 rw [h1,h2,cool_cc]
 rfl
theorem evN_plain:∀ (m:Nat) (s:L12),m<=s.q.length->evN m s=s.evP m
 | 0,s,_=>by
  have:goneK [] s.s=s.s:=by simp [goneK]
  show s=⟨s.c,goneK (s.q.take 0) s.s,s.q.drop 0⟩
  rw [List.take_zero,List.drop_zero,this]
 | m+1,s,h=>by
  obtain ⟨c,l,q⟩:=s
  obtain ⟨k,q,rfl⟩:∃ k q',q=k :: q':=List.exists_cons_of_length_pos (by simp only at h;omega)
  show evN m ⟨c,setI k 0 l,q⟩=_
  rw [evN_plain m ⟨c,setI k 0 l,q⟩ (by simpa using h)]
  show (⟨c,goneK (q.take m) (setI k 0 l),q.drop m⟩:L12)=⟨c,goneK ((k :: q).take (m+1)) l,(k :: q).drop (m+1)⟩
  rw [List.take_succ_cons,List.drop_succ_cons]
  congr 1
  unfold goneK setI
  rw [List.map_map]
  refine List.map_congr_left (fun x _=>?_)
  simp only [Function.comp_apply,List.mem_cons]
  by_cases e:x.key=k
  ·simp [e]
  ·simp [e]
theorem fgN_plain:∀ (m:Nat) (s:L12) (r:Nat),s.Fine->nk 0 s.s=r+m->(fgN m s).s=dropK 0 r s.s/\(fgN m s).q=s.q/\(fgN m s).c=s.c
 | 0,s,r,_,h=>⟨(dropK_all 0 s.s r (by omega)).symm,rfl,rfl⟩
 | m+1,s,r,hf,h=>by
  obtain ⟨h1,_,h2,-⟩:=hf.fg1 (by omega)
  obtain ⟨i1,i2,i3⟩:=fgN_plain m s.fg1 r h1 (by omega)
  obtain ⟨a,x,b,e,hx,hb,hk⟩:=last_split (f:=0) (l:=s.s) (by omega)
  have ht:=hf.tot_le x.key
  rw [e,tot_append,tot_cons,if_pos rfl] at ht
  have hna:nk 0 a=r+m:=by
   have h3:=h
   rw [e,nk_append,nk_cons,if_pos hx] at h3
   omega
  have hw:s.fg1.s=a ++ b:=by
   show wi (lastK 0 s.s) s.s=_
   rw [hk,e,wi_append,wi_none (k:=x.key) (s:=a) (by omega)]
   congr 1
   show List.filter _ (x :: b)=_
   rw [List.filter_cons,if_neg (by simp)]
   exact wi_none (k:=x.key) (s:=b) (by omega)
  refine ⟨?_,i2,i3⟩
  show (fgN m s.fg1).s=_
  rw [i1,hw,e,dropK_append,dropK_append,show r - nk 0 a=0 by omega]
  congr 1
  rw [dropK,if_pos hx,if_pos rfl]
  rfl
theorem forget_plain {s:L12} (h:s.Fine):s.forget=s.forgetP:=by
 show fgN (nk 0 s.s - s.c) s=⟨s.c,dropK 0 s.c s.s,s.q⟩
 by_cases hl:nk 0 s.s<=s.c
 ·rw [dropK_all 0 s.s s.c hl,show nk 0 s.s - s.c=0 by omega]
  rfl
 ·obtain ⟨h1,h2,h3⟩:=fgN_plain (nk 0 s.s - s.c) s s.c h (by omega)
  generalize fgN (nk 0 s.s - s.c) s=t at h1 h2 h3 ⊢
  obtain ⟨c',s',q'⟩:=t
  simp only at h1 h2 h3
  rw [h1,h2,h3]
theorem stack_less (s:L12) (k:Nat) (h:k∉s.q):(s.stack k 2).less k=s.stack k 2:=by
 show (⟨s.c,_,wo k s.q⟩:L12)=⟨s.c,_,s.q⟩
 rw [wo_none8 h]
 rfl
theorem touch_plain {s:L12} (h:s.Ok) (k:Nat):s.touch k=if k∈s.keys then s.useP k (decide (0 < tot k s.s)) else s:=by
 have hf:=h.fine
 have h0:=hf.at_ k
 have ht:=tot_ct (a:=k) hf.kinds
 unfold okA at h0
 unfold L12.touch
 by_cases c2:0 < ct k 2 s.s
 ·have hq:k∉s.q:=fun hq=>by have:=q_in.1 hq;omega
  have hb:k < 18446744073709551616:=h0.2.2.2 (by omega)
  rw [if_pos c2,if_pos (keys_in.2 (by omega)),decide_eq_true (by omega)]
  show _=((s.stack k 2).less k).coolP.prune
  rw [coolP_prune (hf.warm hb),stack_less s k hq]
  have hn:nk 2 (s.stack k 2).s<=roomH s.c:=by
   have e2:=nk_stack k 2 2 s.s
   rw [if_pos rfl] at e2
   have:=h.hot
   show nk 2 (⟨k,2⟩ :: wi k s.s)<=_
   omega
  have hc:(s.stack k 2).cool=s.stack k 2:=by
   show coolN (nk 2 (s.stack k 2).s - roomH s.c) _=_
   rw [show nk 2 (s.stack k 2).s - roomH s.c=0 by omega]
   rfl
  rw [hc]
 ·rw [if_neg c2]
  by_cases hq:k∈s.q
  ·have hqc:=q_in.1 hq
   have hb:k < 18446744073709551616:=h0.2.2.2 (by omega)
   rw [if_neg (fun h=>h hq),if_pos (keys_in.2 (by omega))]
   by_cases t0:tot k s.s=0
   ·rw [if_pos t0,decide_eq_false (by omega)]
    rfl
   ·rw [if_neg t0,decide_eq_true (by omega)]
    show _=((s.stack k 2).less k).coolP.prune
    rw [coolP_prune (hf.warm hb)]
  ·rw [if_pos hq,if_neg]
   intro hk
   have h1:=keys_in.1 hk
   have:=List.count_eq_zero_of_not_mem hq
   omega
theorem adm_plain {s:L12} (h:s.Ok) {k:Nat} (hk:k < 18446744073709551616) (hn:k∉s.keys):s.adm k=((s.evP (s.many (s.c - 1))).useP k (decide (0 < tot k (s.evP (s.many (s.c - 1))).s) || decide (nk 2 (s.evP (s.many (s.c - 1))).s < roomH s.c))).forgetP/\s.admitOut k=s.q.take (s.many (s.c - 1))/\(s.evP (s.many (s.c - 1))).Fine/\s.many (s.c - 1)<=s.q.length:=by
 have hp:=h.pos
 have hh:=h.hot
 have hr:=roomH_lt hp
 have hm:s.many (s.c - 1)<=s.q.length:=by unfold L12.many;omega
 obtain ⟨g1,g2,g3,g4,g5,g6,g7,g8,g9⟩:=h.fine.shrink (n:=s.c - 1) (by omega)
 have e0:s.shrink (s.c - 1)=s.evP (s.many (s.c - 1)):=evN_plain _ _ hm
 rw [e0] at g1 g8 g9
 unfold L12.adm L12.admitOut
 rw [if_neg hn,if_neg hn,e0]
 obtain ⟨σ,hσ⟩:∃ σ,s.evP (s.many (s.c - 1))=σ:=⟨_,rfl⟩
 have hcσ:σ.c=s.c:=by rw [<- hσ];rfl
 rw [hσ] at g1 g8 g9 ⊢
 have hq:k∉σ.q:=fun hm=>hn (keys_in.2 (by have:=q_in.1 (g9 k hm);omega))
 refine ⟨?_,rfl,g1,hm⟩
 unfold L12.came
 rw [hcσ]
 by_cases hb:nk 2 σ.s < roomH s.c∨0 < tot k σ.s
 ·have he:(decide (0 < tot k σ.s) || decide (nk 2 σ.s < roomH s.c))=true:=by
   rcases hb with hb | hb <;> simp [hb]
  rw [if_pos hb,he]
  show _=((σ.stack k 2).less k).coolP.prune.forgetP
  have hw:=g1.warm (k:=k) hk
  rw [coolP_prune hw,stack_less σ k hq]
  rw [stack_less σ k hq] at hw
  exact forget_plain hw.cool.1.prune
 ·have he:(decide (0 < tot k σ.s) || decide (nk 2 σ.s < roomH s.c))=false:=by
   rw [Bool.or_eq_false_iff,decide_eq_false_iff_not,decide_eq_false_iff_not]
   exact ⟨fun h=>hb (.inr h),fun h=>hb (.inl h)⟩
  rw [if_neg hb,he]
  exact forget_plain (g1.came1 hk).prune
theorem resize_plain {s:L12} (h:s.Ok) (n:Int):s.resize n=(((s.sized (capI n)).coolP.evP ((s.sized (capI n)).coolP.many (capI n))).prune).forgetP/\s.resizeOut n=(s.sized (capI n)).coolP.q.take ((s.sized (capI n)).coolP.many (capI n))/\(s.sized (capI n)).coolP.many (capI n)<=(s.sized (capI n)).coolP.q.length:=by
 have hf:(s.sized (capI n)).Fine:=⟨h.fine.kinds,h.fine.at_⟩
 have hp:=(capI_pos n).1
 have hr:=roomH_lt hp
 obtain ⟨c1,c3,c4,c5,c6,c7⟩:=hf.cool
 obtain ⟨p1,p2⟩:=cool_plain hf
 have x3:(s.sized (capI n)).c=capI n:=rfl
 rw [x3] at c3 c5
 obtain ⟨σ,hσ⟩:∃ σ,(s.sized (capI n)).cool=σ:=⟨_,rfl⟩
 obtain ⟨π,hπ⟩:∃ π,(s.sized (capI n)).coolP=π:=⟨_,rfl⟩
 have hcπ:π.c=capI n:=by rw [<- hπ];rfl
 unfold L12.resize L12.resizeOut
 rw [hσ] at c1 c3 c5 p1 p2 ⊢
 rw [hπ] at p1 p2 ⊢
 have hnk:nk 2 π.s=nk 2 σ.s:=by rw [<- pr_nk2,<- p1,pr_nk2]
 have hmn:π.many (capI n)=σ.many (capI n):=by unfold L12.many;rw [hnk,p2]
 have hm:σ.many (capI n)<=σ.q.length:=by unfold L12.many;omega
 obtain ⟨g1,-⟩:=c1.shrink (n:=capI n) (by omega)
 have e0:σ.shrink (capI n)=σ.evP (σ.many (capI n)):=evN_plain _ _ hm
 rw [e0] at g1 ⊢
 have hno:∀ k∈σ.q.take (σ.many (capI n)),ct k 2 σ.s=0:=fun k hk=>by
  have h1:=c1.at_ k
  have h2:=q_in.1 (List.mem_of_mem_take hk)
  unfold okA at h1
  omega
 have hno2:∀ k∈σ.q.take (σ.many (capI n)),ct k 2 π.s=0:=fun k hk=>by
  rw [<- pr_ct2,<- p1,pr_ct2]
  exact hno k hk
 have hpp:(σ.evP (σ.many (capI n))).prune=(π.evP (π.many (capI n))).prune:=by
  show (⟨σ.c,pr (goneK (σ.q.take (σ.many (capI n))) σ.s),σ.q.drop (σ.many (capI n))⟩:L12)=⟨π.c,pr (goneK (π.q.take (π.many (capI n))) π.s),π.q.drop (π.many (capI n))⟩
  rw [hmn,<- p2,goneK_pr hno,goneK_pr hno2,p1,c5,hcπ]
 refine ⟨?_,?_,by rw [hmn,<- p2];exact hm⟩
 ·rw [forget_plain g1.prune,hpp]
 ·unfold L12.shrinkOut
  rw [hmn,<- p2]
end L12
set_option maxRecDepth 8000
def gW (k:Nat) (xs:List It) (i:Nat):It × Bool:=(xs.getD i ⟨0,0⟩, !decide ((xs.getD i ⟨0,0⟩).key=k))
def gG (ks:List Nat) (xs:List It) (i:Nat):It × Bool:=(if (xs.getD i ⟨0,0⟩).key∈ks then ⟨(xs.getD i ⟨0,0⟩).key,0⟩ else xs.getD i ⟨0,0⟩,true)
def gF (c:Nat) (xs:List It) (i:Nat):It × Bool:=(xs.getD i ⟨0,0⟩, !(decide ((xs.getD i ⟨0,0⟩).f=0) && decide (c < nk 0 (xs.take (i+1)))))
def gC (r:Nat) (xs:List It) (i:Nat):It × Bool:=(if (xs.getD i ⟨0,0⟩).f=2/\r < nk 2 (xs.take (i+1)) then ⟨(xs.getD i ⟨0,0⟩).key,1⟩ else xs.getD i ⟨0,0⟩,true)
section
variable {xs:List It} {i k:Nat}
theorem getD_at (hi:i < xs.length):xs.getD i ⟨0,0⟩=xs[i]:=by rw [List.getD_eq_getElem?_getD,List.getElem?_eq_getElem hi];rfl
theorem res_W:∀ i,i<=xs.length->res (gW k xs) i=wi k (xs.take i)
 | 0,_=>by simp [res,wi]
 | i+1,h=>by
  have hi:i < xs.length:=h
  rw [res,res_W i (by omega),List.take_succ_eq_append_getElem hi,wi_append]
  congr 1
  unfold gW
  rw [getD_at hi]
  unfold wi
  by_cases e:xs[i].key=k <;> simp [e]
theorem res_G {ks:List Nat}:∀ i,i<=xs.length->res (gG ks xs) i=goneK ks (xs.take i)
 | 0,_=>by simp [res,goneK]
 | i+1,h=>by
  have hi:i < xs.length:=h
  rw [res,res_G i (by omega),List.take_succ_eq_append_getElem hi]
  unfold goneK
  rw [List.map_append]
  congr 1
  unfold gG
  rw [getD_at hi]
  simp
theorem nk_take (f:Nat) (hi:i < xs.length):nk f (xs.take (i+1))=nk f (xs.take i)+if xs[i].f=f then 1 else 0:=by
 rw [List.take_succ_eq_append_getElem hi,nk_snoc]
theorem res_F {c:Nat}:∀ i,i<=xs.length->res (gF c xs) i=dropK 0 c (xs.take i)
 | 0,_=>by simp [res,dropK]
 | i+1,h=>by
  have hi:i < xs.length:=h
  have hn:=nk_take 0 hi
  rw [res,res_F i (by omega)]
  unfold gF
  rw [getD_at hi,hn,List.take_succ_eq_append_getElem hi,dropK_append]
  congr 1
  rw [dropK]
  by_cases e:xs[i].f=0
  ·rw [if_pos e,if_pos e]
   by_cases hc:c < nk 0 (xs.take i)+1
   ·simp [e,hc,dropK,show c - nk 0 (xs.take i)=0 by omega]
   ·simp [e,hc,dropK,show ¬ c - nk 0 (xs.take i)=0 by omega]
  ·rw [if_neg e]
   simp [e,dropK]
theorem res_C {r:Nat}:∀ i,i<=xs.length->res (gC r xs) i=coolK r (xs.take i)
 | 0,_=>by simp [res,coolK]
 | i+1,h=>by
  have hi:i < xs.length:=h
  have hn:=nk_take 2 hi
  rw [res,res_C i (by omega)]
  unfold gC
  rw [getD_at hi,hn,List.take_succ_eq_append_getElem hi,coolK_append]
  congr 1
  rw [coolK]
  by_cases e:xs[i].f=2
  ·rw [if_pos e,if_pos e]
   by_cases hc:r < nk 2 (xs.take i)+1
   ·simp [e,hc,coolK,show r - nk 2 (xs.take i)=0 by omega]
   ·simp [e,hc,coolK,show ¬ r - nk 2 (xs.take i)=0 by omega]
  ·rw [if_neg e]
   simp [e,coolK]
theorem coolO_next {r:Nat} (hi:i < xs.length):coolO r (xs.take (i+1))=coolO r (xs.take i) ++ (if xs[i].f=2/\r < nk 2 (xs.take i)+1 then [xs[i].key] else []):=by
 rw [List.take_succ_eq_append_getElem hi,coolO_append]
 congr 1
 rw [coolO]
 by_cases e:xs[i].f=2
 ·rw [if_pos e]
  by_cases hc:r < nk 2 (xs.take i)+1
  ·simp [e,hc,coolO,show r - nk 2 (xs.take i)=0 by omega]
  ·simp [e,hc,coolO,show ¬ r - nk 2 (xs.take i)=0 by omega]
 ·rw [if_neg e]
  simp [e,coolO]
end
section
variable {w:World} {u:Value} {xs:List It}
theorem chg_without (h:IV w u xs) (hl:xs.length<=10000000) {kb k:Nat} (hk:w.cell? ⟨kb,0,none⟩=some (.int .u64 (k:Nat))) (hkb:kb < w.heap.size):Calls Tryz.prog 276 #[u,.func (.func 280) #[] #[.pointer (some ⟨kb,0,none⟩)]] w (RetP w (wi k xs)):=by
 refine (changed_walk (g:=gW k xs) (Inv:=fun _ W=>Below w.heap.size w W) ⟨fun _ _ h=>h.size,fun _ _ hb=>h.below hb,fun _ _ _ h1 h2 _=>h1.trans h2,fun _ _=>rfl,fun i hi W hb=>?_⟩ hl (Below.refl _ _)).mono ?_
 ·refine (other12_walk ((hb.cell (p:=⟨kb,0,none⟩) hkb).trans hk) (Nat.lt_of_lt_of_le hkb hb.size) xs[i]).mono ?_
  rintro e w' ⟨rfl,hb2⟩
  refine ⟨?_,hb.trans (hb2.mono hb.size),KeepT.of_below hb2⟩
  unfold gW
  rw [getD_at hi]
 ·rintro e w' ⟨v,rfl,ho,hb⟩
  rw [res_W _ (Nat.le_refl _),List.take_length] at ho
  exact ⟨v,rfl,hb,ho⟩
theorem chg_gone (h:IV w u xs) (hl:xs.length<=10000000) (hkb:∀ x∈xs,x.key < 18446744073709551616) {mp mb:Nat} {L:List Nat} (hm:w.cell? ⟨mp,0,none⟩=some (.map (some mb))) (hmp:mp < w.heap.size) (hL:MapHas w mb L):Calls Tryz.prog 276 #[u,.func (.func 277) #[] #[.pointer (some ⟨mp,0,none⟩)]] w (RetP w (goneK L xs)):=by
 have hmb:=hL.lt
 refine (changed_walk (g:=gG L xs) (Inv:=fun _ W=>Below w.heap.size w W) ⟨fun _ _ h=>h.size,fun _ _ hb=>h.below hb,fun _ _ _ h1 h2 _=>h1.trans h2,fun _ _=>rfl,fun i hi W hb=>?_⟩ hl (Below.refl _ _)).mono ?_
 ·refine (evict1_walk ((hb.cell (p:=⟨mp,0,none⟩) hmp).trans hm) (Nat.lt_of_lt_of_le hmp hb.size) (hL.keep (hb.block mb hmb)) xs[i] (hkb _ (List.getElem_mem hi))).mono ?_
  rintro e w' ⟨rfl,hb2⟩
  refine ⟨?_,hb.trans (hb2.mono hb.size),KeepT.of_below hb2⟩
  unfold gG
  rw [getD_at hi]
 ·rintro e w' ⟨v,rfl,ho,hb⟩
  rw [res_G _ (Nat.le_refl _),List.take_length] at ho
  exact ⟨v,rfl,hb,ho⟩
theorem Bh.only {w w':World} {n kind seen seen' most:Nat} {fv:Value} (h:Bh w n kind seen most fv) (ho:Only [n+1+1+1] w w') (hs:w'.heap[n+1+1+1]? = some (.cells #[.int .i64 (seen':Nat)] 3 (0,0))):Bh w' n kind seen' most fv :=
 ⟨(ho.block _ (head_row h.k).lt (by simp;omega)).trans h.k,(ho.block _ (head_row h.m).lt (by simp)).trans h.m,(ho.block _ (head_row h.f).lt (by simp)).trans h.f,hs⟩
theorem Bh.bx {n kind seen most:Nat} {fv:Value} (h:Bh w n kind seen most fv):∀ g∈[n+1+1+1],Bx w g:=fun g hg=>by
 rw [List.mem_singleton] at hg
 subst hg
 exact ⟨_,_,h.s,rfl,by decide⟩
theorem only_then {S:List Nat} {w W W':World} (h:Only S w W) (hb:Below w.heap.size W W'):Only S w W' :=
 ⟨hb.os.trans h.os,hb.tape.trans h.tape,hb.output.trans h.output,Nat.le_trans h.size hb.size,fun k hk hS=>(hb.block k hk).trans (h.block k hk hS)⟩
theorem Bh.stay {w W W':World} {n kind seen most:Nat} {fv:Value} (h:Bh W n kind seen most fv) (hn:n+1+1+1 < w.heap.size) (hb:Below w.heap.size W W'):Bh W' n kind seen most fv :=
 ⟨(hb.block _ (by omega)).trans h.k,(hb.block _ (by omega)).trans h.m,(hb.block _ (by omega)).trans h.f,(hb.block _ (by omega)).trans h.s⟩
theorem KeepT.of_only {W W':World} {n:Nat} {cs:Array Value} (ho:Only [n] W W') (hn:W.heap[n]? = some (.cells cs 3 (0,0))):KeepT PTI12 W W':=⟨ho.size,fun g cs' hg=>(ho.block g (Array.getElem?_eq_some_iff.1 hg).1 (fun hm=>by
 rw [List.mem_singleton] at hm
 subst hm
 rw [hn] at hg
 injection hg with hg
 injection hg with _ hg
 exact absurd hg (by decide))).trans hg⟩
theorem chg_forget (h:IV w u xs) (hl:xs.length<=10000000) {n c:Nat} (hc:c<=100000000) (hB:Bh w n 0 0 c (.func (.func 279) #[] #[])):Calls Tryz.prog 276 #[u,.func (.func 301) #[] (capsB n)] w fun e w'=>∃ v,e = .returned v/\Only [n+1+1+1] w w'/\w'.ownsRow w.heap.size PTI12 2 v (dropK 0 c xs).length (itL (dropK 0 c xs)):=by
 have hn:=(head_row hB.s).lt
 refine (changed_walk (g:=gF c xs) (Inv:=fun i W=>Only [n+1+1+1] w W/\Bh W n 0 (nk 0 (xs.take i)) c (.func (.func 279) #[] #[])) ⟨fun _ _ h=>h.1.size,fun _ _ hb=>h.only hb.1 hB.bx,fun i W W' h1 h2 _=>⟨only_then h1.1 h2,h1.2.stay hn h2⟩,fun _ _=>rfl,fun i hi W hb=>?_⟩ hl ⟨Only.refl _ _,hB⟩).mono ?_
 ·have hnx:=nk_take 0 hi
  have hle:nk 0 (xs.take i)<=100000000:=by
   have h1:nk 0 (xs.take i)<=(xs.take i).length:=List.countP_le_length
   rw [List.length_take] at h1
   omega
  by_cases e:xs[i].f=0
  ·rw [if_pos e] at hnx
   by_cases hs:nk 0 (xs.take i)+1<=c
   ·refine (behind1_few hb.2 xs[i] e hs hc).mono ?_
    rintro e' w' ⟨rfl,ho,hs2⟩
    refine ⟨?_,⟨hb.1.trans ho (by simp),hb.2.only ho (by rw [hnx];exact hs2)⟩,KeepT.of_only ho hb.2.s⟩
    unfold gF
    rw [getD_at hi,hnx]
    simp [show ¬ c < nk 0 (xs.take i)+1 by omega]
   ·refine (behind1_more (y:=xs[i]) (b:=false) (R:=fun W'=>Only [n+1+1+1] w W'/\Bh W' n 0 (nk 0 (xs.take (i+1))) c (.func (.func 279) #[] #[])) hb.2 xs[i] e (by omega) hle (fun _ _=>rfl) (fun W1 ho hs2=>?_) (fun W1 W2 h1 h2 _=>⟨only_then h1.1 (h2.mono hb.1.size),h1.2.stay (w:=w) hn (h2.mono hb.1.size)⟩)).mono ?_
    ·refine (forget1_walk xs[i]).mono ?_
     rintro e' w' ⟨rfl,hb2⟩
     have hB1:Bh W1 n 0 (nk 0 (xs.take (i+1))) c (.func (.func 279) #[] #[]):=hb.2.only ho (by rw [hnx];exact hs2)
     exact ⟨rfl,⟨(hb.1.trans ho (by simp)).trans (Only.of_below (S:=[]) hb2) (by simp),hB1.below hb2⟩,KeepT.of_below hb2⟩
    ·rintro e' w' ⟨rfl,hR,hK⟩
     refine ⟨?_,hR,hK⟩
     unfold gF
     rw [getD_at hi,hnx]
     simp [e,show c < nk 0 (xs.take i)+1 by omega]
  ·rw [if_neg e,Nat.add_zero] at hnx
   refine (behind1_other hb.2 xs[i] e).mono ?_
   rintro e' w' ⟨rfl,hb2⟩
   refine ⟨?_,⟨hb.1.trans (Only.of_below (S:=[]) hb2) (by simp),by rw [hnx];exact hb.2.below hb2⟩,KeepT.of_below hb2⟩
   unfold gF
   rw [getD_at hi]
   simp [e]
 ·rintro e w' ⟨v,rfl,ho,hb⟩
  rw [res_F _ (Nat.le_refl _),List.take_length] at ho
  exact ⟨v,rfl,hb.1,ho⟩
theorem CB.stay {w W W':World} {B gc:Nat} {cs:List Nat} (h:CB W B gc cs) (hg:gc < w.heap.size) (hb:Below w.heap.size W W') (hk:Kt PTI12 W W'):CB W' B gc cs:=by
 obtain ⟨v,h1,h2⟩:=h.row
 refine ⟨h.ge,v,(hb.block _ hg).trans h1,h2.1,h2.2.imp id ?_⟩
 rintro ⟨g,cap,cur,e1,e2,e3,e4⟩
 exact ⟨g,cap,cur,e1,e2,hk _ _ _ _ e3 (by decide),e4⟩
theorem CB.below {W W':World} {B gc:Nat} {cs:List Nat} (h:CB W B gc cs) (hb:Below W.heap.size W W'):CB W' B gc cs:=by
 obtain ⟨v,h1,h2⟩:=h.row
 exact ⟨h.ge,v,(hb.block _ (Array.getElem?_eq_some_iff.1 h1).1).trans h1,own_below h2 hb⟩
theorem CB.only {W W':World} {B gc n:Nat} {cs:List Nat} {c0:Array Value} (h:CB W B gc cs) (ho:Only [n] W W') (hn:W.heap[n]? = some (.cells c0 3 (0,0))):CB W' B gc cs:=by
 obtain ⟨v,h1,h2⟩:=h.row
 refine ⟨h.ge,v,(ho.block _ (Array.getElem?_eq_some_iff.1 h1).1 (fun hm=>?_)).trans h1,own_other h2 ho (fun g hg cs' he=>?_)⟩
 ·rw [List.mem_singleton] at hm
  subst hm
  rw [hn] at h1
  injection h1 with h1
  injection h1 with _ h1
  exact absurd h1 (by decide)
 ·rw [List.mem_singleton] at hg
  subst hg
  rw [hn] at he
  injection he with he
  injection he with _ he
  exact absurd he (by decide)
theorem CB.ne {W:World} {B gc g:Nat} {cs:List Nat} {c0:Array Value} {t:TypeId} (h:CB W B gc cs) (hg:W.heap[g]? = some (.cells c0 t (0,0))) (ht:t≠KT):g≠gc:=fun e=>by
 obtain ⟨v,h1,_⟩:=h.row
 rw [e,h1] at hg
 injection hg with hg
 injection hg with _ hg
 exact ht hg.symm
theorem Bh.keepB {W W':World} {n kind seen most gc B:Nat} {cs:List Nat} {fv:Value} (h:Bh W n kind seen most fv) (hc:CB W B gc cs) (hk:KeepB gc W W'):Bh W' n kind seen most fv :=
 ⟨hk _ _ _ h.k (by decide) (hc.ne h.k (by decide)),hk _ _ _ h.m (by decide) (hc.ne h.m (by decide)),hk _ _ _ h.f (by decide) (hc.ne h.f (by decide)),hk _ _ _ h.s (by decide) (hc.ne h.s (by decide))⟩
theorem chg_cool {B n r gc:Nat} (hsrc:∀ W,Below B w W->IV W u xs) (hl:xs.length<=10000000) (hr:r<=100000000) (hBw:B<=w.heap.size) (hBn:B<=n) (hB:Bh w n 2 0 r (.func (.func 281) #[] #[.pointer (some ⟨gc,0,none⟩)])) (hC:CB w B gc []):Calls Tryz.prog 276 #[u,.func (.func 301) #[] (capsB n)] w fun e w'=>∃ v,e = .returned v/\Below B w w'/\CB w' B gc (coolO r xs)/\w'.ownsRow w.heap.size PTI12 2 v (coolK r xs).length (itL (coolK r xs)):=by
 have hn:=(head_row hB.s).lt
 have hg:gc < w.heap.size:=by
  obtain ⟨v,h1,_⟩:=hC.row
  exact (Array.getElem?_eq_some_iff.1 h1).1
 refine (changed_walk (g:=gC r xs) (Inv:=fun i W=>Below B w W/\w.heap.size<=W.heap.size/\Bh W n 2 (nk 2 (xs.take i)) r (.func (.func 281) #[] #[.pointer (some ⟨gc,0,none⟩)])/\CB W B gc (coolO r (xs.take i))) ⟨fun _ _ h=>h.2.1,fun _ _ hb=>hsrc _ hb.1,fun i W W' h1 h2 h3=>⟨h1.1.trans (h2.mono hBw),Nat.le_trans h1.2.1 h2.size,h1.2.2.1.stay hn h2,h1.2.2.2.stay hg h2 h3⟩,fun _ _=>rfl,fun i hi W hb=>?_⟩ hl ⟨Below.refl _ _,Nat.le_refl _,hB,hC⟩).mono ?_
 ·obtain ⟨hb1,hb2,hb3,hb4⟩:=hb
  have hnx:=nk_take 2 hi
  have hcx:=coolO_next (r:=r) hi
  have hle:nk 2 (xs.take i)<=10000000:=by
   have h1:nk 2 (xs.take i)<=(xs.take i).length:=List.countP_le_length
   rw [List.length_take] at h1
   omega
  have hlo:(coolO r (xs.take i)).length<=10000000:=by
   have h1:=coolO_len (xs.take i) r
   rw [List.length_take] at h1
   omega
  by_cases e:xs[i].f=2
  ·rw [if_pos e] at hnx
   by_cases hs:nk 2 (xs.take i)+1<=r
   ·rw [if_neg (by omega),List.append_nil] at hcx
    refine (behind1_few hb3 xs[i] e hs hr).mono ?_
    rintro e' w' ⟨rfl,ho,hs2⟩
    refine ⟨?_,⟨hb1.trans (ho.below (by simp;omega) (by omega)),Nat.le_trans hb2 ho.size,hb3.only ho (by rw [hnx];exact hs2),by rw [hcx];exact hb4.only ho hb3.s⟩,KeepT.of_only ho hb3.s⟩
    unfold gC
    rw [getD_at hi,hnx,if_neg (by omega)]
   ·rw [if_pos ⟨e,by omega⟩] at hcx
    refine (behind1_more (y:=⟨xs[i].key,1⟩) (b:=true) (R:=fun W'=>Below B w W'/\w.heap.size<=W'.heap.size/\Bh W' n 2 (nk 2 (xs.take (i+1))) r (.func (.func 281) #[] #[.pointer (some ⟨gc,0,none⟩)])/\CB W' B gc (coolO r (xs.take (i+1)))) hb3 xs[i] e (by omega) (by omega) (fun _ _=>rfl) (fun W1 ho hs2=>?_) (fun W1 W2 h1 h2 h3=>⟨h1.1.trans (h2.mono (by omega)),Nat.le_trans h1.2.1 h2.size,h1.2.2.1.stay (w:=w) hn (h2.mono hb2),h1.2.2.2.stay (w:=w) hg (h2.mono hb2) h3⟩)).mono ?_
    ·have hB1:Bh W1 n 2 (nk 2 (xs.take (i+1))) r (.func (.func 281) #[] #[.pointer (some ⟨gc,0,none⟩)]):=hb3.only ho (by rw [hnx];exact hs2)
     have hC1:=hb4.only ho hb3.s
     have hsz:=ho.size
     refine (cool1_walk hC1 (by omega) hlo xs[i]).mono ?_
     rintro e' w' ⟨rfl,hc2,hbz,hkz⟩
     refine ⟨rfl,⟨(hb1.trans (ho.below (by simp;omega) (by omega))).trans hbz,by have:=hbz.size;omega,hB1.keepB hC1 hkz,by rw [hcx];exact hc2⟩,⟨hbz.size,fun g cs hg2=>hkz _ _ _ hg2 (by decide) (hC1.ne hg2 (by decide))⟩⟩
    ·rintro e' w' ⟨rfl,hR,hK⟩
     refine ⟨?_,hR,hK⟩
     unfold gC
     rw [getD_at hi,hnx,if_pos ⟨e,by omega⟩]
  ·rw [if_neg e,Nat.add_zero] at hnx
   rw [if_neg (fun h=>e h.1),List.append_nil] at hcx
   refine (behind1_other hb3 xs[i] e).mono ?_
   rintro e' w' ⟨rfl,hbz⟩
   refine ⟨?_,⟨hb1.trans (hbz.mono (by omega)),Nat.le_trans hb2 hbz.size,by rw [hnx];exact hb3.below hbz,by rw [hcx];exact hb4.below hbz⟩,KeepT.of_below hbz⟩
   unfold gC
   rw [getD_at hi,if_neg (fun h=>e h.1)]
 ·rintro e w' ⟨v,rfl,ho,hb1,hb2,hb3,hb4⟩
  rw [res_C _ (Nat.le_refl _),List.take_length] at ho
  rw [List.take_length] at hb4
  exact ⟨v,rfl,hb1,hb4,ho⟩
end
end Go.Proofs.YtcpggonengkgiaaGreatDoor
