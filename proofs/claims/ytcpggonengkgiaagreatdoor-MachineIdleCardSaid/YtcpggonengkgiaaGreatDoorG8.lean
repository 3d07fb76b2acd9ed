/- Words and walks: S3P S3B S3O S3V S3R S3S. -/
import Derived.Test.YtcpggonengkgiaaGreatDoorG2
import Derived.Test.YtcpggonengkgiaaGreatDoorG3
import Derived.Test.YtcpggonengkgiaaGreatDoorG4
import Derived.IntWalk
import Derived.Deep.LoopGhost
namespace Go.Proofs.YtcpggonengkgiaaGreatDoor
open Go Go.RowKit Go.Deep
def tgt (c:Nat):Nat:=if c < 10 then 1 else c / 10
def room (c:Nat):Nat:=c - tgt c
theorem room_le (c:Nat):room c<=c:=Nat.sub_le _ _
def fm (l:List It):List It × Nat :=
 match h:l.getLast? with
 | none=>([],0)
 | some t=>if t.f=0 then (l.dropLast,t.key) else fm (⟨t.key,t.f - 1⟩ :: l.dropLast)
termination_by (l.map It.f).sum
decreasing_by
 obtain ⟨ys,rfl⟩:=List.getLast?_eq_some_iff.1 h
 simp
 omega
theorem fm_snoc (l:List It) (t:It):fm (l ++ [t])=if t.f=0 then (l,t.key) else fm (⟨t.key,t.f - 1⟩ :: l):=by
 rw [fm]
 split
 ·rename_i h
  simp at h
 ·rename_i t' h
  rw [List.getLast?_concat] at h
  injection h with h
  subst h
  rw [List.dropLast_concat]
theorem snoc_of {α:Type} {l:List α} (h:l≠[]):∃ l' t,l=l' ++ [t]:=⟨l.dropLast,l.getLast h,(List.dropLast_concat_getLast h).symm⟩
theorem fm_rec {P:List It->List It × Nat->Prop} (h0:∀ l t,t.f=0->P (l ++ [t]) (l,t.key)) (h1:∀ l t r,t.f≠0->P (⟨t.key,t.f - 1⟩ :: l) r->P (l ++ [t]) r) :
  ∀ (n:Nat) (l:List It),(l.map It.f).sum<=n->l≠[]->P l (fm l)
 | n,l,hn,hl=>by
  obtain ⟨l',t,rfl⟩:=snoc_of hl
  rw [fm_snoc]
  split
  ·rename_i h
   exact h0 l' t h
  ·rename_i h
   have hs:((l' ++ [t]).map It.f).sum=(l'.map It.f).sum+t.f:=by simp
   cases n with
   | zero=>omega
   | succ n =>
    refine h1 l' t _ h (fm_rec h0 h1 n _ ?_ (by simp))
    simp
    omega
theorem keysI_append (a b:List It):keysI (a ++ b)=keysI a ++ keysI b:=by simp [keysI]
theorem keysI_len (a:List It):(keysI a).length=a.length:=by simp [keysI]
theorem fm_spec (l:List It) (hl:l≠[]):((fm l).2 :: keysI (fm l).1).Perm (keysI l)/\(∀ B,(∀ x∈l,x.f<=B)->∀ x∈(fm l).1,x.f<=B):=by
 refine fm_rec (P:=fun l r=>(r.2 :: keysI r.1).Perm (keysI l)/\(∀ B,(∀ x∈l,x.f<=B)->∀ x∈r.1,x.f<=B)) (fun l t _=>⟨?_,fun B h x hx=>h x (List.mem_append_left _ hx)⟩) (fun l t r hf h=>⟨h.1.trans ?_,fun B hb=>h.2 B (fun x hx=>?_)⟩) _ l (Nat.le_refl _) hl
 ·rw [keysI_append]
  exact (List.perm_append_singleton _ _).symm
 ·rw [keysI_append]
  exact (List.perm_append_singleton _ _).symm
 ·rcases List.mem_cons.1 hx with rfl | hx
  ·have:=hb t (by simp)
   show t.f - 1<=B
   omega
  ·exact hb x (List.mem_append_left _ hx)
def fsR:List It->List It->List It × List It × Nat × Bool
 | [],m=>([],(fm m).1,(fm m).2,false)
 | t :: r,m=>if 1 < t.f then fsR r (⟨t.key,0⟩ :: m) else (r,m,t.key,true)
theorem fsR_spec:∀ (r m:List It),(r≠[]∨m≠[])->((fsR r m).2.2.1 :: (keysI (fsR r m).1 ++ keysI (fsR r m).2.1)).Perm (keysI r ++ keysI m)/\(∀ B,(∀ x∈r ++ m,x.f<=B)->∀ x∈(fsR r m).1 ++ (fsR r m).2.1,x.f<=B)
 | [],m,h=>by
  have:=fm_spec m (by simpa using h)
  exact ⟨by simpa [fsR,keysI] using this.1,by simpa [fsR] using this.2⟩
 | t :: r,m,_=>by
  unfold fsR
  split
  ·obtain ⟨h1,h2⟩:=fsR_spec r (⟨t.key,0⟩ :: m) (.inr (by simp))
   refine ⟨h1.trans ?_,fun B hb=>h2 B (fun x hx=>?_)⟩
   ·exact List.perm_middle
   ·rcases List.mem_append.1 hx with hx | hx
    ·exact hb x (by simp [hx])
    ·rcases List.mem_cons.1 hx with rfl | hx
     ·exact Nat.zero_le _
     ·exact hb x (by simp [hx])
  ·exact ⟨List.Perm.refl _,fun B hb x hx=>hb x (by simp only [List.mem_append,List.mem_cons] at hx ⊢;rcases hx with h | h;exact .inl (.inr h);exact .inr h)⟩
structure L10 where
 c:Nat
 small:List It
 main:List It
 ghost:List Nat
def usI (k:Nat) (l:List It):List It:=l.map (fun t=>if t.key=k/\t.f < 3 then ⟨t.key,t.f+1⟩ else t)
def woI (k:Nat) (l:List It):List It:=l.filter (fun t=>t.key != k)
theorem usI_len (k:Nat) (l:List It):(usI k l).length=l.length:=by simp [usI]
theorem usI_keys (k:Nat) (l:List It):keysI (usI k l)=keysI l:=by
 unfold keysI usI
 rw [List.map_map]
 refine List.map_congr_left (fun t _=>?_)
 show It.key (if _ then _ else t)=_
 split <;> rfl
theorem usI_f (k:Nat) {l:List It} (h:∀ x∈l,x.f<=3):∀ x∈usI k l,x.f<=3:=fun x hx=>by
 obtain ⟨t,ht,rfl⟩:=List.mem_map.1 hx
 have:=h t ht
 show It.f (if _ then _ else t)<=3
 split
 ·rename_i hc
  show t.f+1<=3
  omega
 ·exact this
theorem woI_keys (k:Nat) (l:List It):keysI (woI k l)=wo k (keysI l):=by
 unfold keysI woI wo
 rw [List.filter_map]
 rfl
theorem woI_len (k:Nat) (l:List It):(woI k l).length<=l.length:=List.length_filter_le _ _
theorem woI_f (k:Nat) {l:List It} (h:∀ x∈l,x.f<=3):∀ x∈woI k l,x.f<=3:=fun x hx=>h x (List.mem_filter.1 hx).1
namespace L10
def keys (s:L10):List Nat:=keysI s.small ++ keysI s.main
def ghosts (s:L10):Nat:=s.ghost.length
def new (n:Int):L10:=⟨capI n,[],[],[]⟩
def touch (s:L10) (k:Nat):L10:=⟨s.c,usI k s.small,usI k s.main,s.ghost⟩
def total (s:L10):Nat:=s.small.length+s.main.length
def fromMain (s:L10):L10 × Nat:=(⟨s.c,s.small,(fm s.main).1,s.ghost⟩,(fm s.main).2)
def fromSmall (s:L10):L10 × Nat:=(⟨s.c,(fsR s.small.reverse s.main).1.reverse,(fsR s.small.reverse s.main).2.1,if (fsR s.small.reverse s.main).2.2.2 then (fr (fsR s.small.reverse s.main).2.2.1 s.ghost).take (room s.c) else s.ghost⟩,(fsR s.small.reverse s.main).2.2.1)
def evict (s:L10):L10 × Nat:=if tgt s.c<=s.small.length∨s.main.length=0 then s.fromSmall else s.fromMain
def shrN:Nat->L10->L10 × List Nat
 | 0,s=>(s,[])
 | m+1,s=>((shrN m s.evict.1).1,s.evict.2 :: (shrN m s.evict.1).2)
def shr (s:L10) (N:Nat):L10:=(shrN (s.total - N) s).1
def shrOut (s:L10) (N:Nat):List Nat:=(shrN (s.total - N) s).2
def fall (s:L10):L10:=⟨s.c,s.small,s.main,s.ghost.take (room s.c)⟩
def forget (s:L10) (k:Nat):L10:=⟨s.c,s.small,s.main,wo k s.ghost⟩
def come (t:L10) (k:Nat) (again:Bool):L10:=if again then ⟨t.c,t.small,⟨k,0⟩ :: t.main,t.ghost⟩ else ⟨t.c,⟨k,0⟩ :: t.small,t.main,t.ghost⟩
def adm (s:L10) (k:Nat):L10:=if k∈s.keys then s else ((s.forget k).shr (s.c - 1)).come k (decide (k∈s.ghost))
def admitOut (s:L10) (k:Nat):List Nat:=if k∈s.keys then [] else (s.forget k).shrOut (s.c - 1)
def drop (s:L10) (k:Nat):L10:=⟨s.c,woI k s.small,woI k s.main,wo k s.ghost⟩
def sized (s:L10) (n:Nat):L10:=⟨n,s.small,s.main,s.ghost⟩
def resize (s:L10) (n:Int):L10:=((s.sized (capI n)).shr (capI n)).fall
def resizeOut (s:L10) (n:Int):List Nat:=(s.sized (capI n)).shrOut (capI n)
def act (s:L10) (x:Act8):L10:=match kindA x (decide (x.key∈s.keys)) with
 | 1=>s.touch x.key
 | 2=>s.adm x.key
 | 3=>s.drop x.key
 | _=>s.resize (sizeA x:Nat)
def actOut (s:L10) (x:Act8):List Nat:=match kindA x (decide (x.key∈s.keys)) with
 | 1=>[]
 | 2=>s.admitOut x.key
 | 3=>[]
 | _=>s.resizeOut (sizeA x:Nat)
structure Fine (s:L10):Prop where
 nd:(s.keys ++ s.ghost).Nodup
 key:∀ k∈s.keys ++ s.ghost,k < 18446744073709551616
 f:∀ x∈s.small ++ s.main,x.f<=3
structure Ok (s:L10):Prop where
 pos:1<=s.c
 cap:s.c<=1048576
 fine:s.Fine
 len:s.total<=s.c
 glen:s.ghost.length<=room s.c
structure Ev (s t:L10) (k:Nat):Prop where
 c:t.c=s.c
 kp:(k :: t.keys).Perm s.keys
 gh:t.ghost.Sublist (k :: s.ghost)
 f:∀ B,(∀ x∈s.small ++ s.main,x.f<=B)->∀ x∈t.small ++ t.main,x.f<=B
 gl:∀ G,room s.c<=G->s.ghost.length<=G->t.ghost.length<=G
variable {s t:L10} {k:Nat}
theorem keys_len (s:L10):s.keys.length=s.total:=by unfold keys total;rw [List.length_append,keysI_len,keysI_len]
theorem Ev.total (h:Ev s t k):t.total+1=s.total:=by
 have:=h.kp.length_eq
 rw [List.length_cons,keys_len,keys_len] at this
 exact this
theorem ev_main (h:s.main≠[]):Ev s s.fromMain.1 s.fromMain.2:=by
 obtain ⟨h1,h2⟩:=fm_spec s.main h
 refine ⟨rfl,?_,(List.Sublist.refl _).cons _,fun B hb x hx=>?_,fun G _ h=>h⟩
 ·show ((fm s.main).2 :: (keysI s.small ++ keysI (fm s.main).1)).Perm (keysI s.small ++ keysI s.main)
  exact List.perm_middle.symm.trans (List.Perm.append_left _ h1)
 ·have hx':x∈s.small ++ (fm s.main).1:=hx
  rcases List.mem_append.1 hx' with hx | hx
  ·exact hb x (List.mem_append_left _ hx)
  ·exact h2 B (fun y hy=>hb y (List.mem_append_right _ hy)) x hx
theorem ev_small (h:s.small≠[]∨s.main≠[]):Ev s s.fromSmall.1 s.fromSmall.2:=by
 obtain ⟨h1,h2⟩:=fsR_spec s.small.reverse s.main (h.imp (fun h e=>h (by simpa using e)) id)
 have hr:(keysI s.small.reverse).Perm (keysI s.small):=(List.reverse_perm _).map _
 refine ⟨rfl,?_,?_,fun B hb x hx=>?_,fun G h3 h4=>?_⟩
 ·show ((fsR s.small.reverse s.main).2.2.1 :: (keysI (fsR s.small.reverse s.main).1.reverse ++ keysI (fsR s.small.reverse s.main).2.1)).Perm (keysI s.small ++ keysI s.main)
  refine List.Perm.trans (List.Perm.cons _ (List.Perm.append_right _ ?_)) (h1.trans (List.Perm.append_right _ hr))
  exact (List.reverse_perm _).map _
 ·show (if _ then _ else s.ghost:List Nat).Sublist _
  split
  ·exact (List.take_sublist _ _).trans (List.Sublist.cons_cons _ List.filter_sublist)
  ·exact (List.Sublist.refl _).cons _
 ·have hx':x∈(fsR s.small.reverse s.main).1.reverse ++ (fsR s.small.reverse s.main).2.1:=hx
  refine h2 B (fun y hy=>hb y ?_) x (by simpa using hx')
  simpa using hy
 ·show (if _ then _ else s.ghost:List Nat).length<=G
  split
  ·rw [List.length_take];omega
  ·exact h4
theorem ev_evict (h:0 < s.total):Ev s s.evict.1 s.evict.2:=by
 unfold evict
 split
 ·refine ev_small ?_
  unfold L10.total at h
  rcases Nat.eq_zero_or_pos s.small.length with e | e
  ·exact .inr (List.length_pos_iff.1 (by omega))
  ·exact .inl (List.length_pos_iff.1 e)
 ·rename_i hn
  exact ev_main (fun e=>hn (.inr (by rw [e];rfl)))
theorem Fine.ev (h:s.Fine) (e:Ev s t k):t.Fine:=by
 have hp:(t.keys ++ k :: s.ghost).Perm (s.keys ++ s.ghost):=List.perm_middle.trans (List.Perm.append_right _ e.kp)
 have hs:(t.keys ++ t.ghost).Sublist (t.keys ++ k :: s.ghost):=(List.Sublist.refl _).append e.gh
 exact ⟨(hp.nodup_iff.2 h.nd).sublist hs,fun x hx=>h.key x (hp.mem_iff.1 (hs.subset hx)),e.f 3 h.f⟩
theorem shrN_spec:∀ (m:Nat) (s:L10),s.Fine->m<=s.total->(shrN m s).1.Fine/\((shrN m s).2 ++ (shrN m s).1.keys).Perm s.keys/\(shrN m s).1.c=s.c/\(shrN m s).2.length=m /\
  (∀ G,room s.c<=G->s.ghost.length<=G->(shrN m s).1.ghost.length<=G)/\(∀ x∈(shrN m s).1.ghost,x∈s.keys ++ s.ghost)
 | 0,s,h,_=>⟨h,List.Perm.refl _,rfl,rfl,fun _ _ h=>h,fun x hx=>List.mem_append_right _ hx⟩
 | m+1,s,h,hm=>by
  have e:=ev_evict (s:=s) (by omega)
  have ht:=e.total
  obtain ⟨h1,h2,h3,h4,h5,h6⟩:=shrN_spec m s.evict.1 (h.ev e) (by omega)
  refine ⟨h1,(h2.cons _).trans e.kp,h3.trans e.c,by show (_ :: _:List Nat).length=_;rw [List.length_cons,h4],fun G g1 g2=>h5 G (by rw [e.c];exact g1) (e.gl G g1 g2),fun x hx=>?_⟩
  rcases List.mem_append.1 (h6 x hx) with hx | hx
  ·exact List.mem_append_left _ (e.kp.mem_iff.1 (List.mem_cons_of_mem _ hx))
  ·rcases List.mem_cons.1 (e.gh.subset hx) with rfl | hx
   ·exact List.mem_append_left _ (e.kp.mem_iff.1 (List.mem_cons_self ..))
   ·exact List.mem_append_right _ hx
section
variable {N:Nat}
theorem Fine.shr (h:s.Fine) (N:Nat):(s.shr N).Fine:=(shrN_spec _ s h (Nat.sub_le _ _)).1
theorem shr_keys (h:s.Fine) (N:Nat):(s.shrOut N ++ (s.shr N).keys).Perm s.keys:=(shrN_spec _ s h (Nat.sub_le _ _)).2.1
theorem shr_c (h:s.Fine) (N:Nat):(s.shr N).c=s.c:=(shrN_spec _ s h (Nat.sub_le _ _)).2.2.1
theorem shrOut_len (h:s.Fine) (N:Nat):(s.shrOut N).length=s.total - N:=(shrN_spec _ s h (Nat.sub_le _ _)).2.2.2.1
theorem shr_ghost (h:s.Fine) (N:Nat) {G:Nat} (h1:room s.c<=G) (h2:s.ghost.length<=G):(s.shr N).ghost.length<=G:=(shrN_spec _ s h (Nat.sub_le _ _)).2.2.2.2.1 G h1 h2
theorem shr_mem (h:s.Fine) {N k:Nat} (hk:k∈(s.shr N).keys ++ (s.shr N).ghost):k∈s.keys ++ s.ghost:=by
 rcases List.mem_append.1 hk with hk | hk
 ·exact List.mem_append_left _ ((shr_keys h N).mem_iff.1 (List.mem_append_right _ hk))
 ·exact (shrN_spec _ s h (Nat.sub_le _ _)).2.2.2.2.2 k hk
theorem shr_total (h:s.Fine) (N:Nat):(s.shr N).total+(s.total - N)=s.total:=by
 have:=(shr_keys h N).length_eq
 rw [List.length_append,shrOut_len h,keys_len,keys_len] at this
 omega
end
theorem Fine.sub (h:s.Fine) (h1:(t.keys ++ t.ghost).Sublist (s.keys ++ s.ghost)) (h2:∀ x∈t.small ++ t.main,x.f<=3):t.Fine:=⟨h.nd.sublist h1,fun k hk=>h.key k (h1.subset hk),h2⟩
theorem Fine.forget (h:s.Fine) (k:Nat):(s.forget k).Fine:=h.sub ((List.Sublist.refl _).append List.filter_sublist) h.f
theorem Fine.sized (h:s.Fine) (n:Nat):(s.sized n).Fine:=⟨h.nd,h.key,h.f⟩
theorem Fine.fall (h:s.Fine):s.fall.Fine:=h.sub ((List.Sublist.refl _).append (List.take_sublist _ _)) h.f
theorem Fine.keysNd (h:s.Fine):s.keys.Nodup:=h.nd.sublist (List.sublist_append_left _ _)
theorem Fine.keysKey (h:s.Fine) {k:Nat} (hk:k∈s.keys):k < 18446744073709551616:=h.key k (List.mem_append_left _ hk)
theorem Ok.keysLen (h:s.Ok):s.keys.length<=100000000:=by rw [keys_len];have:=h.len;have:=h.cap;omega
theorem Ok.len_small (h:s.Ok):s.small.length<=100000000:=by have h1:s.small.length+s.main.length<=s.c:=h.len;have:=h.cap;omega
theorem Ok.len_main (h:s.Ok):s.main.length<=100000000:=by have h1:s.small.length+s.main.length<=s.c:=h.len;have:=h.cap;omega
theorem Ok.len_ghost (h:s.Ok):s.ghost.length<=100000000:=by have:=h.glen;have:=room_le s.c;have:=h.cap;omega
theorem ok_new (n:Int):(new n).Ok:=⟨(capI_pos n).1,(capI_pos n).2,⟨by simp [new,keys,keysI],fun k hk=>by simp [new,keys,keysI] at hk,fun x hx=>by simp [new] at hx⟩,Nat.zero_le _,Nat.zero_le _⟩
theorem touch_keys (s:L10) (k:Nat):(s.touch k).keys=s.keys:=by simp [keys,touch,usI_keys]
theorem Ok.touch (h:s.Ok) (k:Nat):(s.touch k).Ok:=by
 refine ⟨h.pos,h.cap,⟨by rw [touch_keys];exact h.fine.nd,by rw [touch_keys];exact h.fine.key,fun x hx=>?_⟩,?_,h.glen⟩
 ·have hx':x∈usI k s.small ++ usI k s.main:=hx
  rcases List.mem_append.1 hx' with hx | hx
  ·exact usI_f k (fun y hy=>h.fine.f y (List.mem_append_left _ hy)) x hx
  ·exact usI_f k (fun y hy=>h.fine.f y (List.mem_append_right _ hy)) x hx
 ·show (usI k s.small).length+(usI k s.main).length<=s.c
  rw [usI_len,usI_len]
  exact h.len
theorem come_keys (t:L10) (k:Nat) (b:Bool):(t.come k b).keys.Perm (k :: t.keys):=by
 cases b
 ·exact List.Perm.refl _
 ·exact List.perm_middle
theorem come_c (t:L10) (k:Nat) (b:Bool):(t.come k b).c=t.c:=by cases b <;> rfl
theorem come_ghost (t:L10) (k:Nat) (b:Bool):(t.come k b).ghost=t.ghost:=by cases b <;> rfl
theorem come_f {t:L10} (h:∀ x∈t.small ++ t.main,x.f<=3) (k:Nat) (b:Bool):∀ x∈(t.come k b).small ++ (t.come k b).main,x.f<=3:=fun x hx=>by
 cases b
 ·rcases List.mem_cons.1 (show x∈(⟨k,0⟩:It) :: (t.small ++ t.main) from hx) with rfl | hx
  ·exact Nat.zero_le _
  ·exact h x hx
 ·rcases List.mem_append.1 (show x∈t.small ++ (⟨k,0⟩:It) :: t.main from hx) with hx | hx
  ·exact h x (List.mem_append_left _ hx)
  ·rcases List.mem_cons.1 hx with rfl | hx
   ·exact Nat.zero_le _
   ·exact h x (List.mem_append_right _ hx)
theorem forget_not {k:Nat} (hk:k∉s.keys):k∉(s.forget k).keys ++ (s.forget k).ghost:=by
 show k∉s.keys ++ wo k s.ghost
 rw [List.mem_append,not_or]
 exact ⟨hk,not_wo s.ghost k⟩
theorem Ok.adm (h:s.Ok) (k:Nat) (hk:k < 18446744073709551616):(s.adm k).Ok:=by
 unfold L10.adm
 split
 ·exact h
 ·rename_i hn
  have hp:=h.pos
  have hf:=h.fine.forget k
  have hnot:k∉((s.forget k).shr (s.c - 1)).keys ++ ((s.forget k).shr (s.c - 1)).ghost:=fun hm=>forget_not hn (shr_mem hf hm)
  have htot:=shr_total hf (s.c - 1)
  have hc:((s.forget k).shr (s.c - 1)).c=s.c:=shr_c hf _
  have hgl:((s.forget k).shr (s.c - 1)).ghost.length<=room s.c:=shr_ghost hf _ (Nat.le_refl _) (Nat.le_trans (wo_len k s.ghost) h.glen)
  have hft:=hf.shr (s.c - 1)
  have hto:(s.forget k).total=s.total:=rfl
  generalize (s.forget k).shr (s.c - 1)=t at hnot htot hc hgl hft
  have hkp:=come_keys t k (decide (k∈s.ghost))
  have hpm:((t.come k (decide (k∈s.ghost))).keys ++ (t.come k (decide (k∈s.ghost))).ghost).Perm (k :: (t.keys ++ t.ghost)):=by
   rw [come_ghost]
   exact List.Perm.append_right _ hkp
  have hl:=hkp.length_eq
  rw [keys_len,List.length_cons,keys_len] at hl
  refine ⟨by rw [come_c,hc];exact hp,by rw [come_c,hc];exact h.cap,⟨hpm.nodup_iff.2 (List.nodup_cons.2 ⟨hnot,hft.nd⟩),fun x hx=>?_,come_f hft.f k _⟩,?_,by rw [come_c,come_ghost,hc];exact hgl⟩
  ·rcases List.mem_cons.1 (hpm.mem_iff.1 hx) with rfl | hx
   ·exact hk
   ·exact hft.key x hx
  ·rw [come_c,hc]
   omega
theorem drop_keys (s:L10) (k:Nat):(s.drop k).keys=wo k s.keys:=by
 show keysI (woI k s.small) ++ keysI (woI k s.main)=_
 rw [woI_keys,woI_keys]
 simp [keys,wo]
theorem Ok.drop (h:s.Ok) (k:Nat):(s.drop k).Ok:=by
 refine ⟨h.pos,h.cap,h.fine.sub ?_ (fun x hx=>?_),?_,Nat.le_trans (wo_len k s.ghost) h.glen⟩
 ·rw [drop_keys]
  exact List.filter_sublist.append List.filter_sublist
 ·have hx':x∈woI k s.small ++ woI k s.main:=hx
  rcases List.mem_append.1 hx' with hx | hx
  ·exact woI_f k (fun y hy=>h.fine.f y (List.mem_append_left _ hy)) x hx
  ·exact woI_f k (fun y hy=>h.fine.f y (List.mem_append_right _ hy)) x hx
 ·have h1:=woI_len k s.small
  have h2:=woI_len k s.main
  have h3:s.small.length+s.main.length<=s.c:=h.len
  show (woI k s.small).length+(woI k s.main).length<=s.c
  omega
theorem ok_resize (h:s.Fine) (n:Int):(s.resize n).Ok:=by
 have hf:=h.sized (capI n)
 have hc:((s.sized (capI n)).shr (capI n)).c=capI n:=shr_c hf _
 have ht:=shr_total hf (capI n)
 have hft:=hf.shr (capI n)
 unfold L10.resize
 generalize (s.sized (capI n)).shr (capI n)=t at hc ht hft
 refine ⟨?_,?_,hft.fall,?_,?_⟩
 ·show 1<=t.c
  rw [hc];exact (capI_pos n).1
 ·show t.c<=1048576
  rw [hc];exact (capI_pos n).2
 ·show t.total<=t.c
  rw [hc];omega
 ·show (t.ghost.take (room t.c)).length<=room t.c
  rw [List.length_take];omega
theorem Ok.resize (h:s.Ok) (n:Int):(s.resize n).Ok:=ok_resize h.fine n
theorem Ok.act (h:s.Ok) {x:Act8} (wf:x.Ok):(s.act x).Ok:=by
 unfold L10.act
 split
 ·exact h.touch _
 ·exact h.adm _ wf.key
 ·exact h.drop _
 ·exact h.resize _
theorem act_cases (s:L10) (x:Act8):kindA x (decide (x.key∈s.keys))=1/\s.act x=s.touch x.key/\s.actOut x=[]∨kindA x (decide (x.key∈s.keys))=2/\s.act x=s.adm x.key/\s.actOut x=s.admitOut x.key ∨
  kindA x (decide (x.key∈s.keys))=3/\s.act x=s.drop x.key/\s.actOut x=[]∨kindA x (decide (x.key∈s.keys))=4/\s.act x=s.resize (sizeA x:Nat)/\s.actOut x=s.resizeOut (sizeA x:Nat):=by
 unfold L10.act L10.actOut
 rcases kindA_is x (decide (x.key∈s.keys)) with h | h | h | h <;> rw [h] <;> simp
theorem perm_evs {out is was:List Nat} (hp:(out ++ is).Perm was) (hn:was.Nodup):(∀ k∈out,k∈was/\k∉is)/\(∀ k∈was,k∈out∨k∈is)/\out.Nodup/\is.length+out.length=was.length:=by
 have hn2:=hp.nodup_iff.2 hn
 obtain ⟨h1,h2,h3⟩:=List.nodup_append.1 hn2
 refine ⟨fun k hk=>⟨hp.mem_iff.1 (List.mem_append_left _ hk),fun hi=>h3 _ hk _ hi rfl⟩,fun k hk=>List.mem_append.1 (hp.mem_iff.2 hk),h1,?_⟩
 have:=hp.length_eq
 rw [List.length_append] at this
 omega
theorem Ok.evs (h:s.Ok) {x:Act8} (_:x.Ok):Evs s.keys (s.act x).keys (s.actOut x) (kindA x (decide (x.key∈s.keys))) x.key (sizeA x):=by
 have hz:=sizeA_is x
 have hnd:=h.fine.keysNd
 rcases act_cases s x with ⟨hq,e1,e2⟩ | ⟨hq,e1,e2⟩ | ⟨hq,e1,e2⟩ | ⟨hq,e1,e2⟩
 ·rw [hq,e1,e2,touch_keys]
  exact L8.evs_none (.inl rfl) (fun k hk=>hk) rfl
 ·rw [hq,e1,e2]
  by_cases hin:x.key∈s.keys
  ·have f1:s.adm x.key=s:=by unfold L10.adm;rw [if_pos hin]
   have f2:s.admitOut x.key=[]:=by unfold L10.admitOut;rw [if_pos hin]
   rw [f1,f2]
   exact L8.evs_none (.inr ⟨rfl,hin⟩) (fun k hk=>hk) rfl
  ·have f1:s.adm x.key=((s.forget x.key).shr (s.c - 1)).come x.key (decide (x.key∈s.ghost)):=by unfold L10.adm;rw [if_neg hin]
   have f2:s.admitOut x.key=(s.forget x.key).shrOut (s.c - 1):=by unfold L10.admitOut;rw [if_neg hin]
   have hf:=h.fine.forget x.key
   have hsk:((s.forget x.key).shrOut (s.c - 1) ++ ((s.forget x.key).shr (s.c - 1)).keys).Perm s.keys:=shr_keys hf (s.c - 1)
   obtain ⟨h1,h2,h3,h4⟩:=perm_evs hsk hnd
   rw [f1,f2]
   generalize (s.forget x.key).shr (s.c - 1)=t at h1 h2 h4 ⊢
   have hp:=come_keys t x.key (decide (x.key∈s.ghost))
   refine L8.evs_admit hin (fun k hk=>⟨(h1 k hk).1,fun hm=>?_⟩) (fun k hk=>(h2 k hk).imp id (fun h=>hp.mem_iff.2 (List.mem_cons_of_mem _ h))) h3 ?_
   ·rcases List.mem_cons.1 (hp.mem_iff.1 hm) with e | hm
    ·rw [<- e] at hin
     exact hin (h1 k hk).1
    ·exact (h1 k hk).2 hm
   ·have:=hp.length_eq
    rw [List.length_cons] at this
    omega
 ·rw [hq,e1,e2,drop_keys]
  refine L8.evs_drop (fun k hk=>?_) (wo_count8 hnd x.key)
  by_cases e:k=x.key
  ·exact .inr e
  ·exact .inl (wo_mem.2 ⟨hk,e⟩)
 ·rw [hq,e1,e2]
  have hc:=capI_nat (sizeA x) (by omega) (by omega)
  unfold L10.resize L10.resizeOut
  rw [hc]
  have hf:=h.fine.sized (sizeA x)
  have hsk:((s.sized (sizeA x)).shrOut (sizeA x) ++ ((s.sized (sizeA x)).shr (sizeA x)).keys).Perm s.keys:=shr_keys hf (sizeA x)
  obtain ⟨h1,h2,h3,h4⟩:=perm_evs hsk hnd
  refine L8.evs_resize h1 h2 h3 h4 ?_
  rw [shrOut_len hf,keys_len]
  rfl
end L10
abbrev l10C (c:Nat) (u_small:Value) (u_main:Value) (u_ghost:Value):Array Value:=#[(.int .i64 (c:Nat)),u_small,u_main,u_ghost]
abbrev z10:Array Value:=#[.int .i64 0,.slice none 0 0,.slice none 0 0,.slice none 0 0]
abbrev T10:TypeId:=47
structure St10 (w:World) (s:L10) (u1 u2 u3:Value):Prop where
 g1:IV w u1 s.small
 g2:IV w u2 s.main
 g3:KV w u3 s.ghost
section
variable {w w':World} {s:L10} {u1 u2 u3:Value}
theorem St10.form1 (h:St10 w s u1 u2 u3):∃ F n c,u1 = .slice F n c:=h.g1.form
theorem St10.form2 (h:St10 w s u1 u2 u3):∃ F n c,u2 = .slice F n c:=h.g2.form
theorem St10.form3 (h:St10 w s u1 u2 u3):∃ F n c,u3 = .slice F n c:=h.g3.form
theorem St10.below (h:St10 w s u1 u2 u3) (hb:Below w.heap.size w w'):St10 w' s u1 u2 u3:=⟨h.g1.below hb,h.g2.below hb,h.g3.below hb⟩
theorem Bo.st10 {w0:World} {T:TypeId} {b r:Nat} {cs zs:Array Value} (hb:Bo w0 w T b r cs zs) (ho:Only [b,r] w w') (h:St10 w s u1 u2 u3):St10 w' s u1 u2 u3:=⟨hb.iv ho h.g1,hb.iv ho h.g2,hb.kv ho h.g3⟩
theorem Bp.st10 {w0:World} {T U:TypeId} {b r:Nat} {cs zs:Array Value} (hb:Bp w0 w T U b r cs zs) (ho:Only [b,r] w w') (h:St10 w s u1 u2 u3):St10 w' s u1 u2 u3:=⟨hb.iv ho h.g1,hb.iv ho h.g2,hb.kv ho h.g3⟩
end
def P10 (w:World) (s:L10) (e:Ending) (w':World):Prop:=∃ u1 u2 u3,e = .returned (.agg (l10C s.c u1 u2 u3))/\Below w.heap.size w w'/\St10 w' s u1 u2 u3
def P10o (w:World) (s:L10) (out:List Nat) (e:Ending) (w':World):Prop:=∃ u1 u2 u3 o,e = .returned (.tuple #[.agg (l10C s.c u1 u2 u3),o])/\Below w.heap.size w w'/\St10 w' s u1 u2 u3/\KV w' o out
theorem B10.start (w:World) (c:Nat) (F1:Option Addr) (n1 d1:Nat) (F2:Option Addr) (n2 d2:Nat) (F3:Option Addr) (n3 d3:Nat):Bo w ((w.alloc (.cells (l10C c (.slice F1 n1 d1) (.slice F2 n2 d2) (.slice F3 n3 d3)) T10)).alloc (.cells z10 T10)) T10 w.heap.size (w.heap.size+1) (l10C c (.slice F1 n1 d1) (.slice F2 n2 d2) (.slice F3 n3 d3)) z10 :=
 Bo.start w T10 _ _ rfl rfl (by decide)
abbrev PT10:TypeId:=32
structure Pol10Ok:Prop where
 new:∀ (w:World) (n:Int) (_ : -9223372036854775808<=n) (_:n<=9223372036854775807),Calls Tryz.prog 78 #[.int .i64 n] w (P10 w (L10.new n))
 touch:∀ {w:World} {s:L10} {u1 u2 u3:Value} (_:St10 w s u1 u2 u3) (_:s.Ok) (k:Nat) (_:k < 18446744073709551616),Calls Tryz.prog 79 #[(.agg (l10C s.c u1 u2 u3)),.int .u64 (k:Nat)] w (P10 w (s.touch k))
 adm:∀ {w:World} {s:L10} {u1 u2 u3:Value} (_:St10 w s u1 u2 u3) (_:s.Ok) (k:Nat) (_:k < 18446744073709551616),Calls Tryz.prog 80 #[(.agg (l10C s.c u1 u2 u3)),.int .u64 (k:Nat)] w (P10o w (s.adm k) (s.admitOut k))
 drop:∀ {w:World} {s:L10} {u1 u2 u3:Value} (_:St10 w s u1 u2 u3) (_:s.Ok) (k:Nat) (_:k < 18446744073709551616),Calls Tryz.prog 81 #[(.agg (l10C s.c u1 u2 u3)),.int .u64 (k:Nat)] w (P10 w (s.drop k))
 resize:∀ {w:World} {s:L10} {u1 u2 u3:Value} (_:St10 w s u1 u2 u3) (_:s.Ok) (n:Int) (_ : -9223372036854775808<=n) (_:n<=9223372036854775807),Calls Tryz.prog 82 #[(.agg (l10C s.c u1 u2 u3)),.int .i64 n] w (P10o w (s.resize n) (s.resizeOut n))
 has:∀ {w:World} {s:L10} {u1 u2 u3:Value} (_:St10 w s u1 u2 u3) (_:s.Ok) (k:Nat) (_:k < 18446744073709551616),Calls Tryz.prog 83 #[(.agg (l10C s.c u1 u2 u3)),.int .u64 (k:Nat)] w (RetB w (decide (k∈s.keys)))
 keys:∀ {w:World} {s:L10} {u1 u2 u3:Value} (_:St10 w s u1 u2 u3) (_:s.Ok),Calls Tryz.prog 84 #[(.agg (l10C s.c u1 u2 u3))] w (RetK w s.keys)
 ghosts:∀ {w:World} {s:L10} {u1 u2 u3:Value} (_:St10 w s u1 u2 u3) (_:s.Ok),Calls Tryz.prog 85 #[(.agg (l10C s.c u1 u2 u3))] w (fun e w'=>e = .returned (.int .i64 (s.ghosts:Nat))/\Below w.heap.size w w')
structure Bx10 (w w1:World) (T:TypeId) (b r:Nat) (s:L10) (u1 u2 u3:Value):Prop where
 bo:Bo w w1 T b r (l10C s.c u1 u2 u3) z10
 st:St10 w1 s u1 u2 u3
section
variable {w w1 w2:World} {T:TypeId} {b r:Nat} {s:L10} {u1 u2 u3:Value}
theorem Bx10.start (w:World) (T:TypeId) (hT:T≠56) {s:L10} {F1:Option Addr} {n1 d1:Nat} {F2:Option Addr} {n2 d2:Nat} {F3:Option Addr} {n3 d3:Nat} (h:St10 w s (.slice F1 n1 d1) (.slice F2 n2 d2) (.slice F3 n3 d3)):Bx10 w ((w.alloc (.cells (l10C s.c (.slice F1 n1 d1) (.slice F2 n2 d2) (.slice F3 n3 d3)) T)).alloc (.cells z10 T)) T w.heap.size (w.heap.size+1) s (.slice F1 n1 d1) (.slice F2 n2 d2) (.slice F3 n3 d3) :=
 ⟨Bo.start w T _ _ rfl rfl hT,h.below (low_two w _ _)⟩
theorem Bx10.step (h:Bx10 w w1 T b r s u1 u2 u3) (hb:Below w1.heap.size w1 w2):Bx10 w w2 T b r s u1 u2 u3:=⟨h.bo.step hb,h.st.below hb⟩
theorem Bx10.kv {v:Value} {ks:List Nat} {i:Nat} {x:Value} (h:Bx10 w w1 T b r s u1 u2 u3) (hk:KV w1 v ks):KV (w1.setCell ⟨b,i,none⟩ x) v ks:=h.bo.kv ((Only.refl _ _).setCell (by simp) _) hk
theorem Bx10.set1 (h:Bx10 w w1 T b r s u1 u2 u3) {F:Option Addr} {m d:Nat} {ks:List It} (hk:IV w1 (.slice F m d) ks):Bx10 w (w1.setCell ⟨b,1,none⟩ (.slice F m d)) T b r ⟨s.c,ks,s.main,s.ghost⟩ (.slice F m d) u2 u3:=by
 obtain ⟨F1,n1,d1,rfl⟩:=h.st.form1
 obtain ⟨F2,n2,d2,rfl⟩:=h.st.form2
 obtain ⟨F3,n3,d3,rfl⟩:=h.st.form3
 obtain ⟨h1,h2⟩:=h.bo.set 1 (.slice F m d) rfl
 exact ⟨h1,h.bo.iv h2 hk,h.bo.iv h2 h.st.g2,h.bo.kv h2 h.st.g3⟩
theorem Bx10.set2 (h:Bx10 w w1 T b r s u1 u2 u3) {F:Option Addr} {m d:Nat} {ks:List It} (hk:IV w1 (.slice F m d) ks):Bx10 w (w1.setCell ⟨b,2,none⟩ (.slice F m d)) T b r ⟨s.c,s.small,ks,s.ghost⟩ u1 (.slice F m d) u3:=by
 obtain ⟨F1,n1,d1,rfl⟩:=h.st.form1
 obtain ⟨F2,n2,d2,rfl⟩:=h.st.form2
 obtain ⟨F3,n3,d3,rfl⟩:=h.st.form3
 obtain ⟨h1,h2⟩:=h.bo.set 2 (.slice F m d) rfl
 exact ⟨h1,h.bo.iv h2 h.st.g1,h.bo.iv h2 hk,h.bo.kv h2 h.st.g3⟩
theorem Bx10.set3 (h:Bx10 w w1 T b r s u1 u2 u3) {F:Option Addr} {m d:Nat} {ks:List Nat} (hk:KV w1 (.slice F m d) ks):Bx10 w (w1.setCell ⟨b,3,none⟩ (.slice F m d)) T b r ⟨s.c,s.small,s.main,ks⟩ u1 u2 (.slice F m d):=by
 obtain ⟨F1,n1,d1,rfl⟩:=h.st.form1
 obtain ⟨F2,n2,d2,rfl⟩:=h.st.form2
 obtain ⟨F3,n3,d3,rfl⟩:=h.st.form3
 obtain ⟨h1,h2⟩:=h.bo.set 3 (.slice F m d) rfl
 exact ⟨h1,h.bo.iv h2 h.st.g1,h.bo.iv h2 h.st.g2,h.bo.kv h2 hk⟩
theorem Bx10.set0 (h:Bx10 w w1 T b r s u1 u2 u3) (c':Nat):Bx10 w (w1.setCell ⟨b,0,none⟩ (.int .i64 (c':Nat))) T b r ⟨c',s.small,s.main,s.ghost⟩ u1 u2 u3:=by
 obtain ⟨F1,n1,d1,rfl⟩:=h.st.form1
 obtain ⟨F2,n2,d2,rfl⟩:=h.st.form2
 obtain ⟨F3,n3,d3,rfl⟩:=h.st.form3
 obtain ⟨h1,h2⟩:=h.bo.set 0 (.int .i64 (c':Nat)) rfl
 exact ⟨h1,h.bo.iv h2 h.st.g1,h.bo.iv h2 h.st.g2,h.bo.kv h2 h.st.g3⟩
theorem Bx10.only (_:Bx10 w w1 T b r s u1 u2 u3):Only [b,r] w1 ((((w1.setCell ⟨r,0,none⟩ (.int .i64 (s.c:Nat))).setCell ⟨r,1,none⟩ u1).setCell ⟨r,2,none⟩ u2).setCell ⟨r,3,none⟩ u3):=((((Only.refl _ _).setCell (by simp) _).setCell (by simp) _).setCell (by simp) _).setCell (by simp) _
theorem Bx10.done (h:Bx10 w w1 T b r s u1 u2 u3):P10 w s (.returned (.agg (l10C s.c u1 u2 u3))) ((((w1.setCell ⟨r,0,none⟩ (.int .i64 (s.c:Nat))).setCell ⟨r,1,none⟩ u1).setCell ⟨r,2,none⟩ u2).setCell ⟨r,3,none⟩ u3):=⟨_,_,_,rfl,h.bo.fin h.only,h.bo.st10 h.only h.st⟩
theorem Bx10.doneo (h:Bx10 w w1 T b r s u1 u2 u3) {o:Value} {out:List Nat} (ho:KV w1 o out):P10o w s out (.returned (.tuple #[.agg (l10C s.c u1 u2 u3),o])) ((((w1.setCell ⟨r,0,none⟩ (.int .i64 (s.c:Nat))).setCell ⟨r,1,none⟩ u1).setCell ⟨r,2,none⟩ u2).setCell ⟨r,3,none⟩ u3):=⟨_,_,_,_,rfl,h.bo.fin h.only,h.bo.st10 h.only h.st,h.bo.kv h.only ho⟩
theorem Bx10.put {s':L10} {u1 u2 u3:Value} {F1:Option Addr} {n1 d1:Nat} {F2:Option Addr} {n2 d2:Nat} {F3:Option Addr} {n3 d3:Nat} (h:Bx10 w w1 T b r s u1 u2 u3) (hs:St10 w1 s' (.slice F1 n1 d1) (.slice F2 n2 d2) (.slice F3 n3 d3)):Bx10 w ((((w1.setCell ⟨b,0,none⟩ (.int .i64 (s'.c:Nat))).setCell ⟨b,1,none⟩ (.slice F1 n1 d1)).setCell ⟨b,2,none⟩ (.slice F2 n2 d2)).setCell ⟨b,3,none⟩ (.slice F3 n3 d3)) T b r s' (.slice F1 n1 d1) (.slice F2 n2 d2) (.slice F3 n3 d3):=by
 obtain ⟨h1,h2⟩:=c4_set h.bo.box (.int .i64 (s'.c:Nat)) (.slice F1 n1 d1) (.slice F2 n2 d2) (.slice F3 n3 d3)
 have ho:Only [b,r] w1 ((((w1.setCell ⟨b,0,none⟩ (.int .i64 (s'.c:Nat))).setCell ⟨b,1,none⟩ (.slice F1 n1 d1)).setCell ⟨b,2,none⟩ (.slice F2 n2 d2)).setCell ⟨b,3,none⟩ (.slice F3 n3 d3)):=((((Only.refl _ _).setCell (by simp) _).setCell (by simp) _).setCell (by simp) _).setCell (by simp) _
 exact ⟨⟨h.bo.fin ho,h1,(h2.block r (head_row h.bo.res).lt (by simpa using fun e=>h.bo.ge.2.2 e.symm)).trans h.bo.res,h.bo.ge,⟨rfl,h.bo.nu.2⟩,h.bo.ty⟩,h.bo.st10 ho hs⟩
theorem Bx10.alloc {s':L10} {v1 v2 v3:Value} {F1:Option Addr} {n1 d1:Nat} {F2:Option Addr} {n2 d2:Nat} {F3:Option Addr} {n3 d3:Nat} (h:Bx10 w w1 T b r s' v1 v2 v3) (hs:St10 w1 s (.slice F1 n1 d1) (.slice F2 n2 d2) (.slice F3 n3 d3)):Bx10 w (w1.alloc (.cells (l10C s.c (.slice F1 n1 d1) (.slice F2 n2 d2) (.slice F3 n3 d3)) T)) T w1.heap.size r s (.slice F1 n1 d1) (.slice F2 n2 d2) (.slice F3 n3 d3) :=
 ⟨h.bo.alloc _ rfl,hs.below (low_one w1 _)⟩
end
structure Bs10 (w w1:World) (T:TypeId) (b:Nat) (s:L10) (u1 u2 u3:Value):Prop where
 low:Below w.heap.size w w1
 box:w1.heap[b]? = some (.cells (l10C s.c u1 u2 u3) T (0,0))
 ge:w.heap.size<=b
 ty:T≠56
 st:St10 w1 s u1 u2 u3
section
variable {w w1 w2:World} {T:TypeId} {b:Nat} {s:L10} {u1 u2 u3:Value}
theorem Bs10.step (h:Bs10 w w1 T b s u1 u2 u3) (hb:Below w1.heap.size w1 w2):Bs10 w w2 T b s u1 u2 u3:=⟨h.low.trans (hb.mono h.low.size),(hb.block b (head_row h.box).lt).trans h.box,h.ge,h.ty,h.st.below hb⟩
theorem Bs10.new {F1:Option Addr} {n1 d1:Nat} {F2:Option Addr} {n2 d2:Nat} {F3:Option Addr} {n3 d3:Nat} (hT:T≠56) (hb:Below w.heap.size w w1) (hs:St10 w1 s (.slice F1 n1 d1) (.slice F2 n2 d2) (.slice F3 n3 d3)):Bs10 w (w1.alloc (.cells (l10C s.c (.slice F1 n1 d1) (.slice F2 n2 d2) (.slice F3 n3 d3)) T)) T w1.heap.size s (.slice F1 n1 d1) (.slice F2 n2 d2) (.slice F3 n3 d3):=⟨hb.alloc hb.size _,heap_alloc_new w1 _,hb.size,hT,hs.below (low_one w1 _)⟩
theorem Bs10.put {s':L10} {F1:Option Addr} {n1 d1:Nat} {F2:Option Addr} {n2 d2:Nat} {F3:Option Addr} {n3 d3:Nat} (h:Bs10 w w1 T b s u1 u2 u3) (hs:St10 w1 s' (.slice F1 n1 d1) (.slice F2 n2 d2) (.slice F3 n3 d3)):Bs10 w ((((w1.setCell ⟨b,0,none⟩ (.int .i64 (s'.c:Nat))).setCell ⟨b,1,none⟩ (.slice F1 n1 d1)).setCell ⟨b,2,none⟩ (.slice F2 n2 d2)).setCell ⟨b,3,none⟩ (.slice F3 n3 d3)) T b s' (.slice F1 n1 d1) (.slice F2 n2 d2) (.slice F3 n3 d3):=by
 obtain ⟨G1,m1,e1,rfl⟩:=h.st.form1
 obtain ⟨G2,m2,e2,rfl⟩:=h.st.form2
 obtain ⟨G3,m3,e3,rfl⟩:=h.st.form3
 obtain ⟨h1,h2⟩:=c4_set h.box (.int .i64 (s'.c:Nat)) (.slice F1 n1 d1) (.slice F2 n2 d2) (.slice F3 n3 d3)
 have hbx:∀ g∈[b],Bx w1 g:=fun g hg=>by
  rw [List.mem_singleton] at hg
  subst hg
  exact ⟨_,_,h.box,rfl,h.ty⟩
 exact ⟨h.low.trans (h2.below (by simp;exact h.ge) h.low.size),h1,h.ge,h.ty,hs.g1.only h2 hbx,hs.g2.only h2 hbx,hs.g3.only h2 hbx⟩
theorem Bs10.kv {v:Value} {ks:List Nat} {s':L10} {v1 v2 v3:Value} (h:Bs10 w w1 T b s u1 u2 u3) (hk:KV w1 v ks):KV ((((w1.setCell ⟨b,0,none⟩ (.int .i64 (s'.c:Nat))).setCell ⟨b,1,none⟩ v1).setCell ⟨b,2,none⟩ v2).setCell ⟨b,3,none⟩ v3) v ks:=by
 obtain ⟨G1,m1,e1,rfl⟩:=h.st.form1
 obtain ⟨G2,m2,e2,rfl⟩:=h.st.form2
 obtain ⟨G3,m3,e3,rfl⟩:=h.st.form3
 have hbx:∀ g∈[b],Bx w1 g:=fun g hg=>by
  rw [List.mem_singleton] at hg
  subst hg
  exact ⟨_,_,h.box,rfl,h.ty⟩
 exact hk.only (((((Only.refl [b] _).setCell (by simp) _).setCell (by simp) _).setCell (by simp) _).setCell (by simp) _) hbx
end
abbrev TI10:TypeId:=283
def ToldI (w:World) (e:TypeId) (xs:List It) (r:Ending) (w':World):Prop:=∃ v,r = .returned v/\OwnI e w.heap.size w w' v xs
section
variable {w:World} {v:Value} {xs:List It}
end
set_option maxRecDepth 8000
section
variable {w:World} {u1 u2 u3:Value} {s:L10}
set_option maxHeartbeats 2000000 in
theorem r10new_walk (n:Int) (hn1 : -9223372036854775808<=n) (hn2:n<=9223372036854775807):Calls Tryz.prog 51 #[.int .i64 n] w (P10 w (L10.new n)):=by
 have KK:=Lib.hid (rcap_walk (w:=w.alloc (.cells z10 T10)) n hn1 hn2)
 obtain ⟨c,hc⟩:∃ c,capI n=c:=⟨_,rfl⟩
 have HC:Hid (P10 w (L10.new n)=P10 w ⟨c,[],[],[]⟩):=Lib.hid (by rw [<- hc];rfl)
 rw [hc] at KK
 rw [HC.out]
 clear hc HC
 go_enter Tryz.func51,Tryz.ntmps51
 go_wp2_with fail
 refine KK.out.mono ?_
 rintro e w1 ⟨rfl,rfl⟩
 go_wp2
 exact bodyPost_ret (v := .agg (l10C c (.slice none 0 0) (.slice none 0 0) (.slice none 0 0))) (by simp [results,Tryz.results51,go_sem]) rfl ⟨_,_,_,rfl,(Below.refl _ _).alloc (Nat.le_refl _) _,⟨IV.nil _,IV.nil _,KV.nil _⟩⟩
end
end Go.Proofs.YtcpggonengkgiaaGreatDoor
