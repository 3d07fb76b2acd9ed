/- Words and walks: McP McQ McO. -/
import Derived.Test.YtcpggonengkgiaaGreatDoorG15
import Derived.Test.YtcpggonengkgiaaGreatDoorG21
import Derived.Test.YtcpggonengkgiaaGreatDoorG5
import Derived.Test.YtcpggonengkgiaaGreatDoorG8
namespace Go.Proofs.YtcpggonengkgiaaGreatDoor
open Go Go.RowKit Go.Deep
theorem L8.come_in {s:L8} {k:Nat} (h:k∉s.keys):k∈(s.adm k).keys:=by
 have h':k∉s.l:=h
 unfold L8.adm
 rw [if_neg h']
 exact fr_mem.2 (.inl rfl)
theorem L9.come_in {s:L9} {k:Nat} (h:k∉s.keys):k∈(s.adm k).keys:=by
 unfold L9.adm
 rw [if_neg h]
 have hnot:k∉((s.forget k).shr (s.c - 1)).inn ++ ((s.forget k).shr (s.c - 1)).out ++ ((s.forget k).shr (s.c - 1)).main:=fun hm=>L9.forget_not h (L9.shr_mem hm)
 exact (L9.come_keys (fun h=>hnot (by simp [h])) (fun h=>hnot (by simp [h])) _).mem_iff.2 (List.mem_cons_self ..)
theorem L10.come_in {s:L10} {k:Nat} (h:k∉s.keys):k∈(s.adm k).keys:=by
 unfold L10.adm
 rw [if_neg h]
 exact (L10.come_keys _ k _).mem_iff.2 (List.mem_cons_self ..)
theorem L11.come_in {s:L11} (ok:s.Ok) {k:Nat} (h:k∉s.keys):k∈(s.adm k).keys:=by
 obtain ⟨t,-,hp⟩:=L11.admitOut_perm ok h
 exact hp.mem_iff.2 (List.mem_cons_self ..)
theorem L12.come_in {s:L12} (ok:s.Ok) {k:Nat} (hk:k < 18446744073709551616) (h:k∉s.keys):k∈(s.adm k).keys:=(ok.adm' hk h).2.2.mem_iff.2 (List.mem_cons_self ..)
inductive PS where
 | lru (s:L8)
 | twoq (s:L9)
 | sthree (s:L10)
 | arc (s:L11)
 | lirs (s:L12)
namespace PS
def new:Nat->Int->PS
 | 1,n => .lru (L8.new n)
 | 2,n => .twoq (L9.new n)
 | 3,n => .sthree (L10.new n)
 | 4,n => .arc (L11.new n)
 | _,n => .lirs (L12.new n)
def tag:PS->Nat
 | .lru _=>1
 | .twoq _=>2
 | .sthree _=>3
 | .arc _=>4
 | .lirs _=>5
def keys:PS->List Nat
 | .lru s=>s.keys
 | .twoq s=>s.keys
 | .sthree s=>s.keys
 | .arc s=>s.keys
 | .lirs s=>s.keys
def ghosts:PS->Nat
 | .lru s=>s.ghosts
 | .twoq s=>s.ghosts
 | .sthree s=>s.ghosts
 | .arc s=>s.ghosts
 | .lirs s=>s.ghosts
def cap:PS->Nat
 | .lru s=>s.c
 | .twoq s=>s.c
 | .sthree s=>s.c
 | .arc s=>s.c
 | .lirs s=>s.c
def touch:PS->Nat->PS
 | .lru s,k => .lru (s.touch k)
 | .twoq s,k => .twoq (s.touch k)
 | .sthree s,k => .sthree (s.touch k)
 | .arc s,k => .arc (s.touch k)
 | .lirs s,k => .lirs (s.touch k)
def drop:PS->Nat->PS
 | .lru s,k => .lru (s.drop k)
 | .twoq s,k => .twoq (s.drop k)
 | .sthree s,k => .sthree (s.drop k)
 | .arc s,k => .arc (s.drop k)
 | .lirs s,k => .lirs (s.drop k)
def adm:PS->Nat->PS
 | .lru s,k => .lru (s.adm k)
 | .twoq s,k => .twoq (s.adm k)
 | .sthree s,k => .sthree (s.adm k)
 | .arc s,k => .arc (s.adm k)
 | .lirs s,k => .lirs (s.adm k)
def admOut:PS->Nat->List Nat
 | .lru s,k=>s.admitOut k
 | .twoq s,k=>s.admitOut k
 | .sthree s,k=>s.admitOut k
 | .arc s,k=>s.admitOut k
 | .lirs s,k=>s.admitOut k
def resize:PS->Int->PS
 | .lru s,n => .lru (s.resize n)
 | .twoq s,n => .twoq (s.resize n)
 | .sthree s,n => .sthree (s.resize n)
 | .arc s,n => .arc (s.resize n)
 | .lirs s,n => .lirs (s.resize n)
def resizeOut:PS->Int->List Nat
 | .lru s,n=>s.resizeOut n
 | .twoq s,n=>s.resizeOut n
 | .sthree s,n=>s.resizeOut n
 | .arc s,n=>s.resizeOut n
 | .lirs s,n=>s.resizeOut n
def act:PS->Act8->PS
 | .lru s,x => .lru (s.act x)
 | .twoq s,x => .twoq (s.act x)
 | .sthree s,x => .sthree (s.act x)
 | .arc s,x => .arc (s.act x)
 | .lirs s,x => .lirs (s.act x)
def actOut:PS->Act8->List Nat
 | .lru s,x=>s.actOut x
 | .twoq s,x=>s.actOut x
 | .sthree s,x=>s.actOut x
 | .arc s,x=>s.actOut x
 | .lirs s,x=>s.actOut x
def Ok:PS->Prop
 | .lru s=>s.Ok
 | .twoq s=>s.Ok
 | .sthree s=>s.Ok
 | .arc s=>s.Ok
 | .lirs s=>s.Ok
variable {s:PS}
theorem act_touch (s:PS) (k:Nat):s.act ⟨2,k,0⟩=s.touch k/\s.actOut ⟨2,k,0⟩=[]:=by cases s <;> exact ⟨rfl,rfl⟩
theorem act_adm (s:PS) (k:Nat):s.act ⟨3,k,0⟩=s.adm k/\s.actOut ⟨3,k,0⟩=s.admOut k:=by cases s <;> exact ⟨rfl,rfl⟩
theorem act_drop (s:PS) (k:Nat):s.act ⟨0,k,0⟩=s.drop k/\s.actOut ⟨0,k,0⟩=[]:=by cases s <;> exact ⟨rfl,rfl⟩
theorem size_of {n:Nat} (h1:1<=n) (h2:n<=14):sizeA ⟨1,0,n - 1⟩=n:=by show 1+(n - 1) % 14=n;omega
theorem act_resize (s:PS) {n:Nat} (h1:1<=n) (h2:n<=14):s.act ⟨1,0,n - 1⟩=s.resize (n:Nat)/\s.actOut ⟨1,0,n - 1⟩=s.resizeOut (n:Nat):=by
 have e:=size_of h1 h2
 have h:s.act ⟨1,0,n - 1⟩=s.resize (sizeA ⟨1,0,n - 1⟩:Nat)/\s.actOut ⟨1,0,n - 1⟩=s.resizeOut (sizeA ⟨1,0,n - 1⟩:Nat):=by cases s <;> exact ⟨rfl,rfl⟩
 rwa [e] at h
theorem Ok.act (h:s.Ok) {x:Act8} (wf:x.Ok):(s.act x).Ok:=by
 cases s
 ·exact L8.Ok.act h wf
 ·exact L9.Ok.act h wf
 ·exact L10.Ok.act h wf
 ·exact L11.Ok.act h wf
 ·exact L12.Ok.act h wf
theorem Ok.evs (h:s.Ok) {x:Act8} (wf:x.Ok):Evs s.keys (s.act x).keys (s.actOut x) (kindA x (decide (x.key∈s.keys))) x.key (sizeA x):=by
 cases s
 ·exact L8.Ok.evs h wf
 ·exact L9.Ok.evs h wf
 ·exact L10.Ok.evs h wf
 ·exact L11.Ok.evs h wf
 ·exact L12.Ok.evs h wf
theorem ok_new (p:Nat) (n:Int):(new p n).Ok:=by
 unfold new
 split
 ·exact L8.ok_new n
 ·exact L9.ok_new n
 ·exact L10.ok_new n
 ·exact L11.ok_new n
 ·exact L12.ok_new n
theorem Ok.nd (h:s.Ok):s.keys.Nodup:=by
 cases s
 ·exact L8.Ok.nd h
 ·exact (L9.Ok.fine h).keysNd
 ·exact (L10.Ok.fine h).keysNd
 ·exact (L11.Ok.fine h).keysNd
 ·exact (L12.Ok.fine h).keysNd
theorem Ok.pos (h:s.Ok):1<=s.cap:=by
 cases s
 ·exact L8.Ok.pos h
 ·exact L9.Ok.pos h
 ·exact L10.Ok.pos h
 ·exact L11.Ok.pos h
 ·exact L12.Ok.pos h
theorem Ok.capLe (h:s.Ok):s.cap<=1048576:=by
 cases s
 ·exact L8.Ok.cap h
 ·exact L9.Ok.cap h
 ·exact L10.Ok.cap h
 ·exact L11.Ok.cap h
 ·exact L12.Ok.cap h
theorem Ok.len (h:s.Ok):s.keys.length<=s.cap:=by
 cases s
 ·exact L8.Ok.len h
 ·have:=L9.Ok.len h
  show (_ ++ _:List Nat).length<=_
  rw [List.length_append]
  exact this
 ·have:=L10.Ok.len h
  show (L10.keys _).length<=_
  rw [L10.keys_len]
  exact this
 ·have:=L11.Ok.len h
  show (_ ++ _:List Nat).length<=_
  rw [List.length_append]
  exact this
 ·have:=L12.Ok.len h
  show (L12.keys _).length<=_
  rw [L12.keys_len]
  exact this
theorem come_in (h:s.Ok) {k:Nat} (hk:k < 18446744073709551616) (hn:k∉s.keys):k∈(s.adm k).keys:=by
 cases s
 ·exact L8.come_in hn
 ·exact L9.come_in hn
 ·exact L10.come_in hn
 ·exact L11.come_in h hn
 ·exact L12.come_in h hk hn
theorem sub_len:∀ (was is:List Nat),was.Nodup->(∀ a∈was,a∈is)->was.length<=is.length
 | [],_,_,_=>Nat.zero_le _
 | x :: t,is,h1,h2=>by
  obtain ⟨hx,ht⟩:=List.nodup_cons.1 h1
  have hin:=h2 x (List.mem_cons_self ..)
  have h3:=sub_len t (is.erase x) ht (fun a ha=>(List.mem_erase_of_ne (fun e:a=x=>hx (e ▸ ha))).2 (h2 a (List.mem_cons_of_mem _ ha)))
  have h4:=List.length_erase_of_mem hin
  have h5:=List.length_pos_of_mem hin
  rw [List.length_cons]
  omega
theorem sub_eq {is was:List Nat} (h1:was.Nodup) (h3:∀ a∈was,a∈is) (h4:is.length=was.length):∀ a,a∈is ↔ a∈was:=fun a=>⟨fun ha=>by
 refine Decidable.byContradiction (fun hn=>?_)
 have h5:=sub_len (a :: was) is (List.nodup_cons.2 ⟨hn,h1⟩) (fun b hb=>by
  rcases List.mem_cons.1 hb with rfl | hb
  ·exact ha
  ·exact h3 b hb)
 rw [List.length_cons] at h5
 omega,h3 a⟩
theorem Ok.touch (h:s.Ok) {k:Nat} (hk:k < 18446744073709551616):(s.touch k).Ok/\(∀ a,a∈(s.touch k).keys ↔ a∈s.keys)/\(s.touch k).keys.length=s.keys.length:=by
 have wf:(⟨2,k,0⟩:Act8).Ok:=⟨by show 2 < 256;decide,hk,by show 0 < 65536;decide⟩
 have h1:=h.act wf
 have h2:=h.evs wf
 obtain ⟨e1,e2⟩:=act_touch s k
 rw [e1] at h1 h2
 rw [e2] at h2
 have hq:kindA ⟨2,k,0⟩ (decide (k∈s.keys))=1:=rfl
 have h4:=h2.e4
 simp only [hq,List.length_nil] at h4
 have hl:(s.touch k).keys.length=s.keys.length:=by simp at h4;omega
 refine ⟨h1,sub_eq h.nd (fun a ha=>?_) hl,hl⟩
 rcases h2.e2 a ha with h5 | h5 | ⟨h5,-⟩
 ·exact absurd h5 (by simp)
 ·exact h5
 ·rw [hq] at h5;cases h5
theorem Ok.drop (h:s.Ok) {k:Nat} (hk:k < 18446744073709551616):(s.drop k).Ok/\(∀ a∈s.keys,a∈(s.drop k).keys∨a=k)/\(s.drop k).keys.length=if k∈s.keys then s.keys.length - 1 else s.keys.length:=by
 have wf:(⟨0,k,0⟩:Act8).Ok:=⟨by show 0 < 256;decide,hk,by show 0 < 65536;decide⟩
 have h1:=h.act wf
 have h2:=h.evs wf
 obtain ⟨e1,e2⟩:=act_drop s k
 rw [e1] at h1 h2
 rw [e2] at h2
 have hq:kindA ⟨0,k,0⟩ (decide (k∈s.keys))=3:=rfl
 have h4:=h2.e4
 simp only [hq,List.length_nil] at h4
 refine ⟨h1,fun a ha=>?_,?_⟩
 ·rcases h2.e2 a ha with h5 | h5 | ⟨-,h5⟩
  ·exact absurd h5 (by simp)
  ·exact .inl h5
  ·exact .inr h5
 ·by_cases hin:k∈s.keys
  ·have:=List.length_pos_of_mem hin
   simp [hin] at h4 ⊢
   omega
  ·simp [hin] at h4 ⊢
   omega
theorem Ok.adm (h:s.Ok) {k:Nat} (hk:k < 18446744073709551616) (hn:k∉s.keys):(s.adm k).Ok/\(∀ a,a∈(s.adm k).keys ↔ a=k∨a∈s.keys/\a∉s.admOut k)/\(∀ a∈s.admOut k,a∈s.keys)/\(s.admOut k).Nodup/\(s.adm k).keys.length+(s.admOut k).length=s.keys.length+1:=by
 have wf:(⟨3,k,0⟩:Act8).Ok:=⟨by show 3 < 256;decide,hk,by show 0 < 65536;decide⟩
 have h1:=h.act wf
 have h2:=h.evs wf
 obtain ⟨e1,e2⟩:=act_adm s k
 rw [e1] at h1 h2
 rw [e2] at h2
 have hq:kindA ⟨3,k,0⟩ (decide (k∈s.keys))=2:=rfl
 have h4:((s.adm k).keys.length:Int)=(s.keys.length:Int) - ((s.admOut k).length:Int)+(if 2=2/\k∉s.keys then 1 else 0) - (if 2=3/\k∈s.keys then 1 else 0):=h2.e4
 simp [hn] at h4
 have hc:=come_in h hk hn
 have hl:(s.adm k).keys.length+(s.admOut k).length=s.keys.length+1:=by omega
 have hkeep:∀ a∈s.keys,a∉s.admOut k->a∈(s.adm k).keys:=fun a ha ho=>by
  rcases h2.e2 a ha with h5 | h5 | ⟨h5,-⟩
  ·exact absurd h5 ho
  ·exact h5
  ·rw [hq] at h5;cases h5
 have hne:∀ a∈s.admOut k,a∈s.keys/\a∉(s.adm k).keys:=h2.e1
 have hsmall:(k :: s.keys).Nodup:=List.nodup_cons.2 ⟨hn,h.nd⟩
 have hset:=sub_eq (is:=(s.adm k).keys ++ s.admOut k) hsmall (fun a ha=>by
  rcases List.mem_cons.1 ha with rfl | ha
  ·exact List.mem_append_left _ hc
  ·by_cases ho:a∈s.admOut k
   ·exact List.mem_append_right _ ho
   ·exact List.mem_append_left _ (hkeep a ha ho)) (by rw [List.length_append,List.length_cons];exact hl)
 refine ⟨h1,fun a=>⟨fun ha=>?_,fun ha=>?_⟩,fun a ha=>(hne a ha).1,h2.e3,hl⟩
 ·rcases List.mem_cons.1 ((hset a).1 (List.mem_append_left _ ha)) with e | h5
  ·exact .inl e
  ·exact .inr ⟨h5,fun ho=>(hne a ho).2 ha⟩
 ·rcases ha with rfl | ⟨h5,h6⟩
  ·exact hc
  ·exact hkeep a h5 h6
theorem Ok.resize (h:s.Ok) {n:Nat} (h1:1<=n) (hn:n<=14):(s.resize (n:Nat)).Ok/\(∀ a,a∈(s.resize (n:Nat)).keys ↔ a∈s.keys/\a∉s.resizeOut (n:Nat))/\(∀ a∈s.resizeOut (n:Nat),a∈s.keys)/\(s.resizeOut (n:Nat)).Nodup/\(s.resize (n:Nat)).keys.length+(s.resizeOut (n:Nat)).length=s.keys.length:=by
 have wf:(⟨1,0,n - 1⟩:Act8).Ok:=⟨by show 1 < 256;decide,by show 0 < 18446744073709551616;decide,by show n - 1 < 65536;omega⟩
 have h2:=h.act wf
 have h3:=h.evs wf
 obtain ⟨e1,e2⟩:=act_resize s h1 hn
 rw [e1] at h2 h3
 rw [e2] at h3
 have hq:kindA ⟨1,0,n - 1⟩ (decide (0∈s.keys))=4:=rfl
 have h4:((s.resize (n:Nat)).keys.length:Int)=(s.keys.length:Int) - ((s.resizeOut (n:Nat)).length:Int)+(if 4=2/\0∉s.keys then 1 else 0) - (if 4=3/\0∈s.keys then 1 else 0):=h3.e4
 simp at h4
 have hl:(s.resize (n:Nat)).keys.length+(s.resizeOut (n:Nat)).length=s.keys.length:=by omega
 have hne:=h3.e1
 have hkeep:∀ a∈s.keys,a∉s.resizeOut (n:Nat)->a∈(s.resize (n:Nat)).keys:=fun a ha ho=>by
  rcases h3.e2 a ha with h5 | h5 | ⟨h5,-⟩
  ·exact absurd h5 ho
  ·exact h5
  ·rw [hq] at h5;cases h5
 have hset:=sub_eq (is:=(s.resize (n:Nat)).keys ++ s.resizeOut (n:Nat)) h.nd (fun a ha=>by
  by_cases ho:a∈s.resizeOut (n:Nat)
  ·exact List.mem_append_right _ ho
  ·exact List.mem_append_left _ (hkeep a ha ho)) (by rw [List.length_append];exact hl)
 refine ⟨h2,fun a=>⟨fun ha=>⟨(hset a).1 (List.mem_append_left _ ha),fun ho=>(hne a ho).2 ha⟩,fun ha=>hkeep a ha.1 ha.2⟩,fun a ha=>(hne a ha).1,h3.e3,hl⟩
end PS
abbrev Prs:=List (Nat × Nat)
def keysP (l:Prs):List Nat:=l.map Prod.fst
def valP (k:Nat):Prs->Nat
 | []=>0
 | p :: l=>if p.1=k then p.2 else valP k l
def woP (k:Nat) (l:Prs):Prs:=l.filter (fun p=>p.1 != k)
def setP (k v:Nat) (l:Prs):Prs:=l.map (fun p=>if p.1=k then (p.1,v) else p)
def stayP (l:Prs):List Nat->Prs
 | []=>l
 | k :: ks=>stayP (woP k l) ks
def wentP (l:Prs):List Nat->Prs
 | []=>[]
 | k :: ks=>(k,valP k l) :: wentP (woP k l) ks
variable {l:Prs} {k v a:Nat}
theorem keysP_wo:keysP (woP k l)=wo k (keysP l):=by
 unfold keysP woP wo
 rw [List.filter_map]
 rfl
theorem keysP_set:keysP (setP k v l)=keysP l:=by
 unfold keysP setP
 rw [List.map_map]
 refine List.map_congr_left (fun p _=>?_)
 simp only [Function.comp]
 split <;> rfl
theorem keysP_append (l m:Prs):keysP (l ++ m)=keysP l ++ keysP m:=List.map_append
theorem keysP_len (l:Prs):(keysP l).length=l.length:=List.length_map ..
theorem stayP_keys:∀ (ks:List Nat) (l:Prs),(keysP l).Nodup->(keysP (stayP l ks)).Nodup/\∀ a,a∈keysP (stayP l ks) ↔ a∈keysP l/\a∉ks
 | [],l,h=>⟨h,fun a=>by simp [stayP]⟩
 | k :: ks,l,h=>by
  have h2:(keysP (woP k l)).Nodup:=by rw [keysP_wo];exact wo_nodup h k
  obtain ⟨h3,h4⟩:=stayP_keys ks (woP k l) h2
  refine ⟨h3,fun a=>?_⟩
  show a∈keysP (stayP (woP k l) ks) ↔ _
  rw [h4,keysP_wo,wo_mem]
  simp only [List.mem_cons,not_or]
  exact ⟨fun ⟨⟨h5,h6⟩,h7⟩=>⟨h5,h6,h7⟩,fun ⟨h5,h6,h7⟩=>⟨⟨h5,h6⟩,h7⟩⟩
theorem stayP_sub:∀ (ks:List Nat) (l:Prs), ∀ p∈stayP l ks,p∈l
 | [],_,_,h=>h
 | k :: ks,l,p,h=>(List.mem_filter.1 (stayP_sub ks (woP k l) p h)).1
theorem stayP_is:∀ (ks:List Nat) (l:Prs),stayP l ks=l.filter (fun p=>decide (p.1∉ks))
 | [],l=>(List.filter_eq_self.2 (fun _ _=>by simp)).symm
 | k :: ks,l=>by
  rw [stayP,stayP_is ks,woP,List.filter_filter]
  refine List.filter_congr (fun p _=>?_)
  by_cases h:p.1=k <;> simp [h]
theorem wentP_len:∀ (ks:List Nat) (l:Prs),(wentP l ks).length=ks.length
 | [],_=>rfl
 | k :: ks,l=>by rw [wentP,List.length_cons,wentP_len ks,List.length_cons]
theorem valP_wo {b:Nat} (h:b≠k):valP b (woP k l)=valP b l:=by
 induction l with
 | nil=>rfl
 | cons p l ih =>
  unfold woP at ih ⊢
  by_cases e:p.1=k
  ·rw [List.filter_cons_of_neg (by simp [e]),ih,valP,if_neg (by rw [e];exact fun h2=>h h2.symm)]
  ·rw [List.filter_cons_of_pos (by simp [e]),valP,valP,ih]
theorem wentP_is:∀ (ks:List Nat) (l:Prs),ks.Nodup->wentP l ks=ks.map (fun k=>(k,valP k l))
 | [],_,_=>rfl
 | k :: ks,l,h=>by
  obtain ⟨h1,h2⟩:=List.nodup_cons.1 h
  rw [wentP,wentP_is ks _ h2,List.map_cons]
  congr 1
  refine List.map_congr_left (fun b hb=>?_)
  rw [valP_wo (fun e:b=k=>h1 (e ▸ hb))]
structure Op13 where
 kind:Int
 key:Nat
 val:Nat
 n:Int
structure Op13.Ok (o:Op13):Prop where
 kind1 : -9223372036854775808<=o.kind
 kind2:o.kind<=9223372036854775807
 key:o.key < 18446744073709551616
 val:o.val < 18446744073709551616
 n1 : -9223372036854775808<=o.n
 n2:o.n<=9223372036854775807
def Op13.Small (o:Op13):Prop:=¬ (14 < o.n/\o.n<=1048576)
structure An13 where
 hit:Bool
 val:Nat
 n:Nat
 err:Nat
 out:Prs
structure M13 where
 ps:PS
 prs:Prs
 hits:Nat
 misses:Nat
 ev:Nat
namespace M13
def new (p:Nat) (n:Int):M13:=⟨PS.new p n,[],0,0,0⟩
def keys (m:M13):List Nat:=m.ps.keys
def may (n:Int):Prop:=1<=n/\n<=1048576
instance (n:Int):Decidable (may n):=inferInstanceAs (Decidable (_/\_))
def step (m:M13) (o:Op13):M13 :=
 if o.kind=1 then if o.key∈m.keys then ⟨m.ps.touch o.key,m.prs,m.hits+1,m.misses,m.ev⟩ else ⟨m.ps,m.prs,m.hits,m.misses+1,m.ev⟩
 else if o.kind=2 then if o.key∈m.keys then ⟨m.ps.touch o.key,setP o.key o.val m.prs,m.hits,m.misses,m.ev⟩ else ⟨m.ps.adm o.key,stayP m.prs (m.ps.admOut o.key) ++ [(o.key,o.val)],m.hits,m.misses,m.ev+(m.ps.admOut o.key).length⟩
 else if o.kind=3 then ⟨m.ps.drop o.key,woP o.key m.prs,m.hits,m.misses,m.ev⟩
 else if o.kind=4 then if may o.n then ⟨m.ps.resize o.n,stayP m.prs (m.ps.resizeOut o.n),m.hits,m.misses,m.ev+(m.ps.resizeOut o.n).length⟩ else m
 else m
def ans (m:M13) (o:Op13):An13 :=
 if o.kind=1 then if o.key∈m.keys then ⟨true,valP o.key m.prs,0,0,[]⟩ else ⟨false,0,0,0,[]⟩
 else if o.kind=2 then if o.key∈m.keys then ⟨true,valP o.key m.prs,0,0,[]⟩ else ⟨false,0,0,0,wentP m.prs (m.ps.admOut o.key)⟩
 else if o.kind=3 then ⟨decide (o.key∈m.keys),valP o.key m.prs,0,0,[]⟩
 else if o.kind=4 then if may o.n then ⟨false,0,0,0,wentP m.prs (m.ps.resizeOut o.n)⟩ else ⟨false,0,0,1,[]⟩
 else if o.kind=5 then ⟨false,0,m.keys.length,0,[]⟩
 else ⟨false,0,0,2,[]⟩
structure Ok (m:M13):Prop where
 ps:m.ps.Ok
 nd:(keysP m.prs).Nodup
 same:∀ a,a∈keysP m.prs ↔ a∈m.keys
 bd:∀ p∈m.prs,p.1 < 18446744073709551616/\p.2 < 18446744073709551616
theorem ok_new (p:Nat) (n:Int):(new p n).Ok:=⟨PS.ok_new p n,List.nodup_nil,fun a=>by
 have h:(PS.new p n).keys=[]:=by
  unfold PS.new
  split <;> rfl
 show a∈[] ↔ a∈(PS.new p n).keys
 rw [h],fun p hp=>by cases hp⟩
variable {m:M13} {o:Op13}
theorem Ok.len (h:m.Ok):m.prs.length=m.keys.length:=by
 rw [<- keysP_len]
 exact Nat.le_antisymm (PS.sub_len _ _ h.nd (fun a ha=>(h.same a).1 ha)) (PS.sub_len _ _ h.ps.nd (fun a ha=>(h.same a).2 ha))
theorem Ok.lenCap (h:m.Ok):m.prs.length<=m.ps.cap:=by rw [h.len];exact h.ps.len
theorem Ok.step (h:m.Ok) (ho:o.Ok) (hs:o.Small):(m.step o).Ok:=by
 have hk:=ho.key
 unfold M13.step
 split
 ·split
  ·obtain ⟨h1,h2,-⟩:=h.ps.touch hk
   exact ⟨h1,h.nd,fun a=>(h.same a).trans (h2 a).symm,h.bd⟩
  ·exact ⟨h.ps,h.nd,h.same,h.bd⟩
 ·split
  ·split
   ·obtain ⟨h1,h2,-⟩:=h.ps.touch hk
    refine ⟨h1,?_,fun a=>?_,fun p hp=>?_⟩
    ·show (keysP (setP _ _ _)).Nodup
     rw [keysP_set]
     exact h.nd
    ·show a∈keysP (setP _ _ _) ↔ _
     rw [keysP_set]
     exact (h.same a).trans (h2 a).symm
    ·obtain ⟨q,hq,rfl⟩:=List.mem_map.1 hp
     split
     ·exact ⟨(h.bd q hq).1,ho.val⟩
     ·exact h.bd q hq
   ·rename_i hn
    obtain ⟨h1,h2,h3,-,-⟩:=h.ps.adm hk hn
    obtain ⟨h4,h5⟩:=stayP_keys (m.ps.admOut o.key) m.prs h.nd
    have hne:o.key∉keysP (stayP m.prs (m.ps.admOut o.key)):=fun hm=>hn ((h.same _).1 ((h5 _).1 hm).1)
    refine ⟨h1,?_,fun a=>?_,fun p hp=>?_⟩
    ·show (keysP (_ ++ [(o.key,o.val)])).Nodup
     rw [keysP_append]
     refine List.nodup_append.2 ⟨h4,by simp [keysP],fun a ha b hb e=>?_⟩
     have hb':b=o.key:=by simpa [keysP] using hb
     have e2:a=o.key:=e.trans hb'
     rw [e2] at ha
     exact hne ha
    ·show a∈keysP (_ ++ [(o.key,o.val)]) ↔ a∈(m.ps.adm o.key).keys
     rw [keysP_append,List.mem_append,h5,h2,h.same]
     have h6:a∈keysP [(o.key,o.val)] ↔ a=o.key:=by simp [keysP]
     rw [h6]
     exact Or.comm
    ·rcases List.mem_append.1 hp with hp | hp
     ·exact h.bd p (stayP_sub _ _ p hp)
     ·rw [List.mem_singleton.1 hp]
      exact ⟨hk,ho.val⟩
  ·split
   ·obtain ⟨h1,h2,h3⟩:=h.ps.drop hk
    have hset:∀ a,a∈(m.ps.drop o.key).keys ↔ a∈wo o.key m.keys:=by
     refine PS.sub_eq (wo_nodup h.ps.nd _) (fun a ha=>?_) ?_
     ·obtain ⟨h4,h5⟩:=wo_mem.1 ha
      exact (h2 a h4).resolve_right h5
     ·rw [h3]
      exact (wo_count8 h.ps.nd o.key).symm
    refine ⟨h1,?_,fun a=>?_,fun p hp=>h.bd p (List.mem_filter.1 hp).1⟩
    ·show (keysP (woP _ _)).Nodup
     rw [keysP_wo]
     exact wo_nodup h.nd _
    ·show a∈keysP (woP _ _) ↔ a∈(m.ps.drop o.key).keys
     rw [keysP_wo,hset,wo_mem,wo_mem,h.same]
   ·split
    ·split
     ·rename_i hm
      obtain ⟨n,hn⟩:∃ n:Nat,o.n=(n:Nat):=⟨o.n.toNat,by have:=hm.1;omega⟩
      have h14:n<=14:=by
       unfold Op13.Small at hs
       have:=hm.2
       omega
      have h01:1<=n:=by have:=hm.1;omega
      rw [hn]
      obtain ⟨h1,h2,-,-,-⟩:=h.ps.resize h01 h14
      obtain ⟨h4,h5⟩:=stayP_keys (m.ps.resizeOut (n:Nat)) m.prs h.nd
      refine ⟨h1,h4,fun a=>?_,fun p hp=>h.bd p (stayP_sub _ _ p hp)⟩
      show a∈keysP (stayP _ _) ↔ a∈(m.ps.resize (n:Nat)).keys
      rw [h5,h2,h.same]
      rfl
     ·exact h
    ·exact h
def run (m:M13) (l:List Op13):M13:=l.foldl M13.step m
theorem run_next (m:M13) {l:List Op13} {i:Nat} (hi:i < l.length):m.run (l.take (i+1))=(m.run (l.take i)).step l[i]:=by
 unfold M13.run
 rw [List.take_succ_eq_append_getElem hi,List.foldl_append]
 rfl
theorem Ok.run {m:M13} (h:m.Ok):∀ (l:List Op13),(∀ o∈l,o.Ok/\o.Small)->(m.run l).Ok
 | [],_=>h
 | o :: l,hl=>Ok.run (h.step (hl o (by simp)).1 (hl o (by simp)).2) l (fun x hx=>hl x (by simp [hx]))
theorem idle (m:M13) (h:o.kind < 1∨5<=o.kind∨o.kind=4/\¬ may o.n):m.step o=m/\(m.ans o).out=[]/\(m.ans o).hit=false:=by
 unfold M13.step M13.ans
 rcases h with h | h | ⟨h,h2⟩
 ·rw [if_neg (by omega),if_neg (by omega),if_neg (by omega),if_neg (by omega),if_neg (by omega),if_neg (by omega),if_neg (by omega),if_neg (by omega),if_neg (by omega)]
  exact ⟨rfl,rfl,rfl⟩
 ·rw [if_neg (by omega),if_neg (by omega),if_neg (by omega),if_neg (by omega),if_neg (by omega),if_neg (by omega),if_neg (by omega),if_neg (by omega)]
  refine ⟨rfl,?_,?_⟩ <;> split <;> rfl
 ·rw [if_neg (by omega),if_neg (by omega),if_neg (by omega),if_pos h,if_neg h2,if_neg (by omega),if_neg (by omega),if_neg (by omega),if_pos h,if_neg h2]
  exact ⟨rfl,rfl,rfl⟩
theorem counts (m:M13) (o:Op13):(m.step o).hits=m.hits+(if o.kind=1/\(m.ans o).hit=true then 1 else 0)/\(m.step o).misses=m.misses+(if o.kind=1/\(m.ans o).hit=false then 1 else 0)/\(m.step o).ev=m.ev+(m.ans o).out.length:=by
 unfold M13.step M13.ans
 by_cases h1:o.kind=1
 ·rw [if_pos h1,if_pos h1]
  split <;> simp [h1]
 ·rw [if_neg h1,if_neg h1]
  split
  ·split <;> simp [h1,wentP_len]
  ·split
   ·simp [h1]
   ·split
    ·split <;> simp [h1,wentP_len]
    ·split <;> simp [h1]
end M13
end Go.Proofs.YtcpggonengkgiaaGreatDoor
namespace Go.Proofs.YtcpggonengkgiaaGreatDoor
open Go Go.RowKit Go.Deep
theorem L8.touch_out {s:L8} {k:Nat} (h:k∉s.keys):s.touch k=s:=if_neg h
theorem L9.touch_out {s:L9} {k:Nat} (h:k∉s.keys):s.touch k=s:=if_neg (fun h2=>h (List.mem_append_right _ h2))
theorem usI_out {k:Nat} {l:List It} (h:k∉keysI l):usI k l=l:=by
 refine (List.map_congr_left (g:=id) (fun x hx=>?_)).trans (List.map_id l)
 rw [if_neg (fun h2:x.key=k/\x.f < 3=>h (h2.1 ▸ List.mem_map_of_mem hx))]
 rfl
theorem L10.touch_out {s:L10} {k:Nat} (h:k∉s.keys):s.touch k=s:=by
 unfold L10.touch
 rw [usI_out (fun h2=>h (List.mem_append_left _ h2)),usI_out (fun h2=>h (List.mem_append_right _ h2))]
theorem L11.touch_out {s:L11} {k:Nat} (h:k∉s.keys):s.touch k=s:=if_neg h
theorem L12.touch_out {s:L12} {k:Nat} (h:k∉s.keys):s.touch k=s:=by
 have h2:¬ (0 < ct k 2 s.s+s.q.count k):=fun h2=>h (L12.keys_in.2 h2)
 unfold L12.touch
 rw [if_neg (by omega),if_pos (fun h3=>h2 (by have:=L12.q_in.1 h3;omega))]
theorem L8.own {s:L8} (h:s.Ok):s.resize (s.c:Nat)=s/\s.resizeOut (s.c:Nat)=[]:=by
 unfold L8.resize L8.resizeOut
 rw [capI_nat s.c h.pos h.cap,List.take_of_length_le h.len,List.drop_of_length_le h.len]
 exact ⟨rfl,rfl⟩
theorem L9.own {s:L9} (h:s.Ok):s.resize (s.c:Nat)=s/\s.resizeOut (s.c:Nat)=[]:=by
 have hm:s.many s.c=0:=by have:=h.len;unfold L9.many;omega
 unfold L9.resize L9.resizeOut
 rw [capI_nat s.c h.pos h.cap]
 have e:s.sized s.c=s:=rfl
 rw [e]
 unfold L9.shr L9.shrOut L9.li L9.lm
 rw [hm]
 have e2:rcI (kin9 s.c) 0 s.inn.length s.main.length=s.inn.length:=rfl
 have e3:rcM (kin9 s.c) 0 s.inn.length s.main.length=s.main.length:=rfl
 rw [e2,e3,List.take_length,List.take_length,List.drop_length,List.nil_append,List.take_of_length_le h.olen]
 exact ⟨rfl,rfl⟩
theorem L10.own {s:L10} (h:s.Ok):s.resize (s.c:Nat)=s/\s.resizeOut (s.c:Nat)=[]:=by
 have hm:s.total - s.c=0:=by have:=h.len;omega
 unfold L10.resize L10.resizeOut
 rw [capI_nat s.c h.pos h.cap]
 have e:s.sized s.c=s:=rfl
 rw [e]
 unfold L10.shr L10.shrOut
 rw [hm]
 refine ⟨?_,rfl⟩
 show L10.fall s=s
 unfold L10.fall
 rw [List.take_of_length_le h.glen]
theorem L11.own {s:L11} (h:s.Ok):s.resize (s.c:Nat)=s/\s.resizeOut (s.c:Nat)=[]:=by
 have hm:s.many s.c=0:=by have:=h.len;unfold L11.many;omega
 unfold L11.resize L11.resizeOut
 rw [capI_nat s.c h.pos h.cap]
 have e:s.sized s.c=s:=by
  unfold L11.sized
  rw [Nat.min_eq_left h.pc]
 rw [e]
 have e4:s.cut s.c false=s:=by
  unfold L11.cut L11.li L11.lm
  rw [hm]
  have e2:cuI s.p false 0 s.t1.length s.t2.length=s.t1.length:=rfl
  have e3:cuM s.p false 0 s.t1.length s.t2.length=s.t2.length:=rfl
  rw [e2,e3,List.take_length,List.take_length,List.drop_length,List.drop_length]
  rfl
 rw [e4]
 refine ⟨?_,?_⟩
 ·have h1:=h.one
  have h2:=h.gone
  unfold L11.fall
  rw [List.take_of_length_le (l:=s.b1) (by omega),List.take_of_length_le (by omega)]
 ·unfold L11.cutOut
  rw [hm]
  rfl
theorem L12.own {s:L12} (h:s.Ok):s.resize (s.c:Nat)=s/\s.resizeOut (s.c:Nat)=[]:=by
 unfold L12.resize L12.resizeOut
 rw [capI_nat s.c h.pos h.cap]
 have e:s.sized s.c=s:=rfl
 have e2:s.cool=s:=by
  unfold L12.cool
  have:=h.hot
  rw [show nk 2 s.s - roomH s.c=0 by omega]
  rfl
 have hm:s.many s.c=0:=by have:=h.len;unfold L12.many;omega
 rw [e,e2]
 have e3:s.shrink s.c=s:=by
  unfold L12.shrink
  rw [hm]
  rfl
 have e4:s.prune=s:=by
  unfold L12.prune
  rw [h.top]
 have e5:s.forget=s:=by
  unfold L12.forget
  have:=h.gone
  rw [show nk 0 s.s - s.c=0 by omega]
  rfl
 rw [e3,e4,e5]
 refine ⟨rfl,?_⟩
 unfold L12.shrinkOut
 rw [hm]
 rfl
namespace PS
variable {s:PS}
theorem touch_out {k:Nat} (h:k∉s.keys):s.touch k=s:=by
 cases s
 ·exact congrArg PS.lru (L8.touch_out h)
 ·exact congrArg PS.twoq (L9.touch_out h)
 ·exact congrArg PS.sthree (L10.touch_out h)
 ·exact congrArg PS.arc (L11.touch_out h)
 ·exact congrArg PS.lirs (L12.touch_out h)
theorem own (h:s.Ok):s.resize (s.cap:Nat)=s/\s.resizeOut (s.cap:Nat)=[]:=by
 cases s
 ·exact ⟨congrArg PS.lru (L8.own h).1,(L8.own h).2⟩
 ·exact ⟨congrArg PS.twoq (L9.own h).1,(L9.own h).2⟩
 ·exact ⟨congrArg PS.sthree (L10.own h).1,(L10.own h).2⟩
 ·exact ⟨congrArg PS.arc (L11.own h).1,(L11.own h).2⟩
 ·exact ⟨congrArg PS.lirs (L12.own h).1,(L12.own h).2⟩
end PS
namespace M13
variable {m:M13} {o:Op13}
structure Low (m:M13) (k:Nat):Prop where
 hi:m.hits<=k
 mi:m.misses<=k
 ev:m.ev<=k * 2000000
theorem Ok.out (h:m.Ok) (ho:o.Ok) (hs:o.Small):(m.ans o).out.length<=2000000:=by
 have hc:=h.ps.capLe
 have hl:=h.ps.len
 unfold M13.ans
 split
 ·split <;> exact Nat.zero_le _
 ·split
  ·split
   ·exact Nat.zero_le _
   ·rename_i hn
    obtain ⟨-,-,-,-,h5⟩:=h.ps.adm ho.key hn
    show (wentP _ _).length<=_
    rw [wentP_len]
    omega
  ·split
   ·exact Nat.zero_le _
   ·split
    ·split
     ·rename_i hm
      obtain ⟨n,hn⟩:∃ n:Nat,o.n=(n:Nat):=⟨o.n.toNat,by have:=hm.1;omega⟩
      have h14:n<=14:=by
       unfold Op13.Small at hs
       have:=hm.2
       omega
      have h01:1<=n:=by have:=hm.1;omega
      rw [hn]
      obtain ⟨-,-,-,-,h5⟩:=h.ps.resize h01 h14
      show (wentP _ _).length<=_
      rw [wentP_len]
      omega
     ·exact Nat.zero_le _
    ·split <;> exact Nat.zero_le _
theorem Low.step {k:Nat} (h:m.Low k) (hm:m.Ok) (ho:o.Ok) (hs:o.Small):(m.step o).Low (k+1):=by
 obtain ⟨h1,h2,h3⟩:=counts m o
 have h4:=hm.out ho hs
 obtain ⟨a1,a2,a3⟩:=h
 refine ⟨?_,?_,?_⟩
 ·rw [h1];split <;> omega
 ·rw [h2];split <;> omega
 ·rw [h3];omega
theorem low_new (p:Nat) (n:Int):(new p n).Low 0:=⟨Nat.le_refl _,Nat.le_refl _,Nat.zero_le _⟩
theorem Low.mono {k j:Nat} (h:m.Low k) (hk:k<=j):m.Low j:=⟨Nat.le_trans h.hi hk,Nat.le_trans h.mi hk,Nat.le_trans h.ev (Nat.mul_le_mul_right _ hk)⟩
theorem Ok.runLow {m:M13} (h:m.Ok):∀ (l:List Op13) (k:Nat),m.Low k->(∀ o∈l,o.Ok/\o.Small)->(m.run l).Low (k+l.length)
 | [],_,hk,_=>hk
 | o :: l,k,hk,hl=>by
  have h1:=hl o (by simp)
  have:=Ok.runLow (h.step h1.1 h1.2) l (k+1) (hk.step h h1.1 h1.2) (fun x hx=>hl x (by simp [hx]))
  rw [List.length_cons,show k+(l.length+1)=k+1+l.length by omega]
  exact this
end M13
end Go.Proofs.YtcpggonengkgiaaGreatDoor
