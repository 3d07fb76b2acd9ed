/- Words and walks: LrP LrB LrO LrR LrZ LrX. -/
import Derived.Test.YtcpggonengkgiaaGreatDoorG2
import Derived.Test.YtcpggonengkgiaaGreatDoorG3
namespace Go.Proofs.YtcpggonengkgiaaGreatDoor
open Go Go.RowKit Go.Deep
structure L8 where
 c:Nat
 l:List Nat
namespace L8
def keys (s:L8):List Nat:=s.l
def ghosts (_:L8):Nat:=0
def new (n:Int):L8:=⟨capI n,[]⟩
def touch (s:L8) (k:Nat):L8:=if k∈s.l then ⟨s.c,fr k s.l⟩ else s
def adm (s:L8) (k:Nat):L8:=if k∈s.l then s else ⟨s.c,fr k (s.l.take (s.c - 1))⟩
def admitOut (s:L8) (k:Nat):List Nat:=if k∈s.l then [] else (s.l.drop (s.c - 1)).reverse
def drop (s:L8) (k:Nat):L8:=⟨s.c,wo k s.l⟩
def resize (s:L8) (n:Int):L8:=⟨capI n,s.l.take (capI n)⟩
def resizeOut (s:L8) (n:Int):List Nat:=(s.l.drop (capI n)).reverse
def act (s:L8) (x:Act8):L8:=match kindA x (decide (x.key∈s.keys)) with
 | 1=>s.touch x.key
 | 2=>s.adm x.key
 | 3=>s.drop x.key
 | _=>s.resize (sizeA x:Nat)
def actOut (s:L8) (x:Act8):List Nat:=match kindA x (decide (x.key∈s.keys)) with
 | 1=>[]
 | 2=>s.admitOut x.key
 | 3=>[]
 | _=>s.resizeOut (sizeA x:Nat)
structure Ok (s:L8):Prop where
 pos:1<=s.c
 cap:s.c<=1048576
 nd:s.l.Nodup
 len:s.l.length<=s.c
 key:∀ k∈s.l,k < 18446744073709551616
end L8
theorem wo_mem {ks:List Nat} {k x:Nat}:x∈wo k ks ↔ x∈ks/\x≠k:=by simp [wo]
theorem fr_mem {ks:List Nat} {k x:Nat}:x∈fr k ks ↔ x=k∨x∈ks/\x≠k:=by simp [fr,wo_mem]
theorem wo_lt {ks:List Nat} {k:Nat} (h:k∈ks):(wo k ks).length < ks.length:=by
 unfold wo
 exact List.length_filter_lt_length_iff_exists.2 ⟨k,h,by simp⟩
theorem take_nodup {ks:List Nat} (h:ks.Nodup) (n:Nat):(ks.take n).Nodup:=h.sublist (List.take_sublist n ks)
theorem fr_len_in {ks:List Nat} {k:Nat} (h:k∈ks):(fr k ks).length<=ks.length:=by
 have:=wo_lt h
 simp [fr]
 omega
theorem wo_count8 {ks:List Nat} (h:ks.Nodup) (k:Nat):(wo k ks).length=if k∈ks then ks.length - 1 else ks.length:=by
 have e:wo k ks=ks.erase k:=(List.Nodup.erase_eq_filter h k).symm
 rw [e,List.length_erase]
theorem wo_none8 {ks:List Nat} {k:Nat} (h:k∉ks):wo k ks=ks:=by
 unfold wo
 refine List.filter_eq_self.2 (fun a ha=>?_)
 simp only [bne_iff_ne,ne_eq]
 rintro rfl
 exact h ha
namespace L8
variable {s:L8}
theorem Ok.keysLen (h:s.Ok):s.keys.length<=100000000:=by have:=h.len;have:=h.cap;unfold L8.keys;omega
theorem Ok.hl (h:s.Ok):s.l.length<=100000000:=by have:=h.len;have:=h.cap;omega
theorem ok_new (n:Int):(new n).Ok:=⟨(capI_pos n).1,(capI_pos n).2,List.nodup_nil,by simp [new],fun k hk=>by simp [new] at hk⟩
theorem Ok.touch (h:s.Ok) (k:Nat):(s.touch k).Ok:=by
 unfold L8.touch
 split
 ·rename_i hk
  exact ⟨h.pos,h.cap,fr_nodup h.nd k,Nat.le_trans (fr_len_in hk) h.len,fun x hx=>by
   rcases fr_mem.1 hx with rfl | hx
   ·exact h.key _ hk
   ·exact h.key x hx.1⟩
 ·exact h
theorem Ok.adm (h:s.Ok) (k:Nat) (hk:k < 18446744073709551616):(s.adm k).Ok:=by
 unfold L8.adm
 split
 ·exact h
 ·have h1:=fr_len k (s.l.take (s.c - 1))
  rw [List.length_take] at h1
  have hp:=h.pos
  exact ⟨h.pos,h.cap,fr_nodup (take_nodup h.nd _) k,by show (fr k (s.l.take (s.c - 1))).length<=s.c;omega,fun x hx=>by
   rcases fr_mem.1 hx with rfl | hx
   ·exact hk
   ·exact h.key x (List.mem_of_mem_take hx.1)⟩
theorem Ok.drop (h:s.Ok) (k:Nat):(s.drop k).Ok:=⟨h.pos,h.cap,wo_nodup h.nd k,Nat.le_trans (wo_len k s.l) h.len,fun x hx=>h.key x (wo_mem.1 hx).1⟩
theorem Ok.resize (h:s.Ok) (n:Int):(s.resize n).Ok:=⟨(capI_pos n).1,(capI_pos n).2,take_nodup h.nd _,by
 show (s.l.take (capI n)).length<=capI n
 rw [List.length_take]
 omega,fun x hx=>h.key x (List.mem_of_mem_take hx)⟩
theorem Ok.act (h:s.Ok) {x:Act8} (wf:x.Ok):(s.act x).Ok:=by
 unfold L8.act
 split
 ·exact h.touch _
 ·exact h.adm _ wf.key
 ·exact h.drop _
 ·exact h.resize _
theorem act_cases (s:L8) (x:Act8):kindA x (decide (x.key∈s.keys))=1/\s.act x=s.touch x.key/\s.actOut x=[]∨kindA x (decide (x.key∈s.keys))=2/\s.act x=s.adm x.key/\s.actOut x=s.admitOut x.key ∨
  kindA x (decide (x.key∈s.keys))=3/\s.act x=s.drop x.key/\s.actOut x=[]∨kindA x (decide (x.key∈s.keys))=4/\s.act x=s.resize (sizeA x:Nat)/\s.actOut x=s.resizeOut (sizeA x:Nat):=by
 unfold L8.act L8.actOut
 rcases kindA_is x (decide (x.key∈s.keys)) with h | h | h | h <;> rw [h] <;> simp
theorem split_mem {l:List Nat} (h:l.Nodup) (m:Nat) {k:Nat} (hk:k∈l.drop m):k∈l/\k∉l.take m:=by
 refine ⟨List.mem_of_mem_drop hk,fun ht=>?_⟩
 rw [<- List.take_append_drop m l] at h
 exact (List.nodup_append.1 h).2.2 _ ht _ hk rfl
theorem split_either {l:List Nat} (m:Nat) {k:Nat} (hk:k∈l):k∈l.take m∨k∈l.drop m:=by
 rw [<- List.take_append_drop m l] at hk
 exact List.mem_append.1 hk
theorem split_nodup {l:List Nat} (h:l.Nodup) (m:Nat):((l.drop m).reverse).Nodup:=(List.pairwise_reverse.2 ((h.sublist (List.drop_sublist m l)).imp (fun h=>fun e=>h e.symm)))
theorem evs_none {was is:List Nat} {q key size:Nat} (hq:q=1∨q=2/\key∈was) (h:∀ k∈was,k∈is) (hl:is.length=was.length):Evs was is [] q key size:=by
 refine ⟨fun k hk=>by simp at hk,fun k hk => .inr (.inl (h k hk)),List.nodup_nil,?_,fun e=>by omega⟩
 rw [if_neg (by rintro ⟨h1,h2⟩;rcases hq with h | h;exact absurd h1 (by omega);exact h2 h.2),if_neg (by rintro ⟨h1,_⟩;omega),hl]
 simp
theorem evs_drop {was is:List Nat} {key size:Nat} (h:∀ k∈was,k∈is∨k=key) (hl:is.length=if key∈was then was.length - 1 else was.length):Evs was is [] 3 key size:=by
 refine ⟨fun k hk=>by simp at hk,fun k hk => .inr ((h k hk).imp id (fun e=>⟨rfl,e⟩)),List.nodup_nil,?_,fun e=>by omega⟩
 rw [if_neg (by rintro ⟨h1,h2⟩;omega),hl]
 by_cases hk:key∈was
 ·have:=List.length_pos_of_mem hk
  rw [if_pos hk,if_pos ⟨rfl,hk⟩]
  simp
  omega
 ·rw [if_neg hk,if_neg (by rintro ⟨_,h⟩;exact hk h)]
  simp
theorem evs_resize {was is out:List Nat} {key size:Nat} (h1:∀ k∈out,k∈was/\k∉is) (h2:∀ k∈was,k∈out∨k∈is) (h3:out.Nodup) (h4:is.length+out.length=was.length) (h5:out.length=was.length - size):Evs was is out 4 key size:=by
 refine ⟨h1,fun k hk=>(h2 k hk).imp id .inl,h3,?_,fun _=>by omega⟩
 rw [if_neg (by rintro ⟨h1,h2⟩;omega),if_neg (by rintro ⟨h1,h2⟩;omega)]
 omega
theorem evs_admit {was is out:List Nat} {key size:Nat} (hk:key∉was) (h1:∀ k∈out,k∈was/\k∉is) (h2:∀ k∈was,k∈out∨k∈is) (h3:out.Nodup) (h4:is.length+out.length=was.length+1):Evs was is out 2 key size:=by
 refine ⟨h1,fun k hk=>(h2 k hk).imp id .inl,h3,?_,fun e=>by omega⟩
 rw [if_pos ⟨rfl,hk⟩,if_neg (by rintro ⟨h1,h2⟩;omega)]
 omega
theorem Ok.evs (h:s.Ok) {x:Act8} (_:x.Ok):Evs s.keys (s.act x).keys (s.actOut x) (kindA x (decide (x.key∈s.keys))) x.key (sizeA x):=by
 have hz:=sizeA_is x
 rcases act_cases s x with ⟨hq,e1,e2⟩ | ⟨hq,e1,e2⟩ | ⟨hq,e1,e2⟩ | ⟨hq,e1,e2⟩
 ·rw [hq,e1,e2]
  refine evs_none (.inl rfl) (fun k hk=>?_) ?_
  ·unfold L8.keys L8.touch
   split
   ·exact fr_mem.2 (by by_cases e:k=x.key;exact .inl e;exact .inr ⟨hk,e⟩)
   ·exact hk
  ·unfold L8.keys L8.touch
   split
   ·rename_i hin
    have:=wo_count8 h.nd x.key
    rw [if_pos hin] at this
    have hp:=List.length_pos_of_mem hin
    simp [fr,this]
    omega
   ·rfl
 ·rw [hq,e1,e2]
  by_cases hin:x.key∈s.l
  ·have f1:s.adm x.key=s:=by unfold L8.adm;rw [if_pos hin]
   have f2:s.admitOut x.key=[]:=by unfold L8.admitOut;rw [if_pos hin]
   rw [f1,f2]
   exact evs_none (.inr ⟨rfl,hin⟩) (fun k hk=>hk) rfl
  ·have f1:(s.adm x.key).keys=x.key :: s.l.take (s.c - 1):=by
    unfold L8.adm L8.keys
    rw [if_neg hin]
    show fr x.key _=_
    unfold fr
    rw [wo_none8 (fun hm=>hin (List.mem_of_mem_take hm))]
   have f2:s.admitOut x.key=(s.l.drop (s.c - 1)).reverse:=by unfold L8.admitOut;rw [if_neg hin]
   rw [f1,f2]
   refine evs_admit hin (fun k hk=>?_) (fun k hk=>?_) (split_nodup h.nd _) ?_
   ·have:=split_mem h.nd _ (List.mem_reverse.1 hk)
    refine ⟨this.1,fun hm=>?_⟩
    rcases List.mem_cons.1 hm with e | hm
    ·rw [<- e] at hin
     exact hin this.1
    ·exact this.2 hm
   ·rcases split_either (s.c - 1) hk with h | h
    ·exact .inr (List.mem_cons_of_mem _ h)
    ·exact .inl (List.mem_reverse.2 h)
   ·simp [keys]
    omega
 ·rw [hq,e1,e2]
  refine evs_drop (fun k hk=>?_) (wo_count8 h.nd x.key)
  by_cases e:k=x.key
  ·exact .inr e
  ·exact .inl (wo_mem.2 ⟨hk,e⟩)
 ·rw [hq,e1,e2]
  have hc:=capI_nat (sizeA x) (by omega) (by omega)
  unfold L8.resize L8.resizeOut L8.keys
  rw [hc]
  refine evs_resize (fun k hk=>split_mem h.nd _ (List.mem_reverse.1 hk)) (fun k hk=>(split_either (sizeA x) hk).elim .inr (fun h => .inl (List.mem_reverse.2 h))) (split_nodup h.nd _) ?_ ?_
  ·simp
   omega
  ·simp
end L8
abbrev l8C (c:Nat) (u_l:Value):Array Value:=#[(.int .i64 (c:Nat)),u_l]
abbrev z8:Array Value:=#[.int .i64 0,.slice none 0 0]
abbrev T8:TypeId:=43
structure St8 (w:World) (s:L8) (u1:Value):Prop where
 g1:KV w u1 s.l
section
variable {w w':World} {s:L8} {u1:Value}
theorem St8.form1 (h:St8 w s u1):∃ F n c,u1 = .slice F n c:=h.g1.form
theorem St8.below (h:St8 w s u1) (hb:Below w.heap.size w w'):St8 w' s u1:=⟨h.g1.below hb⟩
end
def P8 (w:World) (s:L8) (e:Ending) (w':World):Prop:=∃ u1,e = .returned (.agg (l8C s.c u1))/\Below w.heap.size w w'/\St8 w' s u1
def P8o (w:World) (s:L8) (out:List Nat) (e:Ending) (w':World):Prop:=∃ u1 o,e = .returned (.tuple #[.agg (l8C s.c u1),o])/\Below w.heap.size w w'/\St8 w' s u1/\KV w' o out
theorem B8.start (w:World) (c:Nat) (F1:Option Addr) (n1 d1:Nat):Bo w ((w.alloc (.cells (l8C c (.slice F1 n1 d1)) T8)).alloc (.cells z8 T8)) T8 w.heap.size (w.heap.size+1) (l8C c (.slice F1 n1 d1)) z8 :=
 Bo.start w T8 _ _ rfl rfl (by decide)
abbrev PT8:TypeId:=27
structure Pol8Ok:Prop where
 new:∀ (w:World) (n:Int) (_ : -9223372036854775808<=n) (_:n<=9223372036854775807),Calls Tryz.prog 56 #[.int .i64 n] w (P8 w (L8.new n))
 touch:∀ {w:World} {s:L8} {u1:Value} (_:St8 w s u1) (_:s.Ok) (k:Nat) (_:k < 18446744073709551616),Calls Tryz.prog 57 #[(.agg (l8C s.c u1)),.int .u64 (k:Nat)] w (P8 w (s.touch k))
 adm:∀ {w:World} {s:L8} {u1:Value} (_:St8 w s u1) (_:s.Ok) (k:Nat) (_:k < 18446744073709551616),Calls Tryz.prog 58 #[(.agg (l8C s.c u1)),.int .u64 (k:Nat)] w (P8o w (s.adm k) (s.admitOut k))
 drop:∀ {w:World} {s:L8} {u1:Value} (_:St8 w s u1) (_:s.Ok) (k:Nat) (_:k < 18446744073709551616),Calls Tryz.prog 59 #[(.agg (l8C s.c u1)),.int .u64 (k:Nat)] w (P8 w (s.drop k))
 resize:∀ {w:World} {s:L8} {u1:Value} (_:St8 w s u1) (_:s.Ok) (n:Int) (_ : -9223372036854775808<=n) (_:n<=9223372036854775807),Calls Tryz.prog 60 #[(.agg (l8C s.c u1)),.int .i64 n] w (P8o w (s.resize n) (s.resizeOut n))
 has:∀ {w:World} {s:L8} {u1:Value} (_:St8 w s u1) (_:s.Ok) (k:Nat) (_:k < 18446744073709551616),Calls Tryz.prog 61 #[(.agg (l8C s.c u1)),.int .u64 (k:Nat)] w (RetB w (decide (k∈s.keys)))
 keys:∀ {w:World} {s:L8} {u1:Value} (_:St8 w s u1) (_:s.Ok),Calls Tryz.prog 62 #[(.agg (l8C s.c u1))] w (RetK w s.keys)
 ghosts:∀ {w:World} {s:L8} {u1:Value} (_:St8 w s u1) (_:s.Ok),Calls Tryz.prog 63 #[(.agg (l8C s.c u1))] w (fun e w'=>e = .returned (.int .i64 (s.ghosts:Nat))/\Below w.heap.size w w')
section
variable {w:World} {u:Value} {s:L8}
set_option maxHeartbeats 100000000 in
theorem r8new_walk (n:Int) (hn1 : -9223372036854775808<=n) (hn2:n<=9223372036854775807):Calls Tryz.prog 49 #[.int .i64 n] w (P8 w (L8.new n)):=by
 have HB:=Lib.hid ((Below.refl w.heap.size w).alloc (Nat.le_refl _) (.cells z8 43))
 have KK:=Lib.hid (rcap_walk (w:=w.alloc (.cells z8 43)) n hn1 hn2)
 obtain ⟨c,hc⟩:∃ c,capI n=c:=⟨_,rfl⟩
 have HC:Hid (P8 w (L8.new n)=P8 w ⟨c,[]⟩):=Lib.hid (by rw [<- hc];rfl)
 rw [hc] at KK
 rw [HC.out]
 clear hc HC
 go_enter Tryz.func49,Tryz.ntmps49
 go_wp2_with fail
 refine KK.out.mono ?_
 rintro e w1 ⟨rfl,rfl⟩
 go_wp2
 exact bodyPost_ret (v := .agg (l8C c (.slice none 0 0))) (by simp [results,Tryz.results49,go_sem]) rfl ⟨_,rfl,(Below.refl _ _).alloc (Nat.le_refl _) _,⟨KV.nil _⟩⟩
end
set_option maxRecDepth 8000
theorem PB8.start (w:World) (c:Nat) (F1:Option Addr) (n1 d1:Nat):Bo w ((w.alloc (.cells (l8C c (.slice F1 n1 d1)) PT8)).alloc (.cells z8 PT8)) PT8 w.heap.size (w.heap.size+1) (l8C c (.slice F1 n1 d1)) z8 :=
 Bo.start w PT8 _ _ rfl rfl (by decide)
section
variable {w:World} {u:Value} {s:L8}
theorem bounded_walk (n:Int) (hn1 : -9223372036854775808<=n) (hn2:n<=9223372036854775807) :
  Calls Tryz.prog 143 #[.int .i64 n] w fun e w'=>e = .returned (.int .i64 (capI n:Nat))/\w=w':=by
 obtain ⟨c,hc⟩:∃ c,capI n=c:=⟨_,rfl⟩
 have HC:=Lib.hid hc
 rw [hc]
 clear hc
 by_cases h1:n < 1
 ·have H:Hid ((1:Int)=(c:Int)):=Lib.hid (by rw [<- HC.out,capI,if_pos h1];rfl)
  go_enter Tryz.func143,Tryz.ntmps143
  go_wp2
  go_ret
  exact ⟨by rw [H.out];rfl,rfl⟩
 ·by_cases h1e:n=1
  ·subst h1e
   have H:Hid ((1:Int)=(c:Int)):=Lib.hid (by rw [<- HC.out];rfl)
   go_enter Tryz.func143,Tryz.ntmps143
   go_wp2
   go_ret
   exact ⟨by rw [H.out];rfl,rfl⟩
  ·have h1g:1 < n:=by omega
   by_cases h2:1048576 < n
   ·have H:Hid ((1048576:Int)=(c:Int)):=Lib.hid (by rw [<- HC.out,capI,if_neg h1,if_pos h2];rfl)
    clear h1 h1e
    go_enter Tryz.func143,Tryz.ntmps143
    go_wp2
    go_ret
    exact ⟨by rw [H.out];rfl,rfl⟩
   ·have H:Hid (n=(c:Int)):=Lib.hid (by rw [<- HC.out,capI,if_neg h1,if_neg h2];omega)
    clear h1 h1e
    by_cases h2e:n=1048576
    ·subst h2e
     go_enter Tryz.func143,Tryz.ntmps143
     go_wp2
     go_ret
     exact ⟨by rw [<- H.out];rfl,rfl⟩
    ·have h2l:n < 1048576:=by omega
     clear h2e h2
     go_enter Tryz.func143,Tryz.ntmps143
     go_wp2
     go_ret
     exact ⟨by rw [<- H.out];rfl,rfl⟩
theorem p8new_walk (n:Int) (hn1 : -9223372036854775808<=n) (hn2:n<=9223372036854775807):Calls Tryz.prog 56 #[.int .i64 n] w (P8 w (L8.new n)):=by
 have KK:=Lib.hid (bounded_walk (w:=w.alloc (.cells z8 PT8)) n hn1 hn2)
 obtain ⟨c,hc⟩:∃ c,capI n=c:=⟨_,rfl⟩
 have HC:Hid (P8 w (L8.new n)=P8 w ⟨c,[]⟩):=Lib.hid (by rw [<- hc];rfl)
 rw [hc] at KK
 rw [HC.out]
 clear hc HC
 go_enter Tryz.func56,Tryz.ntmps56
 go_wp2_with fail
 refine KK.out.mono ?_
 rintro e w1 ⟨rfl,rfl⟩
 go_wp2
 exact bodyPost_ret (v := .agg (l8C c (.slice none 0 0))) (by simp [results,Tryz.results56,go_sem]) rfl ⟨_,rfl,(Below.refl _ _).alloc (Nat.le_refl _) _,⟨KV.nil _⟩⟩
theorem owned8_walk {F:Option Addr} {n d:Nat} {l:List Nat} (h:KV w (.slice F n d) l) (hl:l.length<=100000000) (c:Nat):Calls Tryz.prog 145 #[.agg (l8C c (.slice F n d))] w (P8 w ⟨c,l⟩):=by
 have h0:=PB8.start w c F n d
 have HB:=Lib.hid h0
 have HK:=Lib.hid (h.below h0.low)
 have HN:=Lib.hid (KO.nil h0.low)
 have hsz:w.heap.size<=((w.alloc (.cells (l8C c (.slice F n d)) PT8)).alloc (.cells z8 PT8)).heap.size:=h0.low.size
 clear h0 h
 go_enter Tryz.func145,Tryz.ntmps145
 go_wp2_with (at_builtin;refine wpList_append_kv rfl _ (.tmp 4) rfl w.heap.size (by kernel_rfl) (by kernel_rfl) (.slice none 0 0) [] rfl HN.out _ l rfl HK.out (by simp;omega) hsz ?_)
 intro v6 w6 hown6 _ hkt
 have H6:=Lib.hid (HB.out.kt hkt hown6.low)
 obtain ⟨F6,n6,d6,rfl⟩:=hown6.kv.form
 have HV:Hid (KV w6 (.slice F6 n6 d6) l):=Lib.hid hown6.kv
 clear hown6 hkt
 obtain ⟨⟨x0,x1⟩,x2,x3⟩:=c2_at H6.out.box
 obtain ⟨⟨y0,y1⟩,y2,y3⟩:=c2_at H6.out.res
 go_wp2
 have HO:Hid (Only [w.heap.size,w.heap.size+1] w6 (((w6.setCell ⟨w.heap.size,1,none⟩ (.slice F6 n6 d6)).setCell ⟨w.heap.size+1,0,none⟩ (.int .i64 (c:Nat))).setCell ⟨w.heap.size+1,1,none⟩ (.slice F6 n6 d6))):=Lib.hid ((((Only.refl _ _).setCell (by simp) _).setCell (by simp) _).setCell (by simp) _)
 exact bodyPost_ret (v := .agg (l8C c (.slice F6 n6 d6))) (by simp [results,Tryz.results145,go_sem,y0,y1]) rfl ⟨_,rfl,H6.out.fin HO.out,⟨H6.out.kv HO.out HV.out⟩⟩
theorem p8touch_walk (hs:St8 w s u) (ok:s.Ok) (k:Nat):Calls Tryz.prog 57 #[.agg (l8C s.c u),.int .u64 (k:Nat)] w (P8 w (s.touch k)):=by
 have h:=hs.g1
 have hl:=ok.hl
 clear hs ok
 obtain ⟨F,n,d,rfl⟩:=h.form
 have h0:=PB8.start w s.c F n d
 have HB:=Lib.hid h0
 have hk0:=h.below h0.low
 have KH:=Lib.hid (has_walk hk0 hl k)
 have KF:=Lib.hid (front_walk hk0 hl k)
 have KW:=Lib.hid (owned8_walk hk0 hl s.c)
 obtain ⟨c,l⟩:=s
 simp only at *
 unfold L8.touch
 simp only
 clear h0 hk0 h
 by_cases hin:k∈l
 ·rw [decide_eq_true hin] at KH
  rw [if_pos hin]
  clear hin
  go_enter Tryz.func57,Tryz.ntmps57
  go_wp2_with fail
  refine KH.out.mono ?_
  rintro e w1 ⟨rfl,rfl⟩
  go_wp2_with fail
  refine KF.out.mono ?_
  rintro e w2 ⟨v2,rfl,h2⟩
  obtain ⟨F2,n2,d2,rfl⟩:=h2.kv.form
  have H2:=Lib.hid (HB.out.step h2.low)
  have HV:=Lib.hid h2.kv
  obtain ⟨⟨x0,x1⟩,x2,x3⟩:=c2_at H2.out.box
  obtain ⟨⟨y0,y1⟩,y2,y3⟩:=c2_at H2.out.res
  clear h2 KH KF KW HB
  go_wp2
  have HO:Hid (Only [w.heap.size,w.heap.size+1] w2 (((w2.setCell ⟨w.heap.size,1,none⟩ (.slice F2 n2 d2)).setCell ⟨w.heap.size+1,0,none⟩ (.int .i64 (c:Nat))).setCell ⟨w.heap.size+1,1,none⟩ (.slice F2 n2 d2))):=Lib.hid ((((Only.refl _ _).setCell (by simp) _).setCell (by simp) _).setCell (by simp) _)
  exact bodyPost_ret (v := .agg (l8C c (.slice F2 n2 d2))) (by simp [results,Tryz.results57,go_sem,y0,y1]) rfl ⟨_,rfl,H2.out.fin HO.out,⟨H2.out.kv HO.out HV.out⟩⟩
 ·rw [decide_eq_false hin] at KH
  rw [if_neg hin]
  clear hin
  go_enter Tryz.func57,Tryz.ntmps57
  go_wp2_with fail
  refine KH.out.mono ?_
  rintro e w1 ⟨rfl,rfl⟩
  go_wp2_with fail
  refine KW.out.mono ?_
  rintro e w2 ⟨u2,he,hb2,⟨hk2⟩⟩
  obtain ⟨F2,n2,d2,rfl⟩:=hk2.form
  have he':e = .returned (.agg (l8C c (.slice F2 n2 d2))):=he
  subst he'
  clear he
  have H2:=Lib.hid (HB.out.step hb2)
  have HV:Hid (KV w2 (.slice F2 n2 d2) l):=Lib.hid hk2
  obtain ⟨⟨y0,y1⟩,y2,y3⟩:=c2_at H2.out.res
  clear hb2 hk2 KH KF KW HB
  go_wp2
  have HO:Hid (Only [w.heap.size,w.heap.size+1] w2 ((w2.setCell ⟨w.heap.size+1,0,none⟩ (.int .i64 (c:Nat))).setCell ⟨w.heap.size+1,1,none⟩ (.slice F2 n2 d2))):=Lib.hid (((Only.refl _ _).setCell (by simp) _).setCell (by simp) _)
  exact bodyPost_ret (v := .agg (l8C c (.slice F2 n2 d2))) (by simp [results,Tryz.results57,go_sem,y0,y1]) rfl ⟨_,rfl,H2.out.fin HO.out,⟨H2.out.kv HO.out HV.out⟩⟩
theorem p8drop_walk (hs:St8 w s u) (ok:s.Ok) (k:Nat):Calls Tryz.prog 59 #[.agg (l8C s.c u),.int .u64 (k:Nat)] w (P8 w (s.drop k)):=by
 have h:=hs.g1
 have hl:=ok.hl
 clear hs ok
 obtain ⟨F,n,d,rfl⟩:=h.form
 have h0:=PB8.start w s.c F n d
 have HB:=Lib.hid h0
 have KF:=Lib.hid (without_walk (h.below h0.low) hl k)
 obtain ⟨c,l⟩:=s
 simp only at *
 unfold L8.drop
 simp only
 clear h0 h
 go_enter Tryz.func59,Tryz.ntmps59
 go_wp2_with fail
 refine KF.out.mono ?_
 rintro e w2 ⟨v2,rfl,h2⟩
 obtain ⟨F2,n2,d2,rfl⟩:=h2.kv.form
 have H2:=Lib.hid (HB.out.step h2.low)
 have HV:=Lib.hid h2.kv
 obtain ⟨⟨x0,x1⟩,x2,x3⟩:=c2_at H2.out.box
 obtain ⟨⟨y0,y1⟩,y2,y3⟩:=c2_at H2.out.res
 clear h2 KF HB
 go_wp2
 have HO:Hid (Only [w.heap.size,w.heap.size+1] w2 (((w2.setCell ⟨w.heap.size,1,none⟩ (.slice F2 n2 d2)).setCell ⟨w.heap.size+1,0,none⟩ (.int .i64 (c:Nat))).setCell ⟨w.heap.size+1,1,none⟩ (.slice F2 n2 d2))):=Lib.hid ((((Only.refl _ _).setCell (by simp) _).setCell (by simp) _).setCell (by simp) _)
 exact bodyPost_ret (v := .agg (l8C c (.slice F2 n2 d2))) (by simp [results,Tryz.results59,go_sem,y0,y1]) rfl ⟨_,rfl,H2.out.fin HO.out,⟨H2.out.kv HO.out HV.out⟩⟩
theorem p8has_walk (hs:St8 w s u) (ok:s.Ok) (k:Nat):Calls Tryz.prog 61 #[.agg (l8C s.c u),.int .u64 (k:Nat)] w (RetB w (decide (k∈s.keys))):=by
 have h:=hs.g1
 have hl:=ok.hl
 clear hs ok
 obtain ⟨F,n,d,rfl⟩:=h.form
 have HB:=Lib.hid (low_one w (.cells (l8C s.c (.slice F n d)) PT8))
 have KH:=Lib.hid (has_walk (h.below HB.out) hl k)
 obtain ⟨c,l⟩:=s
 unfold L8.keys
 simp only at *
 clear h
 obtain ⟨b,hb⟩:∃ b,decide (k∈l)=b:=⟨_,rfl⟩
 rw [hb] at KH ⊢
 clear hb
 go_enter Tryz.func61,Tryz.ntmps61
 go_wp2_with fail
 refine KH.out.mono ?_
 rintro e w1 ⟨rfl,rfl⟩
 go_wp2
 go_ret
 exact ⟨rfl,HB.out⟩
theorem field8l (F:Option Addr) (n d c:Nat) (W:World):(Instr.field PT8 (.agg #[.int .i64 (c:Nat),.slice F n d]) 1).run Tryz.prog W = .ok (.slice F n d) W:=by
 kernel_rfl
theorem p8keys_walk (hs:St8 w s u) (ok:s.Ok):Calls Tryz.prog 62 #[.agg (l8C s.c u)] w (RetK w s.keys):=by
 have h:=hs.g1
 have hl:=ok.hl
 clear hs ok
 obtain ⟨F,n,d,rfl⟩:=h.form
 have HB:=Lib.hid (low_one w (.cells (l8C s.c (.slice F n d)) PT8))
 have KW:=Lib.hid (owned8_walk (h.below HB.out) hl s.c)
 obtain ⟨c,l⟩:=s
 unfold L8.keys
 simp only at *
 clear h
 go_enter Tryz.func62,Tryz.ntmps62
 go_wp2_with fail
 refine KW.out.mono ?_
 rintro e w2 ⟨u2,he,hb2,⟨hk2⟩⟩
 obtain ⟨F2,n2,d2,rfl⟩:=hk2.form
 have he':e = .returned (.agg #[.int .i64 (c:Nat),.slice F2 n2 d2]):=he
 subst he'
 clear he
 have HV:Hid (KV w2 (.slice F2 n2 d2) l):=Lib.hid hk2
 have HL:=Lib.hid (HB.out.trans (hb2.mono HB.out.size))
 have hfld:=field8l
 clear hb2 hk2 KW HB
 go_wp2
 go_ret
 exact ⟨_,rfl,HL.out,HV.out⟩
theorem p8ghosts_walk (hs:St8 w s u) (_:s.Ok):Calls Tryz.prog 63 #[.agg (l8C s.c u)] w fun e w'=>e = .returned (.int .i64 (s.ghosts:Nat))/\Below w.heap.size w w':=by
 have h:=hs.g1
 clear hs
 obtain ⟨F,m,d,rfl⟩:=h.form
 have HB:=Lib.hid (low_one w (.cells (l8C s.c (.slice F m d)) PT8))
 obtain ⟨c,l⟩:=s
 simp only at *
 clear h
 go_enter Tryz.func63,Tryz.ntmps63
 go_wp2
 go_ret
 exact ⟨rfl,by first | exact HB.out | exact Below.refl _ _⟩
abbrev evC (b:Nat):Array Value:=#[.pointer (some ⟨b,0,none⟩)]
theorem evicting_walk (b:Nat):Calls Tryz.prog 147 #[.pointer (some ⟨b,0,none⟩)] w fun e w' =>
  e = .returned (.func (.func 254) #[] #[.pointer (some ⟨w.heap.size,0,none⟩)])/\w'=w.alloc (.cells (evC b) 130):=by
 go_enter Tryz.func147,Tryz.ntmps147
 go_wp2
 go_ret
 exact ⟨rfl,rfl⟩
theorem evict_walk {w0:World} {b r g c n d:Nat} {F:Option Addr} {l:List Nat} (hB:Bo w0 w PT8 b r (l8C c (.slice F n d)) z8) (hg:w.heap[g]? = some (.cells (evC b) 130 (0,0))) (h:KV w (.slice F n d) l) (hl:l.length<=100000000)
  (m:Int) (hm1 : -9223372036854775808<=m) (hm2:m<=9223372036854775807) :
  Calls Tryz.prog 254 #[.int .i64 m,.pointer (some ⟨g,0,none⟩)] w fun e w'=>∃ o F' n' d',e = .returned o/\Bo w0 w' PT8 b r (l8C c (.slice F' n' d')) z8/\KV w' o (l.drop m.toNat).reverse/\KV w' (.slice F' n' d') (l.take m.toNat):=by
 have KF:=Lib.hid (fall_walk h hl m hm1 hm2)
 have HB:=Lib.hid hB
 have HG:=Lib.hid hg
 have hgl:=(head_row hg).lt
 obtain ⟨⟨x0,x1⟩,x2,x3⟩:=c2_at hB.box
 have p0:w.cell? ⟨g,0,none⟩=some (.pointer (some ⟨b,0,none⟩)):=(head_row hg).cell (i:=0) (by simp)
 have p1:=(head_row hg).frozen 0
 clear hB hg h
 go_enter Tryz.func254,Tryz.ntmps254
 go_wp2_with fail
 refine KF.out.mono ?_
 rintro e w2 ⟨v,u,rfl,hb2,hk1,hk2⟩
 obtain ⟨F2,n2,d2,rfl⟩:=hk2.form
 have H2:=Lib.hid (HB.out.step hb2)
 have HG2:=Lib.hid ((hb2.block g hgl).trans HG.out)
 have HV1:=Lib.hid hk1
 have HV2:=Lib.hid hk2
 clear x0 x1 x2 x3 p0 p1 hb2 hk1 hk2 KF HB HG
 obtain ⟨⟨x0,x1⟩,x2,x3⟩:=c2_at H2.out.box
 have p0:w2.cell? ⟨g,0,none⟩=some (.pointer (some ⟨b,0,none⟩)):=(head_row HG2.out).cell (i:=0) (by simp)
 have p1:=(head_row HG2.out).frozen 0
 go_wp2
 go_ret
 have h3:=H2.out.set 1 (.slice F2 n2 d2) rfl
 exact ⟨_,_,_,_,rfl,h3.1,H2.out.kv h3.2 HV1.out,H2.out.kv h3.2 HV2.out⟩
end
set_option maxRecDepth 8000
section
variable {w:World} {u:Value} {s:L8}
theorem evicting8_walk {w0:World} {b r c n d:Nat} {F:Option Addr} {l:List Nat} (h:Bo w0 w PT8 b r (l8C c (.slice F n d)) z8) (hk:KV w (.slice F n d) l) :
  Calls Tryz.prog 147 #[.pointer (some ⟨b,0,none⟩)] w fun e w'=>∃ g,e = .returned (.func (.func 254) #[] #[.pointer (some ⟨g,0,none⟩)])/\Bo w0 w' PT8 b r (l8C c (.slice F n d)) z8 /\
   w'.heap[g]? = some (.cells (evC b) 130 (0,0))/\KV w' (.slice F n d) l :=
 (evicting_walk b).mono (by
  rintro e w' ⟨rfl,rfl⟩
  exact ⟨_,rfl,h.step (low_one _ _),heap_alloc_new _ _,hk.below (low_one _ _)⟩)
set_option maxHeartbeats 2000000 in
theorem p8admit_walk (hs:St8 w s u) (ok:s.Ok) (k:Nat):Calls Tryz.prog 58 #[.agg (l8C s.c u),.int .u64 (k:Nat)] w (P8o w (s.adm k) (s.admitOut k)):=by
 have hc1:=ok.pos
 have hl:=ok.hl
 have hc2:=ok.cap
 have h:=hs.g1
 clear hs
 obtain ⟨F,n,d,rfl⟩:=h.form
 have h0:=PB8.start w s.c F n d
 have HB:=Lib.hid h0
 have KH:=Lib.hid (has_walk (h.below h0.low) hl k)
 have KW:=Lib.hid (owned8_walk (h.below h0.low) hl s.c)
 have KE:=Lib.hid (evicting8_walk h0 (h.below h0.low))
 obtain ⟨c,l⟩:=s
 simp only at *
 unfold L8.adm L8.admitOut
 simp only
 obtain ⟨c',hc'⟩:∃ c',c - 1=c':=⟨_,rfl⟩
 have hcI:(c:Int) - 1=(c':Int):=by omega
 rw [hc']
 have HTL:=Lib.hid (show (l.take c').length<=100000000 by rw [List.length_take];omega)
 have hc3:c'<=1048576:=by omega
 have HL:=Lib.hid hl
 clear h0 h ok hc' hl
 by_cases hin:k∈l
 ·rw [decide_eq_true hin] at KH
  rw [if_pos hin,if_pos hin]
  clear hin
  go_enter Tryz.func58,Tryz.ntmps58
  go_wp2_with fail
  refine KH.out.mono ?_
  rintro e w1 ⟨rfl,rfl⟩
  go_wp2_with fail
  refine KW.out.mono ?_
  rintro e w2 ⟨u2,he,hb2,⟨hk2⟩⟩
  obtain ⟨F2,n2,d2,rfl⟩:=hk2.form
  have he':e = .returned (.agg (l8C c (.slice F2 n2 d2))):=he
  subst he'
  clear he
  have H2:=Lib.hid (HB.out.step hb2)
  have HV:Hid (KV w2 (.slice F2 n2 d2) l):=Lib.hid hk2
  obtain ⟨⟨y0,y1⟩,y2,y3⟩:=c2_at H2.out.res
  clear hb2 hk2 KH KE KW HB
  go_wp2
  have HO:Hid (Only [w.heap.size,w.heap.size+1] w2 ((w2.setCell ⟨w.heap.size+1,0,none⟩ (.int .i64 (c:Nat))).setCell ⟨w.heap.size+1,1,none⟩ (.slice F2 n2 d2))):=Lib.hid (((Only.refl _ _).setCell (by simp) _).setCell (by simp) _)
  exact bodyPost_ret (v := .tuple #[.agg (l8C c (.slice F2 n2 d2)),.slice none 0 0]) (by simp [results,Tryz.results58,go_sem,y0,y1]) rfl ⟨_,_,rfl,H2.out.fin HO.out,⟨H2.out.kv HO.out HV.out⟩,KV.nil _⟩
 ·rw [decide_eq_false hin] at KH
  rw [if_neg hin,if_neg hin]
  clear hin
  go_enter Tryz.func58,Tryz.ntmps58
  go_wp2_with fail
  refine KH.out.mono ?_
  rintro e w1 ⟨rfl,rfl⟩
  go_wp2_with fail
  refine KE.out.mono ?_
  rintro e w2 ⟨g,rfl,hb2,hg2,hk2⟩
  have KF:=Lib.hid (evict_walk hb2 hg2 hk2 HL.out (c':Int) (by omega) (by omega))
  obtain ⟨⟨x0,x1⟩,x2,x3⟩:=c2_at hb2.box
  clear hb2 hg2 hk2 KH KE KW HB
  go_wp2_with fail
  refine KF.out.mono ?_
  rintro e w3 ⟨o3,F3,n3,d3,rfl,hb3,ho3,hk3⟩
  rw [Int.toNat_natCast] at ho3 hk3
  have KR:=Lib.hid (front_walk hk3 HTL.out k)
  have HB3:=Lib.hid hb3
  have HO3:=Lib.hid ho3
  clear x0 x1 x2 x3
  obtain ⟨⟨x0,x1⟩,x2,x3⟩:=c2_at hb3.box
  clear hb3 ho3 hk3 KF
  go_wp2_with fail
  refine KR.out.mono ?_
  rintro e w4 ⟨v4,rfl,h4⟩
  obtain ⟨F4,n4,d4,rfl⟩:=h4.kv.form
  have H4:=Lib.hid (HB3.out.step h4.low)
  have HV:=Lib.hid h4.kv
  have HO4:=Lib.hid (HO3.out.below h4.low)
  clear x0 x1 x2 x3
  obtain ⟨⟨x0,x1⟩,x2,x3⟩:=c2_at H4.out.box
  obtain ⟨⟨y0,y1⟩,y2,y3⟩:=c2_at H4.out.res
  clear h4 KR HB3 HO3
  go_wp2
  have HO:Hid (Only [w.heap.size,w.heap.size+1] w4 (((w4.setCell ⟨w.heap.size,1,none⟩ (.slice F4 n4 d4)).setCell ⟨w.heap.size+1,0,none⟩ (.int .i64 (c:Nat))).setCell ⟨w.heap.size+1,1,none⟩ (.slice F4 n4 d4))):=Lib.hid ((((Only.refl _ _).setCell (by simp) _).setCell (by simp) _).setCell (by simp) _)
  exact bodyPost_ret (v := .tuple #[.agg (l8C c (.slice F4 n4 d4)),o3]) (by simp [results,Tryz.results58,go_sem,y0,y1]) rfl ⟨_,_,rfl,H4.out.fin HO.out,⟨H4.out.kv HO.out HV.out⟩,H4.out.kv HO.out HO4.out⟩
set_option maxHeartbeats 2000000 in
theorem p8resize_walk (hs:St8 w s u) (ok:s.Ok) (n:Int) (hn1 : -9223372036854775808<=n) (hn2:n<=9223372036854775807):Calls Tryz.prog 60 #[.agg (l8C s.c u),.int .i64 n] w (P8o w (s.resize n) (s.resizeOut n)):=by
 have h:=hs.g1
 have hl:=ok.hl
 clear hs ok
 obtain ⟨F,m,d,rfl⟩:=h.form
 have h0:=PB8.start w s.c F m d
 have KC:=Lib.hid (bounded_walk (w:=(w.alloc (.cells (l8C s.c (.slice F m d)) PT8)).alloc (.cells z8 PT8)) n hn1 hn2)
 have hcp:=capI_pos n
 unfold L8.resize L8.resizeOut
 obtain ⟨c',hc'⟩:∃ c',capI n=c':=⟨_,rfl⟩
 rw [hc'] at KC hcp ⊢
 have h9:=PB8.start w c' F m d
 have KE:=Lib.hid (evicting8_walk h9 (h.below h9.low))
 obtain ⟨⟨x0,x1⟩,x2,x3⟩:=c2_at h0.box
 obtain ⟨c,l⟩:=s
 simp only at *
 have HL:=Lib.hid hl
 obtain ⟨h1,h2⟩:=hcp
 clear h0 h hc' h9 hl
 go_enter Tryz.func60,Tryz.ntmps60
 go_wp2_with fail
 refine KC.out.mono ?_
 rintro e w1 ⟨rfl,rfl⟩
 go_wp2_with fail
 refine KE.out.mono ?_
 rintro e w2 ⟨g,rfl,hb2,hg2,hk2⟩
 have KF:=Lib.hid (evict_walk hb2 hg2 hk2 HL.out (c':Int) (by omega) (by omega))
 clear x0 x1 x2 x3
 obtain ⟨⟨x0,x1⟩,x2,x3⟩:=c2_at hb2.box
 clear hb2 hg2 hk2 KC KE
 go_wp2_with fail
 refine KF.out.mono ?_
 rintro e w3 ⟨o3,F3,n3,d3,rfl,hb3,ho3,hk3⟩
 rw [Int.toNat_natCast] at ho3 hk3
 have H4:=Lib.hid hb3
 have HO4:=Lib.hid ho3
 have HV:=Lib.hid hk3
 clear x0 x1 x2 x3
 obtain ⟨⟨x0,x1⟩,x2,x3⟩:=c2_at hb3.box
 obtain ⟨⟨y0,y1⟩,y2,y3⟩:=c2_at hb3.res
 clear hb3 ho3 hk3 KF
 go_wp2
 have HO:Hid (Only [w.heap.size,w.heap.size+1] w3 ((w3.setCell ⟨w.heap.size+1,0,none⟩ (.int .i64 (c':Nat))).setCell ⟨w.heap.size+1,1,none⟩ (.slice F3 n3 d3))):=Lib.hid (((Only.refl _ _).setCell (by simp) _).setCell (by simp) _)
 exact bodyPost_ret (v := .tuple #[.agg (l8C c' (.slice F3 n3 d3)),o3]) (by simp [results,Tryz.results60,go_sem,y0,y1]) rfl ⟨_,_,rfl,H4.out.fin HO.out,⟨H4.out.kv HO.out HV.out⟩,H4.out.kv HO.out HO4.out⟩
end
theorem pol8Ok:Pol8Ok where
 new:=fun _ n h1 h2=>p8new_walk n h1 h2
 touch:=fun hs ok k _=>p8touch_walk hs ok k
 adm:=fun hs ok k _=>p8admit_walk hs ok k
 drop:=fun hs ok k _=>p8drop_walk hs ok k
 resize:=fun hs ok n h1 h2=>p8resize_walk hs ok n h1 h2
 has:=fun hs ok k _=>p8has_walk hs ok k
 keys:=fun hs ok=>p8keys_walk hs ok
 ghosts:=fun hs ok=>p8ghosts_walk hs ok
end Go.Proofs.YtcpggonengkgiaaGreatDoor
