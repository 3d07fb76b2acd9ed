/- Words and walks: McB McI McE McPz McF McL. -/
import Derived.Test.YtcpggonengkgiaaGreatDoorG1
import Derived.Test.YtcpggonengkgiaaGreatDoorG15
import Derived.Test.YtcpggonengkgiaaGreatDoorG21
import Derived.Test.YtcpggonengkgiaaGreatDoorG29
import Derived.Test.YtcpggonengkgiaaGreatDoorG4
import Derived.Test.YtcpggonengkgiaaGreatDoorG5
import Derived.Test.YtcpggonengkgiaaGreatDoorG8
import Derived.Deep.RegionHeld3
namespace Go.Proofs.YtcpggonengkgiaaGreatDoor
open Go Go.RowKit Go.Deep
def Bn (w:World) (g:Nat):Prop:=∃ cs e f,w.heap[g]? = some (Obj.cells cs e f)/\okT e=false
section
variable {w w':World} {v:Value} {S:List Nat}
theorem NP.out {g:Nat} (h:NP w g) (hS:∀ g∈S,Bn w g):g∉S:=fun hm=>by
 obtain ⟨cs,e,f,h1,h2⟩:=hS g hm
 exact h.not h1 h2
theorem RV.onlyN {size n:Nat} {xs:List Value} (h:RV w size v n xs) (ho:Only S w w') (hS:∀ g∈S,Bn w g):RV w' size v n xs:=by
 obtain ⟨hl,⟨F,c,e,h1,h2,h3⟩,hn⟩:=h
 refine ⟨hl,⟨F,c,e,h1,h2,fun j u hu=>?_⟩,fun m c' ad e1=>(hn m c' ad e1).keep (ho.block _ (hn m c' ad e1).lt ((hn m c' ad e1).out hS))⟩
 obtain ⟨ad,e2,h4,h5⟩:=h3 j u hu
 refine ⟨ad,e2,Nat.lt_of_lt_of_le h4 ho.size,?_⟩
 have hj:=(List.getElem?_eq_some_iff.1 hu).1
 obtain ⟨k,rfl⟩:∃ k,n=k+1:=⟨n - 1,by
  rcases Nat.eq_zero_or_pos n with h0 | h0
  ·rw [hl,h0,Nat.zero_mul] at hj
   omega
  ·omega⟩
 refine Eq.trans (World.cell?_of_block (w:=w) ?_) h5
 rw [ad_block]
 exact ho.block _ h4 ((hn k c ad (by rw [e,e2])).out hS)
theorem KV.onlyN {ks:List Nat} (h:KV w v ks) (ho:Only S w w') (hS:∀ g∈S,Bn w g):KV w' v ks:=RV.onlyN h ho hS
theorem IV.onlyN {xs:List It} (h:IV w v xs) (ho:Only S w w') (hS:∀ g∈S,Bn w g):IV w' v xs:=RV.onlyN h ho hS
end
def prV (p:Nat × Nat):List Value:=[.int .u64 (p.1:Nat),.int .u64 (p.2:Nat)]
def prL (l:Prs):List Value:=l.flatMap prV
theorem prL_cons (p:Nat × Nat) (l:Prs):prL (p :: l)=prV p ++ prL l:=rfl
theorem prL_append (a b:Prs):prL a ++ prL b=prL (a ++ b):=by simp [prL]
theorem prL_len:∀ (l:Prs),(prL l).length=l.length * 2
 | []=>rfl
 | x :: xs=>by rw [prL_cons,List.length_append,prL_len xs,List.length_cons];simp [prV];omega
theorem prL_one (l:Prs):∀ u∈prL l,u.oneCell'=true:=fun u hu=>by
 obtain ⟨x,_,hx⟩:=List.mem_flatMap.1 hu
 simp only [prV,List.mem_cons,List.not_mem_nil,or_false] at hx
 rcases hx with rfl | rfl <;> rfl
theorem prL_at:∀ (l:Prs) (i:Nat) (h:i < l.length),(prL l)[i * 2]? = some (.int .u64 (l[i].1:Nat))/\(prL l)[i * 2+1]? = some (.int .u64 (l[i].2:Nat))
 | x :: xs,0,_=>⟨rfl,rfl⟩
 | x :: xs,i+1,h=>by
  have:=prL_at xs i (by simpa using h)
  rw [prL_cons]
  refine ⟨?_,?_⟩
  ·rw [List.getElem?_append_right (by simp [prV];omega)]
   simpa [prV,show (i+1) * 2 - 2=i * 2 by omega] using this.1
  ·rw [List.getElem?_append_right (by simp [prV];omega)]
   simpa [prV,show (i+1) * 2+1 - 2=i * 2+1 by omega] using this.2
structure PV (w:World) (v:Value) (l:Prs):Prop where
 mem:∃ F c,v = .slice F l.length c/\l.length<=c/\(F=none->c=0)/\∀ j u,(prL l)[j]? = some u->∃ ad,F=some ad/\ad.block < w.heap.size/\w.cell? (ad.add j)=some u
section
variable {w w':World} {v:Value} {l:Prs} {S:List Nat}
theorem PV.form (h:PV w v l):∃ F n c,v = .slice F n c:=by
 obtain ⟨F,c,e,_⟩:=h.mem
 exact ⟨F,_,c,e⟩
theorem PV.at_ (h:PV w v l):∃ F c,v = .slice F l.length c/\l.length<=c/\(F=none->c=0)/\∀ i (h:i < l.length), ∃ g off,F=some ⟨g,off,none⟩/\g < w.heap.size/\w.cell? ⟨g,off+i * 2,none⟩=some (.int .u64 (l[i].1:Nat))/\w.cell? ⟨g,off+i * 2+1,none⟩=some (.int .u64 (l[i].2:Nat)):=by
 obtain ⟨F,c,e,h1,h2,h3⟩:=h.mem
 refine ⟨F,c,e,h1,h2,fun i hi=>?_⟩
 obtain ⟨a1,a2⟩:=prL_at l i hi
 obtain ⟨ad,rfl,h4,h5⟩:=h3 _ _ a1
 obtain ⟨ad2,e2,_,h6⟩:=h3 _ _ a2
 injection e2 with e2
 subst e2
 obtain ⟨g,off,sp⟩:=ad
 cases sp with
 | none =>
  rw [Addr.add_lit] at h5 h6
  exact ⟨g,off,rfl,h4,h5,h6⟩
 | some s =>
  obtain ⟨ad,e3,_,h7⟩:=h3 0 _ (prL_at l 0 (by omega)).1
  injection e3 with e3
  subst e3
  unfold World.cell? at h7
  simp [Addr.add] at h7
  split at h7 <;> cases h7
theorem PV.below (h:PV w v l) (hb:Below w.heap.size w w'):PV w' v l:=by
 obtain ⟨F,c,e,h1,h2,h3⟩:=h.mem
 refine ⟨F,c,e,h1,h2,fun i u hi=>?_⟩
 obtain ⟨ad,e2,h4,h5⟩:=h3 i u hi
 exact ⟨ad,e2,Nat.lt_of_lt_of_le h4 hb.size,(hb.cell (p:=ad.add i) (by rw [ad_block];exact h4)).trans h5⟩
theorem PV.drewn (h:PV w v l) (k:Nat):PV (w.drewN k) v l:=⟨h.mem⟩
theorem PV.nil (w:World):PV w (.slice none 0 0) []:=⟨none,0,rfl,Nat.le_refl _,fun _=>rfl,fun i u hi=>by simp [prL] at hi⟩
theorem PV.of_own {B:Nat} {e:TypeId} (h:w.ownsRow B e 2 v l.length (prL l)):PV w v l:=by
 rcases h.2 with ⟨rfl,h0⟩ | ⟨g,cap,cur,rfl,hB,hg,hle,_⟩
 ·have:l=[]:=List.length_eq_zero_iff.1 h0
  subst this
  exact PV.nil w
 ·exact ⟨_,_,rfl,hle,(fun e=>by cases e),fun i u hi=>⟨_,rfl,(Array.getElem?_eq_some_iff.1 hg).1,h.cells (g:=g) rfl i u hi⟩⟩
theorem PV.keep (h:PV w v l) (hs:w.heap.size<=w'.heap.size) (hk:∀ F c ad,v = .slice F l.length c->F=some ad->0 < l.length->w'.heap[ad.block]? = w.heap[ad.block]?):PV w' v l:=by
 obtain ⟨F,c,e,h1,h2,h3⟩:=h.mem
 refine ⟨F,c,e,h1,h2,fun i u hi=>?_⟩
 obtain ⟨ad,e2,h4,h5⟩:=h3 i u hi
 refine ⟨ad,e2,Nat.lt_of_lt_of_le h4 hs,?_⟩
 refine Eq.trans (World.cell?_of_block (w:=w) ?_) h5
 rw [ad_block]
 refine hk F c ad e e2 ?_
 have:=(List.getElem?_eq_some_iff.1 hi).1
 rw [prL_len] at this
 omega
theorem PV.only (h:PV w v l) (ho:Only S w w') (hS:∀ g∈S,Bx w g):PV w' v l:=by
 refine h.keep ho.size (fun F c ad e e2 hl=>?_)
 obtain ⟨F',c',e',_,_,h3⟩:=h.at_
 obtain ⟨g,off,e3,hg,h7,_⟩:=h3 0 hl
 rw [e] at e'
 injection e' with e4 _ _
 rw [<- e4,e2] at e3
 injection e3 with e3
 subst e3
 refine ho.block _ hg (fun hm=>?_)
 obtain ⟨cs,t,hg2,hn,_⟩:=hS _ hm
 unfold World.cell? at h7
 rw [hg2] at h7
 exact hn.at_ (by simpa using h7)
end
structure OwnP (B:Nat) (w0 w:World) (v:Value) (l:Prs):Prop where
 low:Below B w0 w
 own:w.ownsRow B PairT 2 v l.length (prL l)
section
variable {B:Nat} {w0 w w':World} {v:Value} {l:Prs}
theorem OwnP.pv (h:OwnP B w0 w v l):PV w v l:=PV.of_own h.own
theorem OwnP.nil (h:Below B w0 w):OwnP B w0 w (.slice none 0 0) []:=⟨h,World.ownsRow_nil _ _ _ _⟩
theorem OwnP.alloc (h:OwnP B w0 w v l) (hB:B<=w.heap.size) (o:Obj):OwnP B w0 (w.alloc o) v l:=⟨h.low.alloc hB o,h.own.alloc o⟩
theorem OwnP.drewn (h:OwnP B w0 w v l) (k:Nat):OwnP B w0 (w.drewN k) v l:=⟨below_drewn h.low k,h.own⟩
theorem OwnP.below (h:OwnP B w0 w v l) (hB:B<=w.heap.size) (hb:Below w.heap.size w w'):OwnP B w0 w' v l:=⟨h.low.trans (hb.mono hB),own_below h.own hb⟩
theorem PV.one (w:World) (k x:Nat):PV (w.alloc (.cells #[.int .u64 (k:Nat),.int .u64 (x:Nat)] PairT)) (.slice (some ⟨w.heap.size,0,none⟩) 1 1) [(k,x)] :=
 PV.of_own (l:=[(k,x)]) (World.ownsRow_lit (base:=0) (size:=2) w #[.int .u64 (k:Nat),.int .u64 (x:Nat)] 1 (Nat.zero_le _) (by unfold maxLen;omega) rfl)
end
theorem wpList_append_pv {P:Program} {w:World} {ops:Array Oper} {rest:List Oper} {o:Oper} {a:Act} {Q:Exit->Act->World->Prop} {t:TypeId} (hgd:o.guard=none) (s x:Operand)
  (ho:o.op = .call { callee := .builtin .append,args:=#[s,x],argTypes:=#[t,t] }) (base:Nat) (ht:P.underlying t=some (.slice PairT))
  (hinfo:(P.info? PairT).map (fun i=>(i.zero,i.size,i.bytes))=some (some (.agg #[.int .u64 0,.int .u64 0]),2,16))
  (v:Value) (l:Prs) (hs:a.eval s=v) {w0:World} (hown:OwnP base w0 w v l) (y:Value) (m:Prs) (hx:a.eval x=y)
  (hsrc:PV w y m) (h63:l.length+m.length<=1000000000) (hbase:base<=w.heap.size)
  (h:∀ v' w',OwnP base w0 w' v' (l ++ m)->w.grownBy w' v.ownBlock->(v'.ownBlock=v.ownBlock∨v'.ownBlock=some w.heap.size)->wpList P ops Q rest (a.put o.dst v') w'):wpList P ops Q (o :: rest) a w:=by
 obtain ⟨F,c,rfl,h1,h2,h3⟩:=hsrc.mem
 refine wpList_append_raw hgd s x t ho base PairT (.agg #[.int .u64 0,.int .u64 0]) 2 16 ht hinfo rfl (by decide) v l.length (prL l) hs hown.own hown.low m.length (prL m) F c hx (prL_len m) h1 h2 (fun j u hu=>?_) (prL_one m) (by omega) h63 hbase ?_
 ·obtain ⟨ad,e,_,h5⟩:=h3 j u hu
  exact ⟨ad,e,h5⟩
 ·intro v' w' g1 g2 g3 g4 _
  refine h v' w' ⟨g2,?_⟩ g3 g4
  rw [List.length_append,<- prL_append]
  exact g1
structure Sl where
 F:Option Addr
 n:Nat
 c:Nat
structure V13 where
 p:Int
 c8:Int
 l8:Sl
 c9:Int
 i9:Sl
 o9:Sl
 m9:Sl
 c10:Int
 s10:Sl
 m10:Sl
 g10:Sl
 c11:Int
 p11:Int
 t11:Sl
 u11:Sl
 b11:Sl
 d11:Sl
 c12:Int
 s12:Sl
 q12:Sl
 pr:Sl
 hi:Int
 mi:Int
 ev:Int
abbrev V13.C (x:V13):Array Value:=#[.int .i64 x.p,.int .i64 x.c8,.slice x.l8.F x.l8.n x.l8.c,.int .i64 x.c9,.slice x.i9.F x.i9.n x.i9.c,.slice x.o9.F x.o9.n x.o9.c,.slice x.m9.F x.m9.n x.m9.c,.int .i64 x.c10,.slice x.s10.F x.s10.n x.s10.c,.slice x.m10.F x.m10.n x.m10.c,.slice x.g10.F x.g10.n x.g10.c,.int .i64 x.c11,.int .i64 x.p11,.slice x.t11.F x.t11.n x.t11.c,.slice x.u11.F x.u11.n x.u11.c,.slice x.b11.F x.b11.n x.b11.c,.slice x.d11.F x.d11.n x.d11.c,.int .i64 x.c12,.slice x.s12.F x.s12.n x.s12.c,.slice x.q12.F x.q12.n x.q12.c,.slice x.pr.F x.pr.n x.pr.c,.int .i64 x.hi,.int .i64 x.mi,.int .i64 x.ev]
abbrev z13:Array Value:=#[.int .i64 0,.int .i64 0,.slice none 0 0,.int .i64 0,.slice none 0 0,.slice none 0 0,.slice none 0 0,.int .i64 0,.slice none 0 0,.slice none 0 0,.slice none 0 0,.int .i64 0,.int .i64 0,.slice none 0 0,.slice none 0 0,.slice none 0 0,.slice none 0 0,.int .i64 0,.slice none 0 0,.slice none 0 0,.slice none 0 0,.int .i64 0,.int .i64 0,.int .i64 0]
abbrev PT13:TypeId:=42
abbrev T13:TypeId:=53
def PolIn (w:World) (x:V13):PS->Prop
 | .lru s=>x.p=1/\x.c8=(s.c:Nat)/\St8 w s (.slice x.l8.F x.l8.n x.l8.c)
 | .twoq s=>x.p=2/\x.c9=(s.c:Nat)/\St9 w s (.slice x.i9.F x.i9.n x.i9.c) (.slice x.o9.F x.o9.n x.o9.c) (.slice x.m9.F x.m9.n x.m9.c)
 | .sthree s=>x.p=3/\x.c10=(s.c:Nat)/\St10 w s (.slice x.s10.F x.s10.n x.s10.c) (.slice x.m10.F x.m10.n x.m10.c) (.slice x.g10.F x.g10.n x.g10.c)
 | .arc s=>x.p=4/\x.c11=(s.c:Nat)/\x.p11=(s.p:Nat)/\St11 w s (.slice x.t11.F x.t11.n x.t11.c) (.slice x.u11.F x.u11.n x.u11.c) (.slice x.b11.F x.b11.n x.b11.c) (.slice x.d11.F x.d11.n x.d11.c)
 | .lirs s=>x.p=5/\x.c12=(s.c:Nat)/\St12 w s (.slice x.s12.F x.s12.n x.s12.c) (.slice x.q12.F x.q12.n x.q12.c)
structure St13 (w:World) (m:M13) (x:V13):Prop where
 pol:PolIn w x m.ps
 prs:PV w (.slice x.pr.F x.pr.n x.pr.c) m.prs
 hi:x.hi=(m.hits:Nat)
 mi:x.mi=(m.misses:Nat)
 ev:x.ev=(m.ev:Nat)
section
variable {w w':World} {x:V13} {s:PS} {m:M13} {S:List Nat}
theorem PolIn.below (h:PolIn w x s) (hb:Below w.heap.size w w'):PolIn w' x s:=by
 cases s
 ·obtain ⟨h1,a0,h3⟩:=h
  exact ⟨h1,a0,h3.below hb⟩
 ·obtain ⟨h1,a0,h3⟩:=h
  exact ⟨h1,a0,h3.below hb⟩
 ·obtain ⟨h1,a0,h3⟩:=h
  exact ⟨h1,a0,h3.below hb⟩
 ·obtain ⟨h1,a0,a1,h3⟩:=h
  exact ⟨h1,a0,a1,h3.below hb⟩
 ·obtain ⟨h1,a0,h3⟩:=h
  exact ⟨h1,a0,h3.below hb⟩
theorem PolIn.only (h:PolIn w x s) (ho:Only S w w') (hS:∀ g∈S,Bx w g):PolIn w' x s:=by
 cases s
 ·obtain ⟨h1,a0,h3⟩:=h
  exact ⟨h1,a0,⟨h3.g1.only ho hS⟩⟩
 ·obtain ⟨h1,a0,h3⟩:=h
  exact ⟨h1,a0,⟨h3.g1.only ho hS,h3.g2.only ho hS,h3.g3.only ho hS⟩⟩
 ·obtain ⟨h1,a0,h3⟩:=h
  exact ⟨h1,a0,⟨h3.g1.only ho hS,h3.g2.only ho hS,h3.g3.only ho hS⟩⟩
 ·obtain ⟨h1,a0,a1,h3⟩:=h
  exact ⟨h1,a0,a1,⟨h3.g1.only ho hS,h3.g2.only ho hS,h3.g3.only ho hS,h3.g4.only ho hS⟩⟩
 ·obtain ⟨h1,a0,h3⟩:=h
  exact ⟨h1,a0,⟨h3.g1.only ho hS,h3.g2.only ho hS⟩⟩
theorem PolIn.onlyN (h:PolIn w x s) (ho:Only S w w') (hS:∀ g∈S,Bn w g):PolIn w' x s:=by
 cases s
 ·obtain ⟨h1,a0,h3⟩:=h
  exact ⟨h1,a0,⟨h3.g1.onlyN ho hS⟩⟩
 ·obtain ⟨h1,a0,h3⟩:=h
  exact ⟨h1,a0,⟨h3.g1.onlyN ho hS,h3.g2.onlyN ho hS,h3.g3.onlyN ho hS⟩⟩
 ·obtain ⟨h1,a0,h3⟩:=h
  exact ⟨h1,a0,⟨h3.g1.onlyN ho hS,h3.g2.onlyN ho hS,h3.g3.onlyN ho hS⟩⟩
 ·obtain ⟨h1,a0,a1,h3⟩:=h
  exact ⟨h1,a0,a1,⟨h3.g1.onlyN ho hS,h3.g2.onlyN ho hS,h3.g3.onlyN ho hS,h3.g4.onlyN ho hS⟩⟩
 ·obtain ⟨h1,a0,h3⟩:=h
  exact ⟨h1,a0,⟨h3.g1.onlyN ho hS,h3.g2.onlyN ho hS⟩⟩
theorem St13.below (h:St13 w m x) (hb:Below w.heap.size w w'):St13 w' m x:=⟨h.pol.below hb,h.prs.below hb,h.hi,h.mi,h.ev⟩
theorem St13.only (h:St13 w m x) (ho:Only S w w') (hS:∀ g∈S,Bx w g):St13 w' m x:=⟨h.pol.only ho hS,h.prs.only ho hS,h.hi,h.mi,h.ev⟩
end
structure S13 (w:World) (T:TypeId) (b:Nat) (m:M13) (x:V13):Prop where
 box:w.heap[b]? = some (.cells x.C T (0,0))
 ty:T≠56
 st:St13 w m x
section
variable {w w':World} {T:TypeId} {b:Nat} {m:M13} {x:V13}
theorem V13.nou (x:V13):NoU x.C:=rfl
theorem S13.bx (h:S13 w T b m x):∀ g∈[b],Bx w g:=fun g hg=>by
 rw [List.mem_singleton] at hg
 subst hg
 exact ⟨_,_,h.box,x.nou,h.ty⟩
theorem S13.lt (h:S13 w T b m x):b < w.heap.size:=(head_row h.box).lt
theorem S13.below (h:S13 w T b m x) (hb:Below w.heap.size w w'):S13 w' T b m x:=⟨(hb.block b h.lt).trans h.box,h.ty,h.st.below hb⟩
theorem S13.kv {v:Value} {ks:List Nat} (h:S13 w T b m x) (ho:Only [b] w w') (hk:KV w v ks):KV w' v ks:=hk.only ho h.bx
theorem S13.pv {v:Value} {l:Prs} (h:S13 w T b m x) (ho:Only [b] w w') (hk:PV w v l):PV w' v l:=hk.only ho h.bx
theorem box_cells (h:w.heap[b]? = some (.cells x.C T (0,0))):w.cell? ⟨b,0,none⟩=some (.int .i64 x.p)/\w.cell? ⟨b,1,none⟩=some (.int .i64 x.c8)/\w.cell? ⟨b,2,none⟩=some (.slice x.l8.F x.l8.n x.l8.c)/\w.cell? ⟨b,3,none⟩=some (.int .i64 x.c9)/\w.cell? ⟨b,4,none⟩=some (.slice x.i9.F x.i9.n x.i9.c)/\w.cell? ⟨b,5,none⟩=some (.slice x.o9.F x.o9.n x.o9.c)/\w.cell? ⟨b,6,none⟩=some (.slice x.m9.F x.m9.n x.m9.c)/\w.cell? ⟨b,7,none⟩=some (.int .i64 x.c10)/\w.cell? ⟨b,8,none⟩=some (.slice x.s10.F x.s10.n x.s10.c)/\w.cell? ⟨b,9,none⟩=some (.slice x.m10.F x.m10.n x.m10.c)/\w.cell? ⟨b,10,none⟩=some (.slice x.g10.F x.g10.n x.g10.c)/\w.cell? ⟨b,11,none⟩=some (.int .i64 x.c11)/\w.cell? ⟨b,12,none⟩=some (.int .i64 x.p11)/\w.cell? ⟨b,13,none⟩=some (.slice x.t11.F x.t11.n x.t11.c)/\w.cell? ⟨b,14,none⟩=some (.slice x.u11.F x.u11.n x.u11.c)/\w.cell? ⟨b,15,none⟩=some (.slice x.b11.F x.b11.n x.b11.c)/\w.cell? ⟨b,16,none⟩=some (.slice x.d11.F x.d11.n x.d11.c)/\w.cell? ⟨b,17,none⟩=some (.int .i64 x.c12)/\w.cell? ⟨b,18,none⟩=some (.slice x.s12.F x.s12.n x.s12.c)/\w.cell? ⟨b,19,none⟩=some (.slice x.q12.F x.q12.n x.q12.c)/\w.cell? ⟨b,20,none⟩=some (.slice x.pr.F x.pr.n x.pr.c)/\w.cell? ⟨b,21,none⟩=some (.int .i64 x.hi)/\w.cell? ⟨b,22,none⟩=some (.int .i64 x.mi)/\w.cell? ⟨b,23,none⟩=some (.int .i64 x.ev) :=
 ⟨(head_row h).cell (i:=0) (by simp),(head_row h).cell (i:=1) (by simp),(head_row h).cell (i:=2) (by simp),(head_row h).cell (i:=3) (by simp),(head_row h).cell (i:=4) (by simp),(head_row h).cell (i:=5) (by simp),(head_row h).cell (i:=6) (by simp),(head_row h).cell (i:=7) (by simp),(head_row h).cell (i:=8) (by simp),(head_row h).cell (i:=9) (by simp),(head_row h).cell (i:=10) (by simp),(head_row h).cell (i:=11) (by simp),(head_row h).cell (i:=12) (by simp),(head_row h).cell (i:=13) (by simp),(head_row h).cell (i:=14) (by simp),(head_row h).cell (i:=15) (by simp),(head_row h).cell (i:=16) (by simp),(head_row h).cell (i:=17) (by simp),(head_row h).cell (i:=18) (by simp),(head_row h).cell (i:=19) (by simp),(head_row h).cell (i:=20) (by simp),(head_row h).cell (i:=21) (by simp),(head_row h).cell (i:=22) (by simp),(head_row h).cell (i:=23) (by simp)⟩
theorem box_free (h:w.heap[b]? = some (.cells x.C T (0,0))) (i:Nat):w.frozen? ⟨b,i,none⟩=false:=(head_row h).frozen i
set_option maxHeartbeats 4000000 in
theorem box_set8 (h:w.heap[b]? = some (.cells x.C T (0,0))) (v1:Int) (F2:Option Addr) (n2 d2:Nat):((w.setCell ⟨b,1,none⟩ (.int .i64 v1)).setCell ⟨b,2,none⟩ (.slice F2 n2 d2)).heap[b]? = some (.cells ({ x with c8:=v1,l8:=⟨F2,n2,d2⟩ }:V13).C T (0,0))/\Only [b] w ((w.setCell ⟨b,1,none⟩ (.int .i64 v1)).setCell ⟨b,2,none⟩ (.slice F2 n2 d2)) :=
 ⟨set_one (set_one (h)),((Only.refl _ _).setCell (by simp) _).setCell (by simp) _⟩
set_option maxHeartbeats 4000000 in
theorem box_set9 (h:w.heap[b]? = some (.cells x.C T (0,0))) (v3:Int) (F4:Option Addr) (n4 d4:Nat) (F5:Option Addr) (n5 d5:Nat) (F6:Option Addr) (n6 d6:Nat):((((w.setCell ⟨b,3,none⟩ (.int .i64 v3)).setCell ⟨b,4,none⟩ (.slice F4 n4 d4)).setCell ⟨b,5,none⟩ (.slice F5 n5 d5)).setCell ⟨b,6,none⟩ (.slice F6 n6 d6)).heap[b]? = some (.cells ({ x with c9:=v3,i9:=⟨F4,n4,d4⟩,o9:=⟨F5,n5,d5⟩,m9:=⟨F6,n6,d6⟩ }:V13).C T (0,0))/\Only [b] w ((((w.setCell ⟨b,3,none⟩ (.int .i64 v3)).setCell ⟨b,4,none⟩ (.slice F4 n4 d4)).setCell ⟨b,5,none⟩ (.slice F5 n5 d5)).setCell ⟨b,6,none⟩ (.slice F6 n6 d6)) :=
 ⟨set_one (set_one (set_one (set_one (h)))),((((Only.refl _ _).setCell (by simp) _).setCell (by simp) _).setCell (by simp) _).setCell (by simp) _⟩
set_option maxHeartbeats 4000000 in
theorem box_set10 (h:w.heap[b]? = some (.cells x.C T (0,0))) (v7:Int) (F8:Option Addr) (n8 d8:Nat) (F9:Option Addr) (n9 d9:Nat) (F10:Option Addr) (n10 d10:Nat):((((w.setCell ⟨b,7,none⟩ (.int .i64 v7)).setCell ⟨b,8,none⟩ (.slice F8 n8 d8)).setCell ⟨b,9,none⟩ (.slice F9 n9 d9)).setCell ⟨b,10,none⟩ (.slice F10 n10 d10)).heap[b]? = some (.cells ({ x with c10:=v7,s10:=⟨F8,n8,d8⟩,m10:=⟨F9,n9,d9⟩,g10:=⟨F10,n10,d10⟩ }:V13).C T (0,0))/\Only [b] w ((((w.setCell ⟨b,7,none⟩ (.int .i64 v7)).setCell ⟨b,8,none⟩ (.slice F8 n8 d8)).setCell ⟨b,9,none⟩ (.slice F9 n9 d9)).setCell ⟨b,10,none⟩ (.slice F10 n10 d10)) :=
 ⟨set_one (set_one (set_one (set_one (h)))),((((Only.refl _ _).setCell (by simp) _).setCell (by simp) _).setCell (by simp) _).setCell (by simp) _⟩
set_option maxHeartbeats 4000000 in
theorem box_set11 (h:w.heap[b]? = some (.cells x.C T (0,0))) (v11:Int) (v12:Int) (F13:Option Addr) (n13 d13:Nat) (F14:Option Addr) (n14 d14:Nat) (F15:Option Addr) (n15 d15:Nat) (F16:Option Addr) (n16 d16:Nat):((((((w.setCell ⟨b,11,none⟩ (.int .i64 v11)).setCell ⟨b,12,none⟩ (.int .i64 v12)).setCell ⟨b,13,none⟩ (.slice F13 n13 d13)).setCell ⟨b,14,none⟩ (.slice F14 n14 d14)).setCell ⟨b,15,none⟩ (.slice F15 n15 d15)).setCell ⟨b,16,none⟩ (.slice F16 n16 d16)).heap[b]? = some (.cells ({ x with c11:=v11,p11:=v12,t11:=⟨F13,n13,d13⟩,u11:=⟨F14,n14,d14⟩,b11:=⟨F15,n15,d15⟩,d11:=⟨F16,n16,d16⟩ }:V13).C T (0,0))/\Only [b] w ((((((w.setCell ⟨b,11,none⟩ (.int .i64 v11)).setCell ⟨b,12,none⟩ (.int .i64 v12)).setCell ⟨b,13,none⟩ (.slice F13 n13 d13)).setCell ⟨b,14,none⟩ (.slice F14 n14 d14)).setCell ⟨b,15,none⟩ (.slice F15 n15 d15)).setCell ⟨b,16,none⟩ (.slice F16 n16 d16)) :=
 ⟨set_one (set_one (set_one (set_one (set_one (set_one (h)))))),((((((Only.refl _ _).setCell (by simp) _).setCell (by simp) _).setCell (by simp) _).setCell (by simp) _).setCell (by simp) _).setCell (by simp) _⟩
set_option maxHeartbeats 4000000 in
theorem box_set12 (h:w.heap[b]? = some (.cells x.C T (0,0))) (v17:Int) (F18:Option Addr) (n18 d18:Nat) (F19:Option Addr) (n19 d19:Nat):(((w.setCell ⟨b,17,none⟩ (.int .i64 v17)).setCell ⟨b,18,none⟩ (.slice F18 n18 d18)).setCell ⟨b,19,none⟩ (.slice F19 n19 d19)).heap[b]? = some (.cells ({ x with c12:=v17,s12:=⟨F18,n18,d18⟩,q12:=⟨F19,n19,d19⟩ }:V13).C T (0,0))/\Only [b] w (((w.setCell ⟨b,17,none⟩ (.int .i64 v17)).setCell ⟨b,18,none⟩ (.slice F18 n18 d18)).setCell ⟨b,19,none⟩ (.slice F19 n19 d19)) :=
 ⟨set_one (set_one (set_one (h))),(((Only.refl _ _).setCell (by simp) _).setCell (by simp) _).setCell (by simp) _⟩
set_option maxHeartbeats 4000000 in
theorem box_setp (h:w.heap[b]? = some (.cells x.C T (0,0))) (F20:Option Addr) (n20 d20:Nat):(w.setCell ⟨b,20,none⟩ (.slice F20 n20 d20)).heap[b]? = some (.cells ({ x with pr:=⟨F20,n20,d20⟩ }:V13).C T (0,0))/\Only [b] w (w.setCell ⟨b,20,none⟩ (.slice F20 n20 d20)) :=
 ⟨set_one (h),(Only.refl _ _).setCell (by simp) _⟩
set_option maxHeartbeats 4000000 in
theorem box_seth (h:w.heap[b]? = some (.cells x.C T (0,0))) (v21:Int):(w.setCell ⟨b,21,none⟩ (.int .i64 v21)).heap[b]? = some (.cells ({ x with hi:=v21 }:V13).C T (0,0))/\Only [b] w (w.setCell ⟨b,21,none⟩ (.int .i64 v21)) :=
 ⟨set_one (h),(Only.refl _ _).setCell (by simp) _⟩
set_option maxHeartbeats 4000000 in
theorem box_setm (h:w.heap[b]? = some (.cells x.C T (0,0))) (v22:Int):(w.setCell ⟨b,22,none⟩ (.int .i64 v22)).heap[b]? = some (.cells ({ x with mi:=v22 }:V13).C T (0,0))/\Only [b] w (w.setCell ⟨b,22,none⟩ (.int .i64 v22)) :=
 ⟨set_one (h),(Only.refl _ _).setCell (by simp) _⟩
set_option maxHeartbeats 4000000 in
theorem box_sete (h:w.heap[b]? = some (.cells x.C T (0,0))) (v23:Int):(w.setCell ⟨b,23,none⟩ (.int .i64 v23)).heap[b]? = some (.cells ({ x with ev:=v23 }:V13).C T (0,0))/\Only [b] w (w.setCell ⟨b,23,none⟩ (.int .i64 v23)) :=
 ⟨set_one (h),(Only.refl _ _).setCell (by simp) _⟩
end
abbrev op13C (x:Op13):Array Value:=#[.int .i64 x.kind,.int .u64 (x.key:Nat),.int .u64 (x.val:Nat),.int .i64 x.n]
def OpAt (w:World) (g o:Nat) (x:Op13):Prop:=w.cell? ⟨g,o,none⟩=some (.int .i64 x.kind)/\w.cell? ⟨g,o+1,none⟩=some (.int .u64 (x.key:Nat))/\w.cell? ⟨g,o+2,none⟩=some (.int .u64 (x.val:Nat))/\w.cell? ⟨g,o+3,none⟩=some (.int .i64 x.n)
structure OV (w:World) (v:Value) (l:List Op13):Prop where
 mem:∃ A c,v = .slice A l.length c/\∀ i (h:i < l.length),l[i].Ok/\∃ g off,A=some ⟨g,off,none⟩/\g < w.heap.size/\OpAt w g (off+i * 4) l[i]
theorem OpAt.keep {w w':World} {g o:Nat} {x:Op13} (h:OpAt w g o x) (e:w'.heap[g]? = w.heap[g]?):OpAt w' g o x :=
 ⟨(World.cell?_of_block (w:=w) (a:=⟨g,o,none⟩) e).trans h.1,(World.cell?_of_block (w:=w) (a:=⟨g,o+1,none⟩) e).trans h.2.1,(World.cell?_of_block (w:=w) (a:=⟨g,o+2,none⟩) e).trans h.2.2.1,(World.cell?_of_block (w:=w) (a:=⟨g,o+3,none⟩) e).trans h.2.2.2⟩
theorem OV.below {w w':World} {v:Value} {l:List Op13} (h:OV w v l) (hb:Below w.heap.size w w'):OV w' v l:=by
 obtain ⟨A,c,e,h1⟩:=h.mem
 refine ⟨A,c,e,fun i hi=>?_⟩
 obtain ⟨ok,g,off,e2,hg,hc⟩:=h1 i hi
 exact ⟨ok,g,off,e2,Nat.lt_of_lt_of_le hg hb.size,hc.keep (hb.block g hg)⟩
def few13 (l:List Op13):Bool:=decide (l.length<=60) && l.all (fun o=>decide (¬ (14 < o.n/\o.n<=1048576)))
theorem few13_len {l:List Op13} (h:few13 l=true):l.length<=60:=by
 unfold few13 at h
 simp only [Bool.and_eq_true,decide_eq_true_eq] at h
 exact h.1
theorem few13_small {l:List Op13} (h:few13 l=true):∀ o∈l,o.Small:=by
 unfold few13 at h
 simp only [Bool.and_eq_true,List.all_eq_true,decide_eq_true_eq] at h
 exact fun o ho=>h.2 o ho
abbrev an13C (hit:Bool) (v n er:Nat) (F:Option Addr) (k d:Nat):Array Value:=#[.bool hit,.int .u64 (v:Nat),.int .i64 (n:Nat),.slice F k d,.int .i64 (er:Nat)]
def P13 (w:World) (m:M13) (a:An13) (e:Ending) (w':World):Prop:=∃ (x:V13) (F:Option Addr) (k d:Nat),e = .returned (.tuple #[.agg x.C,.agg (an13C a.hit a.val a.n a.err F k d)])/\Below w.heap.size w w'/\St13 w' m x/\PV w' (.slice F k d) a.out
end Go.Proofs.YtcpggonengkgiaaGreatDoor
namespace Go.Proofs.YtcpggonengkgiaaGreatDoor
open Go Go.ChangeShapes Go.WideShapes Go.RowKit Go.Deep
section
variable {H:Type} {enc:TypeId × Value->H} {w:World} {base:Nat} {sp:Nat->Bool} {held:Bool}
theorem wf_i64 {n:Int} (h:(Lit.int .i64 n).wf=true) : -9223372036854775808<=n/\n<=9223372036854775807:=by
 simp only [Lit.wf,Bool.and_eq_true,decide_eq_true_eq] at h
 have h1:IntKind.i64.min = -9223372036854775808:=rfl
 have h2:IntKind.i64.max=9223372036854775807:=rfl
 omega
theorem open_op_cells {n:Nat} {cs:List Value} {x:DataW H × List MemPlace} (h:DataW.trod enc Tryz.prog w base sp held n 63 cs=some x) :
  ∃ a:Op13,a.Ok/\cs=[.int .i64 a.kind,.int .u64 (a.key:Nat),.int .u64 (a.val:Nat),.int .i64 a.n]:=by
 have hs:=Tryz.underlying63
 have k1:Tryz.prog.cellsOf 3=1:=by kernel_rfl
 have k2:Tryz.prog.cellsOf 56=1:=by kernel_rfl
 have k0:Tryz.prog.cellsOf 63=4:=by kernel_rfl
 obtain ⟨xs,m,_,hx,hl,hlen,hg⟩:=DataW.trod_struct hs h
 rw [k0] at hl
 rcases cs with _ | ⟨c0,_ | ⟨c1,_ | ⟨c2,_ | ⟨c3,_ | ⟨c4,cs⟩⟩⟩⟩⟩
 case cons.cons.cons.cons.nil =>
  have g0:DataW.trod enc Tryz.prog w base sp held m 3 (List.take (Tryz.prog.cellsOf 3) (List.drop 0 [c0,c1,c2,c3]))=xs[0]? := hg 0 _ rfl
  have g1:DataW.trod enc Tryz.prog w base sp held m 56 (List.take (Tryz.prog.cellsOf 56) (List.drop 1 [c0,c1,c2,c3]))=xs[1]? := hg 1 _ rfl
  have g2:DataW.trod enc Tryz.prog w base sp held m 56 (List.take (Tryz.prog.cellsOf 56) (List.drop 2 [c0,c1,c2,c3]))=xs[2]? := hg 2 _ rfl
  have g3:DataW.trod enc Tryz.prog w base sp held m 3 (List.take (Tryz.prog.cellsOf 3) (List.drop 3 [c0,c1,c2,c3]))=xs[3]? := hg 3 _ rfl
  rw [k1] at g0 g3
  rw [k2] at g1 g2
  simp only [List.drop,List.take] at g0 g1 g2 g3
  have e:∀ j,j < 4->∃ z,xs[j]? = some z:=fun j hj=>⟨_,List.getElem?_eq_getElem (by rw [hlen];simpa using hj)⟩
  obtain ⟨z0,f0⟩:=e 0 (by decide)
  obtain ⟨z1,f1⟩:=e 1 (by decide)
  obtain ⟨z2,f2⟩:=e 2 (by decide)
  obtain ⟨z3,f3⟩:=e 3 (by decide)
  obtain ⟨a0,q0,_,w0⟩:=DataW.trod_int Tryz.underlying3 (g0.trans f0)
  obtain ⟨a1,q1,_,w1⟩:=DataW.trod_int Tryz.underlying56 (g1.trans f1)
  obtain ⟨a2,q2,_,w2⟩:=DataW.trod_int Tryz.underlying56 (g2.trans f2)
  obtain ⟨a3,q3,_,w3⟩:=DataW.trod_int Tryz.underlying3 (g3.trans f3)
  simp only [List.cons.injEq,and_true] at q0 q1 q2 q3
  subst q0 q1 q2 q3
  obtain ⟨b1,rfl,hb1⟩:=u64_nat w1
  obtain ⟨b2,rfl,hb2⟩:=u64_nat w2
  have m0:=wf_i64 w0
  have m3:=wf_i64 w3
  exact ⟨⟨a0,b1,b2,a3⟩,⟨m0.1,m0.2,hb1,hb2,m3.1,m3.2⟩,rfl⟩
 all_goals simp at hl
set_option maxRecDepth 8000 in
theorem open_op {r:Reach} {b0:Nat} {v:Value} {d:DataW H} {p:List MemPlace} (hv:Value.okWide Tryz.prog w r b0 63 v) (h:DataW.Trod enc Tryz.prog w base sp held 63 v d p):∃ a:Op13,a.Ok/\v = .agg (op13C a):=by
 obtain ⟨cs,rfl,_⟩:=okWide_struct Tryz.underlying63 hv
 obtain ⟨fuel,hf⟩:=h
 obtain ⟨a,ha,e⟩:=open_op_cells (cs:=cs.toList) (by simpa [Value.cells] using hf)
 refine ⟨a,ha,?_⟩
 have:cs=op13C a:=by
  apply Array.toList_inj.1
  rw [e]
 rw [this]
set_option maxRecDepth 8000 in
theorem open_ops {r:Reach} {b0:Nat} {v:Value} {d:DataW H} {p:List MemPlace} (hv:Value.okWide Tryz.prog w r b0 22 v) (h:DataW.Trod enc Tryz.prog w 0 (fun _=>true) held 22 v d p)
  (hlt:∀ x∈p,x.block < w.heap.size):∃ l:List Op13,OV w v l:=by
 obtain ⟨A,n,c,rfl⟩:=okWide_slice Tryz.underlying22 hv
 have k0:Tryz.prog.cellsOf 63=4:=by kernel_rfl
 obtain ⟨fuel,hf⟩:=h
 rcases open_slice Tryz.underlying22 hf with ⟨h0,_⟩ | ⟨a,len,cap,m,q,D,Pl,hcs,hb,hl,hm,hmm,hx,hi⟩
 ·simp only [Value.cells,List.cons.injEq,and_true] at h0
  injection h0 with h1 h2 h3
  subst h1 h2 h3
  exact ⟨[],⟨none,0,rfl,fun i hi=>by simp at hi⟩⟩
 ·have hcs':Value.slice A n c = .slice (some a) len cap:=by simpa [Value.cells] using hcs
  injection hcs' with h1 h2 h3
  subst h1 h2 h3
  rw [if_pos rfl] at hmm
  subst hmm
  rw [k0] at hx hi
  have key:∀ i,i < n->∃ y:Op13,y.Ok/\∀ j,j < 4->w.cell? (a.add (i * 4+j))=[Value.int .i64 y.kind,Value.int .u64 (y.key:Nat),Value.int .u64 (y.val:Nat),Value.int .i64 y.n][j]? := fun i hin=>by
   obtain ⟨cs',hc,ht⟩:=hi i (by omega)
   obtain ⟨y,hy,rfl⟩:=open_op_cells ht
   obtain ⟨_,_,hat⟩:=World.cells?_some hc
   exact ⟨y,hy,fun j hj=>by rw [<- Go.Deep.add_add];exact hat j hj⟩
  refine ⟨List.ofFn (fun i:Fin n=>(key i i.2).choose),⟨some a,m,by simp,fun i hi=>?_⟩⟩
  have hin:i < n:=by simpa using hi
  have hch:=(key i hin).choose_spec
  simp only [List.getElem_ofFn]
  generalize (key i hin).choose=y at hch
  obtain ⟨hy,hc⟩:=hch
  obtain ⟨g,off,spot⟩:=a
  have hspot:spot=none:=by
   obtain ⟨y0,_,hy0⟩:=key 0 (by omega)
   have:=World.cell?_spot ((hy0 0 (by decide)).trans rfl)
   simpa [Addr.add] using this
  subst hspot
  have hg:g < w.heap.size:=by
   have:MemPlace.cell g off∈p:=by
    rw [(Prod.mk.inj hx).2]
    refine List.mem_append_left _ ?_
    unfold MemPlace.row
    simp only [List.mem_map,List.mem_range]
    exact ⟨0,by omega,by simp⟩
   exact hlt _ this
  have e:∀ j,(⟨g,off,none⟩:Addr).add j=⟨g,off+j,none⟩:=fun j=>by simp [Addr.add_lit]
  simp only [e] at hc
  exact ⟨hy,g,off,rfl,hg,by simpa using hc 0 (by decide),by simpa [Nat.add_assoc] using hc 1 (by decide),by simpa [Nat.add_assoc] using hc 2 (by decide),by simpa [Nat.add_assoc] using hc 3 (by decide)⟩
end
end Go.Proofs.YtcpggonengkgiaaGreatDoor
namespace Go.Proofs.YtcpggonengkgiaaGreatDoor
open Go Go.RowKit Go.Deep
theorem L8.resize_perm {s:L8} (n:Int):(s.resizeOut n ++ (s.resize n).keys).Perm s.keys:=by
 show ((s.l.drop (capI n)).reverse ++ s.l.take (capI n)).Perm s.l
 refine (List.perm_append_comm.trans ((List.reverse_perm _).append_left _)).trans ?_
 rw [List.take_append_drop]
theorem PS.resize_perm {s:PS} (h:s.Ok) (n:Int):(s.resizeOut n ++ (s.resize n).keys).Perm s.keys/\(s.resize n).Ok:=by
 cases s with
 | lru s=>exact ⟨L8.resize_perm n,L8.Ok.resize h n⟩
 | twoq s=>exact ⟨(s.sized (capI n)).shr_keys (capI n),L9.Ok.resize h n⟩
 | sthree s=>exact ⟨L10.shr_keys ((L10.Ok.fine h).sized (capI n)) (capI n),L10.Ok.resize h n⟩
 | arc s=>exact ⟨(s.sized (capI n)).cut_keys (capI n) false,L11.Ok.resize h n⟩
 | lirs s=>exact ⟨(L12.Ok.resize' h n).2.1,(L12.Ok.resize' h n).1⟩
theorem PS.Ok.resizeI {s:PS} (h:s.Ok) (n:Int):(s.resize n).Ok/\(∀ a,a∈(s.resize n).keys ↔ a∈s.keys/\a∉s.resizeOut n)/\(∀ a∈s.resizeOut n,a∈s.keys)/\(s.resizeOut n).Nodup/\(s.resize n).keys.length+(s.resizeOut n).length=s.keys.length:=by
 obtain ⟨hp,hok⟩:=PS.resize_perm h n
 obtain ⟨h1,h2,h3,h4⟩:=L9.perm_evs hp h.nd
 refine ⟨hok,fun a=>⟨fun ha=>⟨hp.mem_iff.1 (List.mem_append_right _ ha),fun ho=>(h1 a ho).2 ha⟩,fun ha=>(h2 a ha.1).resolve_left ha.2⟩,fun a ha=>(h1 a ha).1,h3,h4⟩
namespace M13
variable {m:M13} {o:Op13}
theorem Ok.outI (h:m.Ok) (ho:o.Ok):(m.ans o).out.length<=2000000:=by
 by_cases hs:o.Small
 ·exact h.out ho hs
 ·by_cases h4:o.kind=4
  ·have hc:=h.ps.capLe
   have hl:=h.ps.len
   obtain ⟨-,-,-,-,h5⟩:=h.ps.resizeI o.n
   unfold M13.ans
   rw [if_neg (by omega),if_neg (by omega),if_neg (by omega),if_pos h4]
   split
   ·show (wentP _ _).length<=_
    rw [wentP_len]
    omega
   ·exact Nat.zero_le _
  ·have h5:=h.out (o:=⟨o.kind,o.key,o.val,0⟩) ⟨ho.kind1,ho.kind2,ho.key,ho.val,(by decide:(-9223372036854775808:Int)<=0),(by decide:(0:Int)<=9223372036854775807)⟩ (show ¬ (14 < (0:Int)/\(0:Int)<=1048576) from by decide)
   unfold M13.ans at h5 ⊢
   rw [if_neg h4] at *
   exact h5
theorem Ok.stepI (h:m.Ok) (ho:o.Ok):(m.step o).Ok:=by
 by_cases h4:o.kind=4
 ·unfold M13.step
  rw [if_neg (by omega),if_neg (by omega),if_neg (by omega),if_pos h4]
  split
  ·obtain ⟨h1,h2,-,-,-⟩:=h.ps.resizeI o.n
   obtain ⟨h5,h6⟩:=stayP_keys (m.ps.resizeOut o.n) m.prs h.nd
   refine ⟨h1,h5,fun a=>?_,fun p hp=>h.bd p (stayP_sub _ _ p hp)⟩
   show a∈keysP (stayP _ _) ↔ a∈(m.ps.resize o.n).keys
   rw [h6,h2,h.same]
   rfl
  ·exact h
 ·have h5:=h.step (o:=⟨o.kind,o.key,o.val,0⟩) ⟨ho.kind1,ho.kind2,ho.key,ho.val,(by decide:(-9223372036854775808:Int)<=0),(by decide:(0:Int)<=9223372036854775807)⟩ (show ¬ (14 < (0:Int)/\(0:Int)<=1048576) from by decide)
  unfold M13.step at h5 ⊢
  rw [if_neg h4] at *
  exact h5
end M13
def lF (w:World) (p:Addr):Option Addr × Nat × Nat:=match w.cell? p with
 | some (.slice F n c)=>(F,n,c)
 | _=>(none,0,0)
section
variable {w w' w1 w2:World} {T:TypeId} {b:Nat} {m:M13} {x:V13} {ps:PS}
def Ps (w:World) (b:Nat) (m:M13) (x:V13) (ps:PS) (w':World):Prop:=Only [b] w w'/\∃ x':V13,x'.pr=x.pr/\S13 w' PT13 b ⟨ps,m.prs,m.hits,m.misses,m.ev⟩ x'
end
def lvP (ks:List Nat) (l:Prs):Prs:=ks.map (fun k=>(k,valP k l))
def syP (ks:List Nat) (l:Prs):Prs:=l.filter (fun p=>decide (p.1∉ks))
section
variable {ks:List Nat} {l:Prs} {k:Nat}
theorem lvP_len:(lvP ks l).length=ks.length:=by simp [lvP]
theorem lvP_is (h:ks.Nodup):wentP l ks=lvP ks l:=wentP_is ks l h
theorem syP_is:stayP l ks=syP ks l:=stayP_is ks l
theorem valP_append (a b:Prs):valP k (a ++ b)=if k∈keysP a then valP k a else valP k b:=by
 induction a with
 | nil=>simp [keysP]
 | cons p a ih =>
  rw [List.cons_append,valP,ih,valP]
  by_cases e:p.1=k
  ·rw [if_pos e,if_pos e,if_pos (by simp [keysP,e])]
  ·rw [if_neg e,if_neg e]
   have:(k∈keysP (p :: a))=(k∈keysP a):=by
    simp only [keysP,List.map_cons,List.mem_cons]
    exact propext ⟨fun h=>h.resolve_left (fun h2=>e h2.symm),.inr⟩
   simp only [this]
theorem valP_none (h:k∉keysP l):valP k l=0:=by
 induction l with
 | nil=>rfl
 | cons p l ih =>
  have h1:¬ p.1=k:=fun e=>h (by simp [keysP,e])
  rw [valP,if_neg h1]
  exact ih (fun h2=>h (List.mem_cons_of_mem _ h2))
theorem take_key {j:Nat} (hn:(keysP l).Nodup) (hj:j < l.length):l[j].1∉keysP (l.take j):=fun h=>by
 have e:keysP (l.take (j+1))=keysP (l.take j) ++ [l[j].1]:=by
  rw [List.take_succ_eq_append_getElem hj,keysP_append]
  rfl
 have h2:(keysP (l.take (j+1))).Nodup:=by
  unfold keysP
  rw [List.map_take]
  exact hn.sublist (List.take_sublist _ _)
 rw [e] at h2
 exact (List.nodup_append.1 h2).2.2 _ h _ (by simp) rfl
theorem valP_step {j:Nat} (hn:(keysP l).Nodup) (hj:j < l.length):valP k (l.take (j+1))=if l[j].1=k then l[j].2 else valP k (l.take j):=by
 rw [List.take_succ_eq_append_getElem hj,valP_append]
 by_cases e:l[j].1=k
 ·rw [if_pos e,if_neg (e ▸ take_key hn hj),valP,if_pos e]
 ·rw [if_neg e]
  split
  ·rfl
  ·rename_i h
   rw [valP,if_neg e,valP_none h]
   rfl
theorem lvP_stay {j:Nat} (hn:(keysP l).Nodup) (hj:j < l.length) (h:l[j].1∉ks):lvP ks (l.take (j+1))=lvP ks (l.take j):=by
 refine List.map_congr_left (fun k hk=>?_)
 rw [valP_step hn hj,if_neg (fun e:l[j].1=k=>h (e ▸ hk))]
theorem nodup_inj {ks:List Nat} (h:ks.Nodup) {i n:Nat} (hi:i < ks.length) (hn:n < ks.length) (e:ks[i]=ks[n]):i=n:=by
 rcases Nat.lt_trichotomy i n with h1 | h1 | h1
 ·exact absurd e (List.pairwise_iff_getElem.1 h i n hi hn h1)
 ·exact h1
 ·exact absurd e.symm (List.pairwise_iff_getElem.1 h n i hn hi h1)
theorem lvP_leave {i j:Nat} (hn:(keysP l).Nodup) (hk:ks.Nodup) (hj:j < l.length) (hi:i < ks.length) (h:ks[i]=l[j].1):lvP ks (l.take (j+1))=(lvP ks (l.take j)).set i l[j]:=by
 refine List.ext_getElem (by simp [lvP]) (fun n h1 h2=>?_)
 have hnk:n < ks.length:=by simpa [lvP] using h1
 rw [List.getElem_set]
 simp only [lvP,List.getElem_map]
 rw [valP_step hn hj]
 by_cases e:i=n
 ·subst e
  rw [if_pos rfl,if_pos h.symm,h]
 ·rw [if_neg e,if_neg (fun e2=>e (nodup_inj hk hi hnk (h.trans e2)))]
theorem syP_step {j:Nat} (hj:j < l.length):syP ks (l.take (j+1))=syP ks (l.take j) ++ if l[j].1∈ks then [] else [l[j]]:=by
 unfold syP
 rw [List.take_succ_eq_append_getElem hj,List.filter_append]
 congr 1
 by_cases e:l[j].1∈ks <;> simp [e]
theorem syP_len:(syP ks l).length<=l.length:=List.length_filter_le _ _
def layP (ks:List Nat) (i:Nat):Prs:=(ks.take i).map (fun k=>(k,0)) ++ List.replicate (ks.length - i) (0,0)
theorem layP_zero:layP ks 0=List.replicate ks.length (0,0):=by simp [layP]
theorem layP_len (i:Nat) (hi:i<=ks.length):(layP ks i).length=ks.length:=by
 simp [layP]
 omega
theorem layP_step {i:Nat} (hi:i < ks.length):layP ks (i+1)=(layP ks i).set i (ks[i],0):=by
 unfold layP
 rw [List.take_succ_eq_append_getElem hi,List.map_append,List.append_assoc,List.set_append_right _ _ (by simp;omega)]
 congr 1
 simp only [List.length_map,List.length_take]
 rw [show i - min i ks.length=0 by omega,show ks.length - i=(ks.length - (i+1))+1 by omega,List.replicate_succ,List.set_cons_zero]
 rfl
theorem layP_at {i:Nat} (hi:i < ks.length):(layP ks i)[i]? = some (0,0):=by
 unfold layP
 rw [List.getElem?_append_right (by simp;omega),List.getElem?_replicate,if_pos (by simp;omega)]
theorem layP_all:layP ks ks.length=lvP ks []:=by
 unfold layP lvP
 rw [List.take_length,Nat.sub_self,List.replicate_zero,List.append_nil]
 rfl
end
end Go.Proofs.YtcpggonengkgiaaGreatDoor
