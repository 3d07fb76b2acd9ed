/- Words and walks: McJ McM McN. -/
import Derived.Test.YtcpggonengkgiaaGreatDoorG31
namespace Go.Proofs.YtcpggonengkgiaaGreatDoor
open Go Go.RowKit Go.Deep
set_option maxRecDepth 8000
structure PolF where
 f0:Nat
 f1:Nat
 f2:Nat
 f3:Nat
 f4:Nat
 f5:Nat
 f6:Nat
 f7:Nat
 f8:Nat
 f9:Nat
 c0:Array Value
 c1:Array Value
 c2:Array Value
 c3:Array Value
 c4:Array Value
 c5:Array Value
 c6:Array Value
 c7:Array Value
 c8:Array Value
 c9:Array Value
abbrev PolF.C (p:PolF):Array Value:=#[.func (.func p.f0) #[] p.c0,.func (.func p.f1) #[] p.c1,.func (.func p.f2) #[] p.c2,.func (.func p.f3) #[] p.c3,.func (.func p.f4) #[] p.c4,.func (.func p.f5) #[] p.c5,.func (.func p.f6) #[] p.c6,.func (.func p.f7) #[] p.c7,.func (.func p.f8) #[] p.c8,.func (.func p.f9) #[] p.c9]
abbrev PolT:TypeId:=98
def Ent (f:Nat):Prop:=∀ (args:Array Value) (W:World),(callFunc f args).run Tryz.prog W = .ok (.enter f args) W
structure PolV (p:PolF) (t:Nat) (gs:List Nat) (Inv:World->Prop):Prop where
 e0:Ent p.f0
 e1:Ent p.f1
 e2:Ent p.f2
 e3:Ent p.f3
 e4:Ent p.f4
 e5:Ent p.f5
 e6:Ent p.f6
 e7:Ent p.f7
 e8:Ent p.f8
 e9:Ent p.f9
 typ:∀ W,Inv W->∀ g∈gs, ∃ cs e,W.heap[g]? = some (.cells cs e (0,0))/\e≠PT13/\okT e=true
 stay:∀ W W',Inv W->(∀ g∈gs,W'.heap[g]? = W.heap[g]?)->Inv W'
 own:∀ {W:World} {b:Nat} {m:M13} {x:V13},Inv W->S13 W PT13 b m x->m.ps.tag=t->m.ps.Ok->Calls Tryz.prog p.f1 (#[.pointer (some ⟨b,0,none⟩)] ++ p.c1) W fun e W'=>e = .returned (.tuple #[])/\Ps W b m x m.ps W'
 touch:∀ {W:World} {b:Nat} {m:M13} {x:V13},Inv W->S13 W PT13 b m x->m.ps.tag=t->m.ps.Ok->∀ k:Nat,k < 18446744073709551616->Calls Tryz.prog p.f2 (#[.pointer (some ⟨b,0,none⟩),.int .u64 (k:Nat)] ++ p.c2) W fun e W'=>e = .returned (.tuple #[])/\Ps W b m x (m.ps.touch k) W'
 adm:∀ {W:World} {b:Nat} {m:M13} {x:V13},Inv W->S13 W PT13 b m x->m.ps.tag=t->m.ps.Ok->∀ k:Nat,k < 18446744073709551616->Calls Tryz.prog p.f3 (#[.pointer (some ⟨b,0,none⟩),.int .u64 (k:Nat)] ++ p.c3) W fun e W'=>∃ v,e = .returned v/\Ps W b m x (m.ps.adm k) W'/\KV W' v (m.ps.admOut k)
 drop:∀ {W:World} {b:Nat} {m:M13} {x:V13},Inv W->S13 W PT13 b m x->m.ps.tag=t->m.ps.Ok->∀ k:Nat,k < 18446744073709551616->Calls Tryz.prog p.f4 (#[.pointer (some ⟨b,0,none⟩),.int .u64 (k:Nat)] ++ p.c4) W fun e W'=>e = .returned (.tuple #[])/\Ps W b m x (m.ps.drop k) W'
 rsz:∀ {W:World} {b:Nat} {m:M13} {x:V13},Inv W->S13 W PT13 b m x->m.ps.tag=t->m.ps.Ok->∀ n:Int,-9223372036854775808<=n->n<=9223372036854775807->Calls Tryz.prog p.f5 (#[.pointer (some ⟨b,0,none⟩),.int .i64 n] ++ p.c5) W fun e W'=>∃ v,e = .returned v/\Ps W b m x (m.ps.resize n) W'/\KV W' v (m.ps.resizeOut n)
 has:∀ {W:World} {b:Nat} {m:M13} {x:V13},Inv W->S13 W PT13 b m x->m.ps.tag=t->m.ps.Ok->∀ k:Nat,k < 18446744073709551616->Calls Tryz.prog p.f6 (#[.pointer (some ⟨b,0,none⟩),.int .u64 (k:Nat)] ++ p.c6) W (RetB W (decide (k∈m.ps.keys)))
 keys:∀ {W:World} {b:Nat} {m:M13} {x:V13},Inv W->S13 W PT13 b m x->m.ps.tag=t->m.ps.Ok->Calls Tryz.prog p.f7 (#[.pointer (some ⟨b,0,none⟩)] ++ p.c7) W (RetK W m.ps.keys)
 gho:∀ {W:World} {b:Nat} {m:M13} {x:V13},Inv W->S13 W PT13 b m x->m.ps.tag=t->m.ps.Ok->Calls Tryz.prog p.f8 (#[.pointer (some ⟨b,0,none⟩)] ++ p.c8) W fun e W'=>e = .returned (.int .i64 (m.ps.ghosts:Nat))/\Below W.heap.size W W'
 cap:∀ {W:World} {b:Nat} {m:M13} {x:V13},Inv W->S13 W PT13 b m x->m.ps.tag=t->m.ps.Ok->Calls Tryz.prog p.f9 (#[.pointer (some ⟨b,0,none⟩)] ++ p.c9) W fun e W'=>e = .returned (.int .i64 (m.ps.cap:Nat))/\Below W.heap.size W W'
section
variable {p:PolF} {t:Nat} {gs:List Nat} {Inv:World->Prop} {W W':World} {b:Nat} {m:M13} {x:V13} {S:List Nat}
theorem PolV.below (h:PolV p t gs Inv) (hi:Inv W) (hb:Below W.heap.size W W'):Inv W':=h.stay W W' hi (fun g hg=>by
 obtain ⟨cs,e,h1,_⟩:=h.typ W hi g hg
 exact hb.block g (head_row h1).lt)
theorem PolV.only (h:PolV p t gs Inv) (hi:Inv W) (hs:S13 W PT13 b m x) (ho:Only [b] W W'):Inv W':=h.stay W W' hi (fun g hg=>by
 obtain ⟨cs,e,h1,h2,_⟩:=h.typ W hi g hg
 refine ho.block g (head_row h1).lt (fun hm=>?_)
 rw [List.mem_singleton] at hm
 subst hm
 have h3:=hs.box
 rw [h1] at h3
 injection h3 with h3
 injection h3 with _ h3
 exact h2 h3)
theorem PolV.onlyN (h:PolV p t gs Inv) (hi:Inv W) (ho:Only S W W') (hS:∀ g∈S,Bn W g):Inv W':=h.stay W W' hi (fun g hg=>by
 obtain ⟨cs,e,h1,_,h2⟩:=h.typ W hi g hg
 refine ho.block g (head_row h1).lt (fun hm=>?_)
 obtain ⟨cs',e',f',h3,h4⟩:=hS g hm
 rw [h1] at h3
 injection h3 with h3
 injection h3 with _ h3
 rw [h3,h4] at h2
 cases h2)
def noUU:List Value->Bool
 | []=>true
 | [_]=>true
 | a :: c :: l => !(isU a && isU c) && noUU (c :: l)
theorem noUU_at:∀ {l:List Value} {i:Nat} {a c:Int},noUU l=true->l[i]? = some (.int .u64 a)->l[i+1]? = some (.int .u64 c)->False
 | [],i,_,_,_,h,_=>by simp at h
 | [_],i,_,_,_,_,h=>by simp at h
 | u :: v :: l,0,a,c,h1,h2,h3=>by
  have e1:u = .int .u64 a:=by simpa using h2
  have e2:v = .int .u64 c:=by simpa using h3
  subst e1 e2
  simp [noUU,isU] at h1
 | u :: v :: l,i+1,a,c,h1,h2,h3=>by
  rw [noUU,Bool.and_eq_true] at h1
  exact noUU_at (l:=v :: l) (i:=i) h1.2 (by simpa using h2) (by simpa using h3)
theorem PV.onlyA {v:Value} {l:Prs} (h:PV W v l) (ho:Only S W W') (hS:∀ g∈S, ∃ cs e,W.heap[g]? = some (.cells cs e (0,0))/\noUU cs.toList=true):PV W' v l:=by
 refine h.keep ho.size (fun F c ad e e2 hl=>?_)
 obtain ⟨F',c',e',_,_,h3⟩:=h.at_
 obtain ⟨g,off,e3,hg,h7,h8⟩:=h3 0 hl
 rw [e] at e'
 injection e' with e4 _ _
 rw [<- e4,e2] at e3
 injection e3 with e3
 subst e3
 refine ho.block _ hg (fun hm=>?_)
 obtain ⟨cs,t,hg2,hn⟩:=hS _ hm
 unfold World.cell? at h7 h8
 rw [hg2] at h7 h8
 exact noUU_at (i:=off) hn (by simpa using h7) (by simpa using h8)
abbrev zA:Array Value:=#[.bool false,.int .u64 0,.int .i64 0,.slice none 0 0,.int .i64 0]
theorem S13.onlyA {g:Nat} {cs:Array Value} (h:S13 W PT13 b m x) (ho:Only [g] W W') (hg:W.heap[g]? = some (.cells cs AnsT (0,0))) (hn:noUU cs.toList=true):S13 W' PT13 b m x:=by
 have hS:∀ j∈[g],Bn W j:=fun j hj=>by
  rw [List.mem_singleton] at hj
  subst hj
  exact ⟨_,_,_,hg,by decide⟩
 have hgb:b≠g:=fun e=>by
  have h1:=h.box
  rw [e,hg] at h1
  injection h1 with h1
  injection h1 with _ h1
  exact absurd h1 (by decide)
 exact ⟨(ho.block b h.lt (by simpa using hgb)).trans h.box,h.ty,⟨h.st.pol.onlyN ho hS,h.st.prs.onlyA ho (fun j hj=>by
  rw [List.mem_singleton] at hj
  subst hj
  exact ⟨_,_,hg,hn⟩),h.st.hi,h.st.mi,h.st.ev⟩⟩
structure Fm (p:PolF) (Inv:World->Prop) (w W:World) (b gp:Nat) (m:M13) (x:V13):Prop where
 old:b < w.heap.size/\gp < w.heap.size
 only:Only [b,gp] w W
 st:S13 W PT13 b m x
 pb:W.heap[w.heap.size]? = some (.cells p.C PolT (0,0))
 r:W.heap[w.heap.size+1]? = some (.cells zA AnsT (0,0))
 inv:Inv W
variable {w:World} {gp:Nat}
theorem Fm.start (h:PolV p t gs Inv) (hi:Inv w) (hs:S13 w PT13 b m x) (hgp:gp < w.heap.size):Fm p Inv w ((w.alloc (.cells p.C PolT)).alloc (.cells zA AnsT)) b gp m x :=
 ⟨⟨hs.lt,hgp⟩,Only.of_below (low_two w _ _),hs.below (low_two w _ _),by
  rw [Below.heap_alloc _ _ _ (by simp)]
  exact heap_alloc_new w _,by
  have:=heap_alloc_new (w.alloc (.cells p.C PolT)) (.cells zA AnsT)
  rwa [World.size_alloc] at this,h.below hi (low_two w _ _)⟩
theorem Fm.below (h:Fm p Inv w W b gp m x) (hp:PolV p t gs Inv) (hb:Below W.heap.size W W'):Fm p Inv w W' b gp m x :=
 ⟨h.old,h.only.trans (Only.of_below (S:=[b]) hb) (by simp),h.st.below hb,(hb.block _ (head_row h.pb).lt).trans h.pb,(hb.block _ (head_row h.r).lt).trans h.r,hp.below h.inv hb⟩
theorem Fm.chg {m':M13} {x':V13} (h:Fm p Inv w W b gp m x) (hp:PolV p t gs Inv) (ho:Only [b] W W') (hs:S13 W' PT13 b m' x'):Fm p Inv w W' b gp m' x':=by
 have ho':=h.old.1
 exact ⟨h.old,h.only.trans ho (by simp),hs,(ho.block _ (head_row h.pb).lt (by simp;omega)).trans h.pb,(ho.block _ (head_row h.r).lt (by simp;omega)).trans h.r,hp.only h.inv h.st ho⟩
theorem Fm.pcells (h:Fm p Inv w W b gp m x):(W.cell? ⟨w.heap.size,1,none⟩=some (.func (.func p.f1) #[] p.c1)/\W.cell? ⟨w.heap.size,2,none⟩=some (.func (.func p.f2) #[] p.c2)/\W.cell? ⟨w.heap.size,3,none⟩=some (.func (.func p.f3) #[] p.c3)/\W.cell? ⟨w.heap.size,4,none⟩=some (.func (.func p.f4) #[] p.c4)/\W.cell? ⟨w.heap.size,5,none⟩=some (.func (.func p.f5) #[] p.c5)/\W.cell? ⟨w.heap.size,6,none⟩=some (.func (.func p.f6) #[] p.c6)) :=
 ⟨(head_row h.pb).cell (i:=1) (by simp),(head_row h.pb).cell (i:=2) (by simp),(head_row h.pb).cell (i:=3) (by simp),(head_row h.pb).cell (i:=4) (by simp),(head_row h.pb).cell (i:=5) (by simp),(head_row h.pb).cell (i:=6) (by simp)⟩
theorem Fm.bcells (h:Fm p Inv w W b gp m x):(W.cell? ⟨b,0,none⟩=some (.int .i64 x.p)/\W.cell? ⟨b,20,none⟩=some (.slice x.pr.F x.pr.n x.pr.c)/\W.cell? ⟨b,21,none⟩=some (.int .i64 (m.hits:Nat))/\W.cell? ⟨b,22,none⟩=some (.int .i64 (m.misses:Nat)))/\W.frozen? ⟨b,20,none⟩=false/\W.frozen? ⟨b,21,none⟩=false/\W.frozen? ⟨b,22,none⟩=false:=by
 obtain ⟨p0,-,-,-,-,-,-,-,-,-,-,-,-,-,-,-,-,-,-,-,p20,p21,p22,-⟩:=box_cells h.st.box
 rw [h.st.st.hi] at p21
 rw [h.st.st.mi] at p22
 exact ⟨⟨p0,p20,p21,p22⟩,box_free h.st.box 20,box_free h.st.box 21,box_free h.st.box 22⟩
theorem Fm.rcells (h:Fm p Inv w W b gp m x):(W.cell? ⟨w.heap.size+1,0,none⟩=some (.bool false)/\W.cell? ⟨w.heap.size+1,1,none⟩=some (.int .u64 0)/\W.cell? ⟨w.heap.size+1,2,none⟩=some (.int .i64 0)/\W.cell? ⟨w.heap.size+1,3,none⟩=some (.slice none 0 0)/\W.cell? ⟨w.heap.size+1,4,none⟩=some (.int .i64 0))/\W.frozen? ⟨w.heap.size+1,0,none⟩=false/\W.frozen? ⟨w.heap.size+1,1,none⟩=false/\W.frozen? ⟨w.heap.size+1,2,none⟩=false/\W.frozen? ⟨w.heap.size+1,3,none⟩=false/\W.frozen? ⟨w.heap.size+1,4,none⟩=false:=c5_at h.r
def GpA (w:World) (b gp:Nat) (m:M13) (hit:Bool) (v n er:Nat) (out:Prs) (e:Ending) (w':World):Prop:=∃ (x:V13) (F:Option Addr) (k d:Nat),e = .returned (.agg (an13C hit v n er F k d))/\Only [b,gp] w w'/\S13 w' PT13 b m x/\PV w' (.slice F k d) out
theorem Fm.fin (h:Fm p Inv w W b gp m x) {F:Option Addr} {k d:Nat} {out:Prs} (hp:PV W (.slice F k d) out) (hit:Bool) (v n er:Nat):GpA w b gp m hit v n er out (.returned (.agg (an13C hit v n er F k d))) (((((W.setCell ⟨w.heap.size+1,0,none⟩ (.bool hit)).setCell ⟨w.heap.size+1,1,none⟩ (.int .u64 (v:Nat))).setCell ⟨w.heap.size+1,2,none⟩ (.int .i64 (n:Nat))).setCell ⟨w.heap.size+1,3,none⟩ (.slice F k d)).setCell ⟨w.heap.size+1,4,none⟩ (.int .i64 (er:Nat))):=by
 obtain ⟨h1,h2⟩:=c5_set h.r (.bool hit) (.int .u64 (v:Nat)) (.int .i64 (n:Nat)) (.slice F k d) (.int .i64 (er:Nat))
 exact ⟨x,F,k,d,rfl,h.only.trans h2 (by simp),h.st.onlyA h2 h.r rfl,hp.onlyA h2 (fun j hj=>by
  rw [List.mem_singleton] at hj
  subst hj
  exact ⟨_,_,h.r,rfl⟩)⟩
theorem Fm.exch {g c:Nat} {l:Prs} (h:Fm p Inv w W b g m x) (hp:PolV p t gs Inv) (ho:Only [g] W W') (hg:Bn W g) (hx:(Value.slice x.pr.F x.pr.n x.pr.c) = .slice (some ⟨g,0,none⟩) m.prs.length c) (hc:m.prs.length<=c) (hl:l.length=m.prs.length) (hpa:PairsAt W' g l):Fm p Inv w W' b g ⟨m.ps,l,m.hits,m.misses,m.ev⟩ x:=by
 have hS:∀ j∈[g],Bn W j:=fun j hj=>by
  rw [List.mem_singleton] at hj
  subst hj
  exact hg
 have hgw:=h.old.2
 have hgb:b≠g:=fun e=>by
  obtain ⟨cs,e',f',h1,h2⟩:=hg
  have h3:=h.st.box
  rw [e,h1] at h3
  injection h3 with h3
  injection h3 with _ h3
  rw [h3] at h2
  exact absurd h2 (by decide)
 refine ⟨h.old,h.only.trans ho (by simp),⟨(ho.block b h.st.lt (by simpa using hgb)).trans h.st.box,h.st.ty,⟨h.st.st.pol.onlyN ho hS,?_,h.st.st.hi,h.st.st.mi,h.st.st.ev⟩⟩,(ho.block _ (head_row h.pb).lt (by simp;omega)).trans h.pb,(ho.block _ (head_row h.r).lt (by simp;omega)).trans h.r,hp.onlyN h.inv ho hS⟩
 have h5:=hpa.pv (c:=c) (by rw [hl];exact hc)
 rw [hl] at h5
 rw [hx]
 exact h5
theorem Fm.leave {ks:List Nat} {v:Value} (h:Fm p Inv w W b gp m x) (hp:PolV p t gs Inv) (hl:Lv W b m x ks v W'):∃ x':V13,Fm p Inv w W' b gp ⟨m.ps,syP ks m.prs,m.hits,m.misses,m.ev⟩ x'/\W'.ownsRow W.heap.size PairT 2 (.slice x'.pr.F x'.pr.n x'.pr.c) (syP ks m.prs).length (prL (syP ks m.prs))/\∀ n c ad,v = .slice (some ad) (n+1) c->(Value.slice x'.pr.F x'.pr.n x'.pr.c).ownBlock≠some ad.block:=by
 obtain ⟨x',-,h1,h2,h3⟩:=hl.st
 exact ⟨x',h.chg hp hl.only h1,h2,h3⟩
theorem Fm.app {B:Nat} {v':Value} {F':Option Addr} {n' c':Nat} {l:Prs} (h:Fm p Inv w W b gp m x) (hp:PolV p t gs Inv) (hB:w.heap.size<=B) (hown:W.ownsRow B PairT 2 (.slice x.pr.F x.pr.n x.pr.c) m.prs.length (prL m.prs)) (hg:W.grownBy W' (Value.slice x.pr.F x.pr.n x.pr.c).ownBlock) (hv:v' = .slice F' n' c') (hl:PV W' v' l):Fm p Inv w (W'.setCell ⟨b,20,none⟩ v') b gp ⟨m.ps,l,m.hits,m.misses,m.ev⟩ { x with pr:=⟨F',n',c'⟩ }:=by
 subst hv
 obtain ⟨S,hS,hSB,ho⟩:∃ S:List Nat,(∀ g∈S, ∃ cs:Array Value,W.heap[g]? = some (.cells cs PairT (0,0)))/\(∀ g∈S,B<=g)/\Only S W W':=by
  rcases hown.2 with ⟨e,_⟩ | ⟨g,cap,cur,e,e2,e3,_⟩
  ·rw [e] at hg
   exact ⟨[],by simp,by simp,⟨hg.os,hg.tape,hg.output,hg.size,fun k hk _=>hg.block k hk (by simp [Value.ownBlock])⟩⟩
  ·rw [e] at hg
   refine ⟨[g],fun j hj=>?_,fun j hj=>?_,⟨hg.os,hg.tape,hg.output,hg.size,fun k hk hk2=>hg.block k hk (fun e5=>hk2 (by
    simp only [Value.ownBlock,Option.some.injEq] at e5
    simp [e5]))⟩⟩
   ·rw [List.mem_singleton] at hj
    subst hj
    exact ⟨_,e3⟩
   ·rw [List.mem_singleton] at hj
    subst hj
    exact e2
 have hnT:∀ j cs T,W.heap[j]? = some (.cells cs T (0,0))->T≠PairT->j∉S:=fun j cs T h1 h2 hm=>by
  obtain ⟨cs',h3⟩:=hS j hm
  rw [h1] at h3
  injection h3 with h3
  injection h3 with _ h3
  exact h2 h3
 have hbS:=hnT _ _ _ h.st.box (by decide)
 have hpS:=hnT _ _ _ h.pb (by decide)
 have hrS:=hnT _ _ _ h.r (by decide)
 have hN:∀ g∈S,Bn W g:=fun g hg=>by
  obtain ⟨cs,h3⟩:=hS g hg
  exact ⟨_,_,_,h3,by decide⟩
 have hbx:=(ho.block b h.st.lt hbS).trans h.st.box
 obtain ⟨k1,k2⟩:=box_setp hbx F' n' c'
 have hpol:=h.st.st.pol.onlyN ho hN
 have hbx2:∀ j∈[b],Bx W' j:=fun j hj=>by
  have e:j=b:=by simpa using hj
  rw [e]
  exact ⟨_,_,hbx,x.nou,h.st.ty⟩
 have hol:=h.old.1
 refine ⟨h.old,(h.only.trans ho (fun g hg => .inr (Nat.le_trans hB (hSB g hg)))).trans k2 (by simp),⟨k1,h.st.ty,⟨hpol.only k2 hbx2,hl.only k2 hbx2,h.st.st.hi,h.st.st.mi,h.st.st.ev⟩⟩,(k2.block _ (Nat.lt_of_lt_of_le (head_row h.pb).lt ho.size) (by simp;omega)).trans ((ho.block _ (head_row h.pb).lt hpS).trans h.pb),(k2.block _ (Nat.lt_of_lt_of_le (head_row h.r).lt ho.size) (by simp;omega)).trans ((ho.block _ (head_row h.r).lt hrS).trans h.r),?_⟩
 have hi2:=hp.onlyN h.inv ho hN
 refine hp.stay _ _ hi2 (fun g hg=>?_)
 obtain ⟨cs,e,h1,h2,_⟩:=hp.typ _ hi2 g hg
 refine k2.block g (head_row h1).lt (fun hm=>?_)
 rw [List.mem_singleton] at hm
 subst hm
 rw [hbx] at h1
 injection h1 with h1
 injection h1 with _ h1
 exact h2 h1.symm
end
set_option maxRecDepth 8000
section
variable {p:PolF} {t:Nat} {gs:List Nat} {Inv:World->Prop} {w:World} {b:Nat} {m:M13} {x:V13}
theorem setAt_len:∀ (l:Prs) (k v:Nat),(setAt k v l).length=l.length
 | [],_,_=>rfl
 | p :: l,k,v=>by
  rw [setAt]
  split
  ·rfl
  ·rw [List.length_cons,setAt_len l,List.length_cons]
theorem keys_lt (ok:m.Ok) {k:Nat} (hk:k∈m.ps.keys):k < 18446744073709551616:=by
 obtain ⟨q,hq,rfl⟩:=List.mem_map.1 ((ok.same k).2 hk)
 exact (ok.bd q hq).1
set_option maxHeartbeats 4000000 in
theorem put_in (PVV:PolV p t gs Inv) (hi:Inv w) (hs:S13 w PT13 b m x) (ht:m.ps.tag=t) (ok:m.Ok) (hlow:m.Low 100000000) {g c:Nat} (hgp:g < w.heap.size) (hx:(Value.slice x.pr.F x.pr.n x.pr.c) = .slice (some ⟨g,0,none⟩) m.prs.length c) (hc:m.prs.length<=c) (hpa:PairsAt w g m.prs) (k v:Nat) (hk:k < 18446744073709551616) (hin:k∈m.ps.keys) :
  Calls Tryz.prog 110 #[.agg p.C,.pointer (some ⟨b,0,none⟩),.int .u64 (k:Nat),.int .u64 (v:Nat)] w (GpA w b g ⟨m.ps.touch k,setP k v m.prs,m.hits,m.misses,m.ev⟩ true (valP k m.prs) 0 0 []):=by
 have HP:=Lib.hid PVV
 have HM:=Lib.hid ok
 have h0:=Fm.start PVV hi hs hgp
 have HF0:=Lib.hid h0
 have E2:=Lib.hid PVV.e2
 have E6:=Lib.hid PVV.e6
 have HT:=Lib.hid ht
 have hh:=hlow.hi
 have hmi:=hlow.mi
 have hlen:m.prs.length<=10000000:=by have:=ok.lenCap;have:=ok.ps.capLe;omega
 have hbw:=hs.lt
 have hne1:b≠w.heap.size:=by omega
 have hne2:w.heap.size≠b:=by omega
 have hne3:b≠w.heap.size+1:=by omega
 have hne4:w.heap.size+1≠b:=by omega
 have KH:=Lib.hid (PVV.has h0.inv h0.st ht ok.ps k hk)
 rw [decide_eq_true hin] at KH
 have HK:=Lib.hid hk
 rw [<- setAt_is ok.nd]
 have hgb:g≠b:=fun e=>by
  obtain ⟨cs,h1,_⟩:=hpa
  have h3:=hs.box
  rw [<- e,h1] at h3
  injection h3 with h3
  injection h3 with _ h3
  exact absurd h3 (by decide)
 have HPA0:=Lib.hid ((hpa.alloc (.cells p.C PolT)).alloc (.cells zA AnsT))
 have HXX:=Lib.hid hx
 obtain ⟨pc1,pc2,-,-,-,pc6⟩:=h0.pcells
 clear h0 hi hs ht hlow hgp PVV ok hin hpa hx
 go_enter Tryz.func110,Tryz.ntmps110
 go_wp2_with fail
 rw [E6.out,Oper.upon_enter]
 refine KH.out.mono ?_
 rintro e w1 ⟨rfl,hb1⟩
 have HF1:=Lib.hid (HF0.out.below HP.out hb1)
 have HPA1:=Lib.hid (HPA0.out.keep (hb1.block _ HPA0.out.lt))
 have KT:=Lib.hid (HP.out.touch HF1.out.inv HF1.out.st HT.out HM.out.ps k HK.out)
 clear hb1 HF0 KH pc1 pc2 pc6 HPA0
 obtain ⟨-,pc2,-,-,-,-⟩:=HF1.out.pcells
 go_wp2_with fail
 rw [E2.out,Oper.upon_enter]
 refine KT.out.mono ?_
 rintro e w2 ⟨rfl,ho2,x2,hx2,hs2⟩
 have HF2:=Lib.hid (HF1.out.chg HP.out ho2 hs2)
 have HPA2:=Lib.hid (HPA1.out.keep (ho2.block _ HPA1.out.lt (by simpa using hgb)))
 have hx3:(Value.slice x2.pr.F x2.pr.n x2.pr.c) = .slice (some ⟨g,0,none⟩) m.prs.length c:=by
  rw [hx2]
  exact HXX.out
 have HX3:=Lib.hid hx3
 obtain ⟨⟨-,b20,-,-⟩,-,-,-⟩:=HF2.out.bcells
 rw [hx3] at b20
 have KX:=Lib.hid (exchange_walk (c:=c) HPA2.out (by omega) k v)
 clear ho2 hs2 HF1 KT pc2 hx2 hx3 HXX HPA1
 go_wp2_with fail
 refine KX.out.mono ?_
 rintro e w3 ⟨rfl,ho3,hpa3⟩
 have HF3:=Lib.hid (HF2.out.exch HP.out ho3 HPA2.out.bn HX3.out hc (setAt_len m.prs k v) hpa3)
 clear ho3 hpa3 HF2 HX3 HPA2 KX b20
 obtain ⟨⟨r0,r1,r2,r3,r4⟩,rf0,rf1,rf2,rf3,rf4⟩:=HF3.out.rcells
 go_wp2
 exact bodyPost_ret (v := .agg (an13C true (valP k m.prs) 0 0 none 0 0)) (by simp [results,Tryz.results110,go_sem,r0,r1,r2,r3,r4]) rfl (HF3.out.fin (PV.nil _) true (valP k m.prs) 0 0)
set_option maxHeartbeats 4000000 in
theorem put_out (PVV:PolV p t gs Inv) (hi:Inv w) (hs:S13 w PT13 b m x) (ht:m.ps.tag=t) (ok:m.Ok) (hlow:m.Low 100000000) {gp:Nat} (hgp:gp < w.heap.size) (k v:Nat) (hk:k < 18446744073709551616) (hin:k∉m.ps.keys) :
  Calls Tryz.prog 110 #[.agg p.C,.pointer (some ⟨b,0,none⟩),.int .u64 (k:Nat),.int .u64 (v:Nat)] w (GpA w b gp ⟨m.ps.adm k,stayP m.prs (m.ps.admOut k) ++ [(k,v)],m.hits,m.misses,m.ev⟩ false 0 0 0 (wentP m.prs (m.ps.admOut k))):=by
 have HP:=Lib.hid PVV
 have HM:=Lib.hid ok
 have h0:=Fm.start PVV hi hs hgp
 have HF0:=Lib.hid h0
 have E3:=Lib.hid PVV.e3
 have E6:=Lib.hid PVV.e6
 have HT:=Lib.hid ht
 have hh:=hlow.hi
 have hmi:=hlow.mi
 have hlen:m.prs.length<=10000000:=by have:=ok.lenCap;have:=ok.ps.capLe;omega
 have hbw:=hs.lt
 have hne1:b≠w.heap.size:=by omega
 have hne2:w.heap.size≠b:=by omega
 have hne3:b≠w.heap.size+1:=by omega
 have hne4:w.heap.size+1≠b:=by omega
 have KH:=Lib.hid (PVV.has h0.inv h0.st ht ok.ps k hk)
 rw [decide_eq_false hin] at KH
 have HK:=Lib.hid hk
 obtain ⟨-,-,hin2,hond,holen⟩:=ok.ps.adm hk hin
 have hcp:=ok.ps.capLe
 have hcl:=ok.ps.len
 rw [syP_is,lvP_is hond]
 obtain ⟨out,hout⟩:∃ out,m.ps.admOut k=out:=⟨_,rfl⟩
 rw [hout] at hin2 hond holen ⊢
 have HOND:=Lib.hid hond
 have HOB:Hid (∀ a∈out,a < 18446744073709551616):=Lib.hid (fun a ha=>keys_lt ok (hin2 a ha))
 have hol:out.length<=10000000:=by omega
 have HOUT:=Lib.hid hout
 obtain ⟨pc1,pc2,pc3,-,-,pc6⟩:=h0.pcells
 clear h0 hi hs ht hlow hgp PVV ok hin hin2 hond holen hout hcp hcl
 go_enter Tryz.func110,Tryz.ntmps110
 go_wp2_with fail
 rw [E6.out,Oper.upon_enter]
 refine KH.out.mono ?_
 rintro e w1 ⟨rfl,hb1⟩
 have HF1:=Lib.hid (HF0.out.below HP.out hb1)
 have KT:=Lib.hid (HP.out.adm HF1.out.inv HF1.out.st HT.out HM.out.ps k HK.out)
 clear hb1 HF0 KH pc1 pc2 pc3 pc6
 obtain ⟨-,-,pc3,-,-,-⟩:=HF1.out.pcells
 go_wp2_with fail
 rw [E3.out,Oper.upon_enter]
 refine KT.out.mono ?_
 rintro e w2 ⟨v2,rfl,⟨ho2,x2,-,hs2⟩,hkv2⟩
 rw [HOUT.out] at hkv2
 have HF2:=Lib.hid (HF1.out.chg HP.out ho2 hs2)
 obtain ⟨F2,n2,d2,rfl⟩:=hkv2.form
 have KL:=Lib.hid (leave_walk HF2.out.st hkv2 HOND.out HOB.out hol HM.out.nd HM.out.bd hlen)
 clear ho2 hs2 HF1 KT pc3 hkv2
 go_wp2_with fail
 refine KL.out.mono ?_
 rintro e w3 ⟨v3,rfl,hl3⟩
 obtain ⟨x3,hf3,hown3,hap3⟩:=HF2.out.leave HP.out hl3
 have HF3:=Lib.hid hf3
 have HOW:=Lib.hid hown3
 have HAP:=Lib.hid hap3
 have HLF:=Lib.hid hl3.left
 obtain ⟨F3,n3,d3,rfl⟩:=hl3.left.form
 have HSZ:Hid (w.heap.size<=w2.heap.size):=Lib.hid HF2.out.only.size
 have HSZ3:Hid (w2.heap.size<=w3.heap.size):=Lib.hid hl3.only.size
 clear hl3 hf3 hown3 hap3 KL HF2
 obtain ⟨⟨-,b20,-,-⟩,bf20,-,-⟩:=HF3.out.bcells
 have HO3:Hid (OwnP w2.heap.size (w3.alloc (.cells #[.int .u64 (k:Nat),.int .u64 (v:Nat)] PairT)) (w3.alloc (.cells #[.int .u64 (k:Nat),.int .u64 (v:Nat)] PairT)) (.slice x3.pr.F x3.pr.n x3.pr.c) (syP out m.prs)):=Lib.hid ⟨Below.refl _ _,HOW.out.alloc _⟩
 have HSRC:=Lib.hid (PV.one w3 k v)
 have hsyl:(syP out m.prs).length<=10000000:=Nat.le_trans syP_len hlen
 go_wp2_with (at_builtin;refine wpList_append_pv rfl _ _ rfl w2.heap.size (by kernel_rfl) (by kernel_rfl) (.slice x3.pr.F x3.pr.n x3.pr.c) (syP out m.prs) rfl HO3.out _ [(k,v)] rfl HSRC.out (by simp;omega) (by have:=HSZ3.out;simp;omega) ?_)
 intro v6 w6 hown6 hg6 hat6
 obtain ⟨F6,n6,d6,rfl⟩:=hown6.pv.form
 have hb6:w6.heap[b]? = some (.cells x3.C PT13 (0,0)):=by
  have hb3:=HF3.out.st.below (low_one w3 (.cells #[.int .u64 (k:Nat),.int .u64 (v:Nat)] PairT))
  refine (hg6.block b hb3.lt (fun e5=>?_)).trans hb3.box
  have h7:=(HO3.out.own.lt b (by first | exact e5 | exact e5.symm)).1
  have h8:=HSZ.out
  omega
 have HF6:=Lib.hid (Fm.app (HF3.out.below HP.out (low_one w3 (.cells #[.int .u64 (k:Nat),.int .u64 (v:Nat)] PairT))) HP.out HSZ.out HO3.out.own hg6 rfl hown6.pv)
 have HLF6:Hid (PV (w6.setCell ⟨b,20,none⟩ (.slice F6 n6 d6)) (.slice F3 n3 d3) (lvP out m.prs)):=Lib.hid (by
  have hA:=HLF.out.below (low_one w3 (.cells #[.int .u64 (k:Nat),.int .u64 (v:Nat)] PairT))
  have hB:PV w6 (.slice F3 n3 d3) (lvP out m.prs):=hA.keep hg6.size (fun F c ad e e2 hl0=>by
   obtain ⟨F',c',e',_,_,h3⟩:=hA.at_
   obtain ⟨g,off,e3,hgl,_⟩:=h3 0 hl0
   rw [e] at e'
   injection e' with e4 _ _
   rw [<- e4,e2] at e3
   injection e3 with e3
   subst e3
   subst e2
   obtain ⟨q,hq⟩:∃ q,(lvP out m.prs).length=q+1:=⟨(lvP out m.prs).length - 1,by omega⟩
   refine hg6.block _ hgl (fun e5=>HAP.out q c _ (by rw [e,hq]) (by first | exact e5 | exact e5.symm)))
  have hbx:∀ j∈[b],Bx w6 j:=fun j hj=>by
   have e:j=b:=by simpa using hj
   rw [e]
   exact ⟨_,_,hb6,x3.nou,by decide⟩
  exact hB.only ((Only.refl [b] _).setCell (by simp) _) hbx)
 obtain ⟨-,-,-,-,-,-,-,-,-,-,-,-,-,-,-,-,-,-,-,-,p20,-⟩:=box_cells hb6
 have pf20:=box_free hb6 20
 clear hown6 hg6 hat6 HO3 HSRC HOW HAP HLF HF3 b20 bf20 hb6
 obtain ⟨⟨r0,r1,r2,r3,r4⟩,rf0,rf1,rf2,rf3,rf4⟩:=HF6.out.rcells
 go_wp2
 exact bodyPost_ret (v := .agg (an13C false 0 0 0 F3 n3 d3)) (by simp [results,Tryz.results110,go_sem,r0,r1,r2,r3,r4]) rfl (HF6.out.fin HLF6.out false 0 0 0)
end
set_option maxRecDepth 8000
section
variable {p:PolF} {t:Nat} {gs:List Nat} {Inv:World->Prop} {w:World} {b:Nat} {m:M13} {x:V13}
theorem syP_one (k:Nat) (l:Prs):syP [k] l=woP k l:=by
 unfold syP woP
 refine List.filter_congr (fun q _=>?_)
 by_cases e:q.1=k <;> simp [e]
set_option maxHeartbeats 4000000 in
theorem remove_in (PVV:PolV p t gs Inv) (hi:Inv w) (hs:S13 w PT13 b m x) (ht:m.ps.tag=t) (ok:m.Ok) (hlow:m.Low 100000000) {gp:Nat} (hgp:gp < w.heap.size) (k:Nat) (hk:k < 18446744073709551616) (hin:k∈m.ps.keys) :
  Calls Tryz.prog 111 #[.agg p.C,.pointer (some ⟨b,0,none⟩),.int .u64 (k:Nat)] w (GpA w b gp ⟨m.ps.drop k,woP k m.prs,m.hits,m.misses,m.ev⟩ true (valP k m.prs) 0 0 []):=by
 have HP:=Lib.hid PVV
 have HM:=Lib.hid ok
 have h0:=Fm.start PVV hi hs hgp
 have hf0:=h0.below PVV (low_one _ (.cells zA AnsT))
 have HF0:=Lib.hid hf0
 have HA0:Hid ((((w.alloc (.cells p.C PolT)).alloc (.cells zA AnsT)).alloc (.cells zA AnsT)).heap[w.heap.size+1+1]? = some (.cells zA AnsT (0,0))):=Lib.hid (by
  have:=heap_alloc_new ((w.alloc (.cells p.C PolT)).alloc (.cells zA AnsT)) (.cells zA AnsT)
  simpa using this)
 have E4:=Lib.hid PVV.e4
 have E6:=Lib.hid PVV.e6
 have HT:=Lib.hid ht
 have hh:=hlow.hi
 have hmi:=hlow.mi
 have hlen:m.prs.length<=10000000:=by have:=ok.lenCap;have:=ok.ps.capLe;omega
 have hbw:=hs.lt
 have hne1:b≠w.heap.size:=by omega
 have hne2:w.heap.size≠b:=by omega
 have hne3:b≠w.heap.size+1:=by omega
 have hne4:w.heap.size+1≠b:=by omega
 have KH:=Lib.hid (PVV.has hf0.inv hf0.st ht ok.ps k hk)
 rw [decide_eq_true hin] at KH
 have HK:=Lib.hid hk
 have hne5:b≠w.heap.size+1+1:=by omega
 have hne6:w.heap.size+1+1≠b:=by omega
 rw [<- syP_one]
 obtain ⟨pc1,pc2,-,pc4,-,pc6⟩:=hf0.pcells
 clear h0 hf0 hi hs ht hlow hgp PVV ok hin
 go_enter Tryz.func111,Tryz.ntmps111
 go_wp2_with fail
 rw [E6.out,Oper.upon_enter]
 refine KH.out.mono ?_
 rintro e w1 ⟨rfl,hb1⟩
 have HF1:=Lib.hid (HF0.out.below HP.out hb1)
 have HA1:=Lib.hid ((hb1.block _ (head_row HA0.out).lt).trans HA0.out)
 clear hb1 HF0 KH pc1 pc2 pc4 pc6 HA0
 obtain ⟨-,-,-,pc4,-,-⟩:=HF1.out.pcells
 obtain ⟨⟨-,b20,-,-⟩,-,-,-⟩:=HF1.out.bcells
 have KV1:=Lib.hid (value_walk HF1.out.st.st.prs (by omega) k)
 go_wp2_with fail
 refine KV1.out.mono ?_
 rintro e w4 ⟨rfl,hb4⟩
 have hfa:=HF1.out.below HP.out hb4
 have hab:=(hb4.block _ (head_row HA1.out).lt).trans HA1.out
 obtain ⟨⟨a0,a1,a2,a3,a4⟩,af0,af1,af2,af3,af4⟩:=c5_at hab
 obtain ⟨ha1,ha2⟩:=c5_set hab (.bool true) (.int .u64 (valP k m.prs:Nat)) (.int .i64 0) (.slice none 0 0) (.int .i64 0)
 obtain ⟨wA,hwA⟩:∃ wA,(((((w4.setCell ⟨w.heap.size+1+1,0,none⟩ (.bool true)).setCell ⟨w.heap.size+1+1,1,none⟩ (.int .u64 (valP k m.prs:Nat))).setCell ⟨w.heap.size+1+1,2,none⟩ (.int .i64 0)).setCell ⟨w.heap.size+1+1,3,none⟩ (.slice none 0 0)).setCell ⟨w.heap.size+1+1,4,none⟩ (.int .i64 0))=wA:=⟨_,rfl⟩
 rw [hwA] at ha1 ha2
 have HAA:=Lib.hid ha1
 have HFA:Hid (Fm p Inv w wA b gp m x):=Lib.hid ⟨hfa.old,hfa.only.trans ha2 (by simp;omega),hfa.st.onlyA ha2 hab rfl,(ha2.block _ (head_row hfa.pb).lt (by simp;omega)).trans hfa.pb,(ha2.block _ (head_row hfa.r).lt (by simp)).trans hfa.r,HP.out.onlyN hfa.inv ha2 (fun j hj=>by
  rw [List.mem_singleton] at hj
  subst hj
  exact ⟨_,_,_,hab,by decide⟩)⟩
 have KD:=Lib.hid (HP.out.drop HFA.out.inv HFA.out.st HT.out HM.out.ps k HK.out)
 obtain ⟨-,-,-,pc4',-,-⟩:=HFA.out.pcells
 have pc4:=(head_row hfa.pb).cell (i:=4) (by simp)
 have HWA:=Lib.hid hwA
 clear hb4 hfa hab ha1 ha2 hwA HF1 KV1 HA1 b20
 go_wp2_with fail
 try rw [HWA.out]
 clear a0 a1 a2 a3 a4 af0 af1 af2 af3 af4 HWA
 rw [E4.out,Oper.upon_enter]
 refine KD.out.mono ?_
 rintro e w2 ⟨rfl,ho2,x2,-,hs2⟩
 have HF2:=Lib.hid (HFA.out.chg HP.out ho2 hs2)
 have HA2:=Lib.hid ((ho2.block _ (head_row HAA.out).lt (by simpa using hne6)).trans HAA.out)
 have hkv:KV (w2.alloc (.cells #[.int .u64 (k:Nat)] 56)) (.slice (some ⟨w2.heap.size,0,none⟩) 1 1) [k]:=KV.one w2 k
 have HFB:=Lib.hid (HF2.out.below HP.out (low_one w2 (.cells #[.int .u64 (k:Nat)] 56)))
 have HAB:=Lib.hid (((low_one w2 (.cells #[.int .u64 (k:Nat)] 56)).block _ (head_row HA2.out).lt).trans HA2.out)
 have KL:=Lib.hid (leave_walk HFB.out.st hkv (by simp) (by simpa using HK.out) (by simp) HM.out.nd HM.out.bd hlen)
 clear ho2 hs2 HFA KD hkv HF2 HA2 HAA
 go_wp2_with fail
 refine KL.out.mono ?_
 rintro e w3 ⟨v3,rfl,hl3⟩
 obtain ⟨x3,hf3,-,-⟩:=HFB.out.leave HP.out hl3
 have HF3:=Lib.hid hf3
 have HA3:=Lib.hid ((hl3.only.block _ (head_row HAB.out).lt (by simpa using hne6)).trans HAB.out)
 obtain ⟨F3,n3,d3,rfl⟩:=hl3.left.form
 clear hl3 hf3 KL HFB HAB
 obtain ⟨⟨r0,r1,r2,r3,r4⟩,rf0,rf1,rf2,rf3,rf4⟩:=HF3.out.rcells
 obtain ⟨⟨a0,a1,a2,a3,a4⟩,-⟩:=c5_at HA3.out
 go_wp2
 exact bodyPost_ret (v := .agg (an13C true (valP k m.prs) 0 0 none 0 0)) (by simp [results,Tryz.results111,go_sem,r0,r1,r2,r3,r4]) rfl (HF3.out.fin (PV.nil _) true (valP k m.prs) 0 0)
set_option maxHeartbeats 4000000 in
theorem remove_out (PVV:PolV p t gs Inv) (hi:Inv w) (hs:S13 w PT13 b m x) (ht:m.ps.tag=t) (ok:m.Ok) (hlow:m.Low 100000000) {gp:Nat} (hgp:gp < w.heap.size) (k:Nat) (hk:k < 18446744073709551616) (hin:k∉m.ps.keys) :
  Calls Tryz.prog 111 #[.agg p.C,.pointer (some ⟨b,0,none⟩),.int .u64 (k:Nat)] w (GpA w b gp ⟨m.ps.drop k,woP k m.prs,m.hits,m.misses,m.ev⟩ false 0 0 0 []):=by
 have HP:=Lib.hid PVV
 have HM:=Lib.hid ok
 have h0:=Fm.start PVV hi hs hgp
 have hf0:=h0.below PVV (low_one _ (.cells zA AnsT))
 have HF0:=Lib.hid hf0
 have HA0:Hid ((((w.alloc (.cells p.C PolT)).alloc (.cells zA AnsT)).alloc (.cells zA AnsT)).heap[w.heap.size+1+1]? = some (.cells zA AnsT (0,0))):=Lib.hid (by
  have:=heap_alloc_new ((w.alloc (.cells p.C PolT)).alloc (.cells zA AnsT)) (.cells zA AnsT)
  simpa using this)
 have E4:=Lib.hid PVV.e4
 have E6:=Lib.hid PVV.e6
 have HT:=Lib.hid ht
 have hh:=hlow.hi
 have hmi:=hlow.mi
 have hlen:m.prs.length<=10000000:=by have:=ok.lenCap;have:=ok.ps.capLe;omega
 have hbw:=hs.lt
 have hne1:b≠w.heap.size:=by omega
 have hne2:w.heap.size≠b:=by omega
 have hne3:b≠w.heap.size+1:=by omega
 have hne4:w.heap.size+1≠b:=by omega
 have KH:=Lib.hid (PVV.has hf0.inv hf0.st ht ok.ps k hk)
 rw [decide_eq_false hin] at KH
 have HK:=Lib.hid hk
 have hne5:b≠w.heap.size+1+1:=by omega
 have hne6:w.heap.size+1+1≠b:=by omega
 rw [<- syP_one]
 obtain ⟨pc1,pc2,-,pc4,-,pc6⟩:=hf0.pcells
 clear h0 hf0 hi hs ht hlow hgp PVV ok hin
 go_enter Tryz.func111,Tryz.ntmps111
 go_wp2_with fail
 rw [E6.out,Oper.upon_enter]
 refine KH.out.mono ?_
 rintro e w1 ⟨rfl,hb1⟩
 have HF1:=Lib.hid (HF0.out.below HP.out hb1)
 have HA1:=Lib.hid ((hb1.block _ (head_row HA0.out).lt).trans HA0.out)
 clear hb1 HF0 KH pc1 pc2 pc4 pc6 HA0
 obtain ⟨-,-,-,pc4,-,-⟩:=HF1.out.pcells
 obtain ⟨⟨-,b20,-,-⟩,-,-,-⟩:=HF1.out.bcells
 have HFA:=HF1
 have HAA:=HA1
 have KD:=Lib.hid (HP.out.drop HFA.out.inv HFA.out.st HT.out HM.out.ps k HK.out)
 clear HF1 HA1 b20
 go_wp2_with fail
 rw [E4.out,Oper.upon_enter]
 refine KD.out.mono ?_
 rintro e w2 ⟨rfl,ho2,x2,-,hs2⟩
 have HF2:=Lib.hid (HFA.out.chg HP.out ho2 hs2)
 have HA2:=Lib.hid ((ho2.block _ (head_row HAA.out).lt (by simpa using hne6)).trans HAA.out)
 have hkv:KV (w2.alloc (.cells #[.int .u64 (k:Nat)] 56)) (.slice (some ⟨w2.heap.size,0,none⟩) 1 1) [k]:=KV.one w2 k
 have HFB:=Lib.hid (HF2.out.below HP.out (low_one w2 (.cells #[.int .u64 (k:Nat)] 56)))
 have HAB:=Lib.hid (((low_one w2 (.cells #[.int .u64 (k:Nat)] 56)).block _ (head_row HA2.out).lt).trans HA2.out)
 have KL:=Lib.hid (leave_walk HFB.out.st hkv (by simp) (by simpa using HK.out) (by simp) HM.out.nd HM.out.bd hlen)
 clear ho2 hs2 HFA KD hkv HF2 HA2 HAA
 go_wp2_with fail
 refine KL.out.mono ?_
 rintro e w3 ⟨v3,rfl,hl3⟩
 obtain ⟨x3,hf3,-,-⟩:=HFB.out.leave HP.out hl3
 have HF3:=Lib.hid hf3
 have HA3:=Lib.hid ((hl3.only.block _ (head_row HAB.out).lt (by simpa using hne6)).trans HAB.out)
 obtain ⟨F3,n3,d3,rfl⟩:=hl3.left.form
 clear hl3 hf3 KL HFB HAB
 obtain ⟨⟨r0,r1,r2,r3,r4⟩,rf0,rf1,rf2,rf3,rf4⟩:=HF3.out.rcells
 obtain ⟨⟨a0,a1,a2,a3,a4⟩,-⟩:=c5_at HA3.out
 go_wp2
 exact bodyPost_ret (v := .agg (an13C false 0 0 0 none 0 0)) (by simp [results,Tryz.results111,go_sem,r0,r1,r2,r3,r4]) rfl (HF3.out.fin (PV.nil _) false 0 0 0)
end
end Go.Proofs.YtcpggonengkgiaaGreatDoor
