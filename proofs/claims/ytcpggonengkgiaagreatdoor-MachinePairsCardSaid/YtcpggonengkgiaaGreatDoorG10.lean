/- Words and walks: S3Rv S3Z. -/
import Derived.Test.YtcpggonengkgiaaGreatDoorG9
import Derived.Deep.RegionHeld3
namespace Go.Proofs.YtcpggonengkgiaaGreatDoor
open Go Go.RowKit Go.Deep
set_option maxRecDepth 8000
def RevI (cur:Array Value) (off:Nat) (xs:List It) (i:Nat):Prop:=∀ p (hp:p < xs.length),
 cur[off+p * 2]? = some (.int .u64 ((if p < i∨xs.length<=p+i then xs[xs.length - 1 - p]'(by omega) else xs[p]).key:Nat)) /\
 cur[off+p * 2+1]? = some (.int .i64 ((if p < i∨xs.length<=p+i then xs[xs.length - 1 - p]'(by omega) else xs[p]).f:Nat))
theorem RevI.start {cur:Array Value} {off:Nat} {xs:List It} (h:Hold cur off xs):RevI cur off xs 0:=fun p hp=>by
 rw [if_neg (by omega)]
 exact h p hp
theorem RevI.next {cur:Array Value} {off:Nat} {xs:List It} {i j:Nat} (h:RevI cur off xs i) (hij:i < j) (hn:i+j+1=xs.length) (hs:off+xs.length * 2<=cur.size) :
  RevI ((((cur.setIfInBounds (off+i * 2) (.int .u64 ((xs[j]'(by omega)).key:Nat))).setIfInBounds (off+i * 2+1) (.int .i64 ((xs[j]'(by omega)).f:Nat))).setIfInBounds (off+j * 2) (.int .u64 ((xs[i]'(by omega)).key:Nat))).setIfInBounds (off+j * 2+1) (.int .i64 ((xs[i]'(by omega)).f:Nat))) off xs (i+1):=fun p hp=>by
 by_cases hpi:p=i
 ·subst hpi
  rw [if_pos (by omega)]
  have e:xs.length - 1 - p=j:=by omega
  simp only [e]
  refine ⟨?_,?_⟩
  ·rw [arr_set_other (by omega),arr_set_other (by omega),arr_set_other (by omega),arr_set_same (by omega)]
  ·rw [arr_set_other (by omega),arr_set_other (by omega),arr_set_same (by simp;omega)]
 ·by_cases hpj:p=j
  ·subst hpj
   rw [if_pos (by omega)]
   have e:xs.length - 1 - p=i:=by omega
   simp only [e]
   refine ⟨?_,?_⟩
   ·rw [arr_set_other (by omega),arr_set_same (by simp;omega)]
   ·rw [arr_set_same (by simp;omega)]
  ·have h1:=h p hp
   rw [arr_set_other (by omega),arr_set_other (by omega),arr_set_other (by omega),arr_set_other (by omega),arr_set_other (by omega),arr_set_other (by omega),arr_set_other (by omega),arr_set_other (by omega)]
   by_cases hc:p < i∨xs.length<=p+i
   ·rw [if_pos hc] at h1
    rw [if_pos (by omega)]
    exact h1
   ·rw [if_neg hc] at h1
    rw [if_neg (by omega)]
    exact h1
theorem RevI.fin {cur:Array Value} {off:Nat} {xs:List It} {i j:Nat} (h:RevI cur off xs i) (hij:¬ i < j) (hn:i+j+1=xs.length):Hold cur off xs.reverse:=fun p hp=>by
 rw [List.length_reverse] at hp
 have h1:=h p hp
 rw [List.getElem_reverse]
 by_cases hc:p < i∨xs.length<=p+i
 ·rw [if_pos hc] at h1
  exact h1
 ·rw [if_neg hc] at h1
  have e:xs.length - 1 - p=p:=by omega
  simp only [e]
  exact h1
def RvS (w wr:World) (g off sz:Nat) (xs:List It) (i:Nat):Prop:=Only [g] w wr/\∃ cur',wr.heap[g]? = some (.cells cur' QTI10 (0,0))/\cur'.size=sz/\RevI cur' off xs i
theorem RvS.next {w wr:World} {g off sz i j:Nat} {xs:List It} (h:RvS w wr g off sz xs i) (hij:i < j) (hn:i+j+1=xs.length) (hs:off+xs.length * 2<=sz) {xi xj:It} (hi:xs[i]? = some xi) (hj:xs[j]? = some xj) :
  RvS w ((((wr.setCell ⟨g,off+i * 2,none⟩ (.int .u64 (xj.key:Nat))).setCell ⟨g,off+i * 2+1,none⟩ (.int .i64 (xj.f:Nat))).setCell ⟨g,off+j * 2,none⟩ (.int .u64 (xi.key:Nat))).setCell ⟨g,off+j * 2+1,none⟩ (.int .i64 (xi.f:Nat))).drew g off sz xs (i+1):=by
 obtain ⟨ho,cur',hg',hs',hr'⟩:=h
 have h2:=RevI.next hr' hij hn (by rw [hs'];exact hs)
 rw [List.getElem?_eq_getElem (by omega)] at hi hj
 injection hi with hi
 injection hj with hj
 subst hi hj
 exact ⟨((((ho.setCell (by simp) _).setCell (by simp) _).setCell (by simp) _).setCell (by simp) _).drew,_,set_one (set_one (set_one (set_one hg'))),by simpa using hs',h2⟩
def RevK (cur:Array Value) (ks:List Nat) (i:Nat):Prop:=∀ p (hp:p < ks.length),cur[p]? = some (.int .u64 ((if p < i∨ks.length<=p+i then ks[ks.length - 1 - p]'(by omega) else ks[p]:Nat):Int))
theorem RevK.next {cur:Array Value} {ks:List Nat} {i j:Nat} (h:RevK cur ks i) (hij:i < j) (hn:i+j+1=ks.length) (hs:ks.length<=cur.size) :
  RevK ((cur.setIfInBounds i (.int .u64 ((ks[j]'(by omega):Nat):Int))).setIfInBounds j (.int .u64 ((ks[i]'(by omega):Nat):Int))) ks (i+1):=fun p hp=>by
 by_cases hpi:p=i
 ·subst hpi
  rw [if_pos (by omega)]
  have e:ks.length - 1 - p=j:=by omega
  simp only [e]
  rw [arr_set_other (by omega),arr_set_same (by omega)]
 ·by_cases hpj:p=j
  ·subst hpj
   rw [if_pos (by omega)]
   have e:ks.length - 1 - p=i:=by omega
   simp only [e]
   rw [arr_set_same (by simp;omega)]
  ·have h1:=h p hp
   rw [arr_set_other (by omega),arr_set_other (by omega)]
   by_cases hc:p < i∨ks.length<=p+i
   ·rw [if_pos hc] at h1
    rw [if_pos (by omega)]
    exact h1
   ·rw [if_neg hc] at h1
    rw [if_neg (by omega)]
    exact h1
def HoldK (cur:Array Value) (ks:List Nat):Prop:=∀ i (h:i < ks.length),cur[i]? = some (.int .u64 (ks[i]:Nat))
def RkS (w wr:World) (g sz:Nat) (ks:List Nat) (i:Nat):Prop:=Only [g] w wr/\∃ cur',wr.heap[g]? = some (.cells cur' 56 (0,0))/\cur'.size=sz/\RevK cur' ks i
theorem RkS.next {w wr:World} {g sz i j:Nat} {ks:List Nat} (h:RkS w wr g sz ks i) (hij:i < j) (hn:i+j+1=ks.length) (hs:ks.length<=sz) {xi xj:Nat} (hi:ks[i]? = some xi) (hj:ks[j]? = some xj) :
  RkS w ((wr.setCell ⟨g,i,none⟩ (.int .u64 (xj:Nat))).setCell ⟨g,j,none⟩ (.int .u64 (xi:Nat))).drew g sz ks (i+1):=by
 obtain ⟨ho,cur',hg',hs',hr'⟩:=h
 have h2:=RevK.next hr' hij hn (by rw [hs'];exact hs)
 rw [List.getElem?_eq_getElem (by omega)] at hi hj
 injection hi with hi
 injection hj with hj
 subst hi hj
 exact ⟨((ho.setCell (by simp) _).setCell (by simp) _).drew,_,set_one (set_one hg'),by simpa using hs',h2⟩
section
variable {w:World}
set_option maxHeartbeats 2000000 in
theorem revI_core {g off c n:Nat} {cur:Array Value} {xs:List It} (hg:w.heap[g]? = some (.cells cur QTI10 (0,0))) (hh:Hold cur off xs) (hn:xs.length=n+1) (hs:off+(n+1) * 2<=cur.size) (hl:n<=100000000) :
  Calls Tryz.prog 264 #[.slice (some ⟨g,off,none⟩) (n+1) c] w fun e w'=>e = .returned (.tuple #[])/\Only [g] w w'/\∃ cur',w'.heap[g]? = some (.cells cur' QTI10 (0,0))/\cur'.size=cur.size/\Hold cur' off xs.reverse:=by
 have HI0:Hid (RvS w w g off cur.size xs 0):=Lib.hid ⟨Only.refl _ _,cur,hg,rfl,RevI.start hh⟩
 have HN:=Lib.hid (And.intro hn hs)
 have hnI:(n:Int)<=100000000:=by omega
 clear hg hh hn hs
 go_enter Tryz.func264,Tryz.ntmps264
 go_wp2_with fail
 go_loopg [2,3] n (fun gg s2 s3 wr=>∃ (i j:Nat),i+j=n/\gg=j - i/\s2 = .int .i64 (i:Nat)/\s3 = .int .i64 (j:Nat)/\Hid (RvS w wr g off cur.size xs i))
 case atStart=>exact ⟨0,n,by omega,by omega,rfl,by go_num,HI0⟩
 case round =>
  obtain ⟨i,j,hij,hgg,rfl,rfl,HI⟩:=hrel
  by_cases hlt:i < j
  ·have hltI:(i:Int) < (j:Int):=by omega
   have hi1:(i:Int) < (n:Int)+1:=by omega
   have hj1:(j:Int) < (n:Int)+1:=by omega
   obtain ⟨ho,cur',hg',hs',hr'⟩:=HI.out
   have hxl:i < xs.length:=by have:=HN.out.1;omega
   have hxj:j < xs.length:=by have:=HN.out.1;omega
   obtain ⟨pi0,pi1⟩:=hr' i hxl
   obtain ⟨pj0,pj1⟩:=hr' j hxj
   rw [if_neg (by have:=HN.out.1;omega)] at pi0 pi1 pj0 pj1
   have hxI:xs[i]? = some xs[i]:=List.getElem?_eq_getElem hxl
   have hxJ:xs[j]? = some xs[j]:=List.getElem?_eq_getElem hxj
   have e0:=(cell_of_row wr g (off+i * 2) cur' QTI10 (0,0) hg').trans pi0
   have e1:=(cell_of_row wr g (off+i * 2+1) cur' QTI10 (0,0) hg').trans pi1
   have e2:=(cell_of_row wr g (off+j * 2) cur' QTI10 (0,0) hg').trans pj0
   have e3:=(cell_of_row wr g (off+j * 2+1) cur' QTI10 (0,0) hg').trans pj1
   have hro:=head_row hg'
   have f0:=hro.frozen (off+i * 2)
   have f1:=hro.frozen (off+i * 2+1)
   have f2:=hro.frozen (off+j * 2)
   have f3:=hro.frozen (off+j * 2+1)
   have hglt:=hro.lt
   have HSZ:=Lib.hid hs'
   obtain ⟨⟨kj,fj⟩,hxjv⟩:∃ x,xs[j]=x:=⟨_,rfl⟩
   obtain ⟨⟨ki,fi⟩,hxiv⟩:∃ x,xs[i]=x:=⟨_,rfl⟩
   rw [hxiv] at e0 e1 hxI
   rw [hxjv] at e2 e3 hxJ
   have HNX:=Lib.hid (RvS.next HI.out hlt (by have:=HN.out.1;omega) (by have h2:=HN.out;rw [h2.1];exact h2.2) hxI hxJ)
   dsimp only at e0 e1 e2 e3 HNX
   have hne:off+i * 2≠off+j * 2:=by omega
   clear ho hg' hs' hr' pi0 pi1 pj0 pj1 hro hxjv hxiv hxI hxJ hxl hxj HI HSZ
   go_wp2_with fail
   go_region
   go_wp2
   go_roundg (j - 1 - (i+1))
   case measure=>omega
   case rel=>exact ⟨i+1,j - 1,by omega,rfl,by go_num,congrArg (Value.int IntKind.i64) (by omega),HNX⟩
  ·have hltI:¬ (i:Int) < (j:Int):=by omega
   obtain ⟨ho,cur',hg',hs',hr'⟩:=HI.out
   have HF:Hid (Only [g] w wr/\∃ cur',wr.heap[g]? = some (.cells cur' QTI10 (0,0))/\cur'.size=cur.size/\Hold cur' off xs.reverse):=Lib.hid ⟨ho,cur',hg',hs',hr'.fin hlt (by have:=HN.out.1;omega)⟩
   clear ho hg' hs' hr' HI
   go_wp2
   go_end0
   exact ⟨rfl,HF.out⟩
set_option maxHeartbeats 2000000 in
theorem revK_core {g c n:Nat} {cur:Array Value} {ks:List Nat} (hg:w.heap[g]? = some (.cells cur 56 (0,0))) (hh:HoldK cur ks) (hn:ks.length=n+1) (hs:n+1<=cur.size) (hl:n<=100000000) :
  Calls Tryz.prog 266 #[.slice (some ⟨g,0,none⟩) (n+1) c] w fun e w'=>e = .returned (.tuple #[])/\Only [g] w w'/\∃ cur',w'.heap[g]? = some (.cells cur' 56 (0,0))/\cur'.size=cur.size/\HoldK cur' ks.reverse:=by
 have HI0:Hid (RkS w w g cur.size ks 0):=Lib.hid ⟨Only.refl _ _,cur,hg,rfl,fun p hp=>by
  rw [if_neg (by omega)]
  exact hh p hp⟩
 have HN:=Lib.hid (And.intro hn hs)
 have hnI:(n:Int)<=100000000:=by omega
 clear hg hh hn hs
 go_enter Tryz.func266,Tryz.ntmps266
 go_wp2_with fail
 go_loopg [2,3] n (fun gg s2 s3 wr=>∃ (i j:Nat),i+j=n/\gg=j - i/\s2 = .int .i64 (i:Nat)/\s3 = .int .i64 (j:Nat)/\Hid (RkS w wr g cur.size ks i))
 case atStart=>exact ⟨0,n,by omega,by omega,rfl,by go_num,HI0⟩
 case round =>
  obtain ⟨i,j,hij,hgg,rfl,rfl,HI⟩:=hrel
  by_cases hlt:i < j
  ·have hltI:(i:Int) < (j:Int):=by omega
   have hi1:(i:Int) < (n:Int)+1:=by omega
   have hj1:(j:Int) < (n:Int)+1:=by omega
   obtain ⟨ho,cur',hg',hs',hr'⟩:=HI.out
   have hxl:i < ks.length:=by have:=HN.out.1;omega
   have hxj:j < ks.length:=by have:=HN.out.1;omega
   have pi0:=hr' i hxl
   have pj0:=hr' j hxj
   rw [if_neg (by have:=HN.out.1;omega)] at pi0 pj0
   have hxI:ks[i]? = some ks[i]:=List.getElem?_eq_getElem hxl
   have hxJ:ks[j]? = some ks[j]:=List.getElem?_eq_getElem hxj
   have e0:=(cell_of_row wr g i cur' 56 (0,0) hg').trans pi0
   have e2:=(cell_of_row wr g j cur' 56 (0,0) hg').trans pj0
   have hro:=head_row hg'
   have f0:=hro.frozen i
   have f2:=hro.frozen j
   have hglt:=hro.lt
   obtain ⟨kj,hxjv⟩:∃ x,ks[j]=x:=⟨_,rfl⟩
   obtain ⟨ki,hxiv⟩:∃ x,ks[i]=x:=⟨_,rfl⟩
   rw [hxiv] at e0 hxI
   rw [hxjv] at e2 hxJ
   have HNX:=Lib.hid (RkS.next HI.out hlt (by have:=HN.out.1;omega) (by have h2:=HN.out;rw [h2.1];exact h2.2) hxI hxJ)
   have hne:i≠j:=by omega
   clear ho hg' hs' hr' pi0 pj0 hro hxjv hxiv hxI hxJ hxl hxj HI
   go_wp2_with fail
   go_region
   go_wp2
   go_roundg (j - 1 - (i+1))
   case measure=>omega
   case rel=>exact ⟨i+1,j - 1,by omega,rfl,by go_num,congrArg (Value.int IntKind.i64) (by omega),HNX⟩
  ·have hltI:¬ (i:Int) < (j:Int):=by omega
   obtain ⟨ho,cur',hg',hs',hr'⟩:=HI.out
   have HF:Hid (Only [g] w wr/\∃ cur',wr.heap[g]? = some (.cells cur' 56 (0,0))/\cur'.size=cur.size/\HoldK cur' ks.reverse):=Lib.hid ⟨ho,cur',hg',hs',fun p hp=>by
    rw [List.length_reverse] at hp
    have h1:=hr' p hp
    rw [List.getElem_reverse]
    by_cases hc:p < i∨ks.length<=p+i
    ·rw [if_pos hc] at h1
     exact h1
    ·rw [if_neg hc] at h1
     have e:ks.length - 1 - p=p:=by have:=HN.out.1;omega
     simp only [e]
     exact h1⟩
   clear ho hg' hs' hr' HI
   go_wp2
   go_end0
   exact ⟨rfl,HF.out⟩
theorem revI_nil (F:Option Addr) (c:Nat):Calls Tryz.prog 264 #[.slice F 0 c] w fun e w'=>e = .returned (.tuple #[])/\w'=w:=by
 go_enter Tryz.func264,Tryz.ntmps264
 go_wp2_with fail
 go_loopg [2,3] 1 (fun gg s2 s3 wr=>gg=1/\s2 = .int .i64 0/\s3 = .int .i64 (-1)/\wr=w)
 case atStart=>exact ⟨rfl,rfl,by go_num,rfl⟩
 case round =>
  obtain ⟨-,rfl,rfl,rfl⟩:=hrel
  go_wp2
  go_end0
  exact ⟨rfl,rfl⟩
theorem revK_nil (F:Option Addr) (c:Nat):Calls Tryz.prog 266 #[.slice F 0 c] w fun e w'=>e = .returned (.tuple #[])/\w'=w:=by
 go_enter Tryz.func266,Tryz.ntmps266
 go_wp2_with fail
 go_loopg [2,3] 1 (fun gg s2 s3 wr=>gg=1/\s2 = .int .i64 0/\s3 = .int .i64 (-1)/\wr=w)
 case atStart=>exact ⟨rfl,rfl,by go_num,rfl⟩
 case round =>
  obtain ⟨-,rfl,rfl,rfl⟩:=hrel
  go_wp2
  go_end0
  exact ⟨rfl,rfl⟩
theorem revI_walk {B:Nat} {w0:World} {v:Value} {xs:List It} (h:IQ B w0 w v xs) (hB:B<=w.heap.size) (hl:xs.length<=100000000) :
  Calls Tryz.prog 264 #[v] w fun e w'=>e = .returned (.tuple #[])/\IQ B w0 w' v xs.reverse/\w.grownBy w' v.ownBlock:=by
 rcases Nat.eq_zero_or_pos xs.length with h0 | h0
 ·obtain rfl:xs=[]:=List.length_eq_zero_iff.1 h0
  obtain ⟨F,c,rfl,_⟩:=h.form
  refine (revI_nil F c).mono ?_
  rintro e w' ⟨rfl,rfl⟩
  exact ⟨rfl,h,World.grownBy.refl _ _⟩
 ·rcases h.own with ⟨rfl,rfl⟩ | ⟨g,off,c,cur,rfl,hBg,hg,hle,hcm,hsz,hh⟩
  ·simp at h0
  ·obtain ⟨n,hn⟩:∃ n,xs.length=n+1:=⟨xs.length - 1,by omega⟩
   have hr:=revI_core (c:=c) hg hh hn (by omega) (by omega)
   rw [<- hn] at hr
   refine hr.mono ?_
   rintro e w' ⟨rfl,ho,cur',hg',hs',hh'⟩
   refine ⟨rfl,⟨h.low.trans (ho.below (by simpa using hBg) hB),.inr ⟨g,off,c,cur',by rw [List.length_reverse],hBg,hg',by rw [List.length_reverse];exact hle,hcm,by rw [hs'];exact hsz,hh'⟩⟩,⟨ho.os,ho.tape,ho.output,ho.size,fun k hk hne=>ho.block k hk (by simpa [Value.ownBlock] using fun e:k=g=>hne (by simp [Value.ownBlock,e]))⟩⟩
theorem revK_walk {B:Nat} {w0:World} {v:Value} {ks:List Nat} (h:KO B w0 w v ks) (hB:B<=w.heap.size) (hl:ks.length<=100000000) :
  Calls Tryz.prog 266 #[v] w fun e w'=>e = .returned (.tuple #[])/\KO B w0 w' v ks.reverse/\w.grownBy w' v.ownBlock:=by
 rcases Nat.eq_zero_or_pos ks.length with h0 | h0
 ·obtain rfl:ks=[]:=List.length_eq_zero_iff.1 h0
  obtain ⟨F,c,rfl,_⟩:=h.kv.mem
  refine (revK_nil F c).mono ?_
  rintro e w' ⟨rfl,rfl⟩
  exact ⟨rfl,h,World.grownBy.refl _ _⟩
 ·rcases h.own.2 with ⟨rfl,h1⟩ | ⟨g,c,cur,rfl,hBg,hg,hle,hcm,hsz,htk⟩
  ·omega
  ·obtain ⟨n,hn⟩:∃ n,ks.length=n+1:=⟨ks.length - 1,by omega⟩
   have hh:HoldK cur ks:=fun i hi=>by
    have h2:(u64L ks)[i]? = some (.int .u64 (ks[i]:Nat)):=by simp [u64L,hi]
    rw [<- htk,List.getElem?_take,if_pos (by omega)] at h2
    simpa using h2
   have hr:=revK_core (c:=c) hg hh hn (by omega) (by omega)
   rw [<- hn] at hr
   refine hr.mono ?_
   rintro e w' ⟨rfl,ho,cur',hg',hs',hh'⟩
   refine ⟨rfl,⟨h.low.trans (ho.below (by simpa using hBg) hB),⟨by simp [u64L],.inr ⟨g,c,cur',by rw [List.length_reverse],hBg,hg',by rw [List.length_reverse];exact hle,hcm,by rw [hs'];exact hsz,?_⟩⟩⟩,⟨ho.os,ho.tape,ho.output,ho.size,fun k hk hne=>ho.block k hk (by simpa [Value.ownBlock] using fun e:k=g=>hne (by simp [Value.ownBlock,e]))⟩⟩
   refine List.ext_getElem? (fun i=>?_)
   by_cases hi:i < ks.reverse.length
   ·rw [List.getElem?_take,if_pos (by omega)]
    have h3:=hh' i hi
    rw [Array.getElem?_toList,h3]
    simp only [u64L]
    rw [List.getElem?_map,List.getElem?_eq_getElem hi]
    rfl
   ·rw [List.getElem?_eq_none (by rw [List.length_take];omega),List.getElem?_eq_none (by simp [u64L] at hi ⊢;omega)]
end
set_option maxRecDepth 8000
section
variable {w:World} {u u1 u2 u3:Value} {s:L10} {xs:List It} {ks:List Nat}
theorem flat_le {α:Type} (F:It->List α) (hF:∀ x,(F x).length<=1):∀ (xs:List It),(xs.flatMap F).length<=xs.length
 | []=>Nat.le_refl _
 | x :: xs=>by
  have h1:=hF x
  have h2:=flat_le F hF xs
  rw [List.flatMap_cons,List.length_append,List.length_cons]
  omega
set_option maxHeartbeats 2000000 in
theorem throughU_walk (h:IV w u xs) (hl:xs.length<=100000000) (hf:∀ x∈xs,x.f<=3) {kb k:Nat} (hk:w.cell? ⟨kb,0,none⟩=some (.int .u64 (k:Nat))) (hkb:kb < w.heap.size):Calls Tryz.prog 175 #[u,.func (.func 174) #[] #[.pointer (some ⟨kb,0,none⟩)]] w (RetI w (usI k xs)):=by
 rw [usI_flat]
 have H:=Lib.hid h
 obtain ⟨F,c,rfl,hcap,-⟩:=h.mem
 have KC:Hid (∀ (W:World) (_:Below w.heap.size w W) (x:It) (_:x∈xs),Calls Tryz.prog 174 #[.agg #[.int .u64 (x.key:Nat),.int .i64 (x.f:Nat)],.pointer (some ⟨kb,0,none⟩)] W fun e w'=>e = .returned (.tuple #[.agg #[.int .u64 ((useI k x).key:Nat),.int .i64 ((useI k x).f:Nat)],.bool true])/\Below W.heap.size W w'):=Lib.hid (fun W hb x hx=>use_walk ((hb.cell (p:=⟨kb,0,none⟩) hkb).trans hk) (Nat.lt_of_lt_of_le hkb hb.size) x (hf x hx))
 obtain ⟨n,hn⟩:∃ n,xs.length=n:=⟨_,rfl⟩
 rw [hn] at hl H ⊢
 have HN:=Lib.hid hn
 have HG:=Lib.hid (growI_walk w n hl)
 clear h hn hcap hf hk hkb
 have hnI:(n:Int)<=100000000:=by omega
 go_enter Tryz.func175,Tryz.ntmps175
 go_wp2_with fail
 refine HG.out.mono ?_
 rintro e w1 ⟨v1,rfl,hk1⟩
 have H1:=Lib.hid hk1
 clear hk1 HG
 go_wp2_with fail
 go_loopg [5,15] n (fun gg s5 s15 wr=>∃ (i:Nat) (v0:Value),i+gg=n/\v0=s5/\s15 = .int .i64 (i:Nat)/\Hid (OwnI QTI10 w.heap.size w wr v0 ((xs.take i).flatMap (fun t=>[useI k t]))))
 case atStart=>exact ⟨0,_,by omega,rfl,rfl,Lib.hid (by simpa using H1.out)⟩
 case round =>
  obtain ⟨i,v5,hi,rfl,rfl,HI⟩:=hrel
  by_cases hlt:i < n
  ·have hltI:(i:Int) < (n:Int):=by omega
   obtain ⟨F',c',e,_,_,h3⟩:=(H.out.below HI.out.low).mem
   injection e with e1 e2 e3
   subst e1 e3
   have hix:i < xs.length:=by have:=HN.out;omega
   obtain ⟨g,off,hF,hg,q0,q1⟩:=h3 i hix
   subst hF
   have hFT:=flatIt_take (fun t=>[useI k t]) hix
   have hLL:((xs.take i).flatMap (fun t=>[useI k t])).length<=100000000:=by
    have h5:=flat_le (fun t=>[useI k t]) (by intro x;first | exact Nat.le_refl 1 | (split <;> simp)) (xs.take i)
    rw [List.length_take] at h5
    omega
   have hmem:=List.getElem_mem hix
   obtain ⟨x,hx⟩:∃ x,xs[i]=x:=⟨_,rfl⟩
   rw [hx] at q0 q1 hFT hmem
   have KR:=Lib.hid (fun W (hb:Below w.heap.size w W)=>KC.out W hb x hmem)
   have HFT:=Lib.hid hFT
   obtain ⟨zs,hzs⟩:∃ zs,(xs.take (i+1)).flatMap (fun t=>[useI k t])=zs:=⟨_,rfl⟩
   obtain ⟨ys,hys⟩:∃ ys,(xs.take i).flatMap (fun t=>[useI k t])=ys:=⟨_,rfl⟩
   rw [hys,hzs] at HFT
   have HZS:=Lib.hid hzs
   rw [hys] at HI hLL
   have HLL:=Lib.hid hLL
   obtain ⟨kx,fx⟩:=x
   dsimp only at q0 q1 KR
   have hx1:=HI.out.alloc HI.out.low.size (.cells #[.int .u64 (kx:Nat),.int .i64 (fx:Nat)] QTI10)
   have KX:=Lib.hid (KR.out _ hx1.low)
   have HX1:=Lib.hid hx1
   clear h3 hmem hzs hys hx hix hFT hLL hx1 e2 KR HI
   go_wp2_with fail
   refine KX.out.mono ?_
   rintro e w2 ⟨rfl,hb2⟩
   have HX2:=Lib.hid (HX1.out.below HX1.out.low.size hb2)
   clear hb2 HX1 KX q0 q1 hg

   obtain ⟨ky,hky⟩:∃ y,(useI k ⟨kx,fx⟩).key=y:=⟨_,rfl⟩
   obtain ⟨fy,hfy⟩:∃ y,(useI k ⟨kx,fx⟩).f=y:=⟨_,rfl⟩
   have HUE:Hid (useI k ⟨kx,fx⟩=⟨ky,fy⟩):=Lib.hid (by rw [<- hky,<- hfy])
   rw [hky,hfy]
   clear hky hfy
   have hx3:=HX2.out.alloc HX2.out.low.size (.cells #[.int .u64 (ky:Nat),.int .i64 (fy:Nat)] QTI10)
   have hx4:=hx3.alloc hx3.low.size (.cells #[.int .u64 (ky:Nat),.int .i64 (fy:Nat)] QTI10)
   have HOW:=Lib.hid hx4
   have HSRC:=Lib.hid (IV.one (w2.alloc (.cells #[.int .u64 (ky:Nat),.int .i64 (fy:Nat)] QTI10)) QTI10 ⟨ky,fy⟩)
   have hszA:=hx4.low.size
   clear hx3 hx4 HX2
   go_wp2_with (at_builtin;refine wpList_append_iv (e:=QTI10) rfl (.tmp 26) (.tmp 28) rfl w.heap.size (by kernel_rfl) (by kernel_rfl) v5 ys rfl HOW.out _ [⟨ky,fy⟩] rfl (by first | exact HSRC.out | (have h:=HSRC.out;simp only [World.size_alloc] at h;exact h)) (by have:=HLL.out;simp;omega) hszA ?_)
   intro v6 w6 hown6 _ _
   have hHZ:ys ++ [(⟨ky,fy⟩:It)]=zs:=by rw [HFT.out,HUE.out]
   rw [hHZ,<- HZS.out] at hown6
   have HNX:=Lib.hid hown6
   clear hown6 hHZ HOW HSRC hszA
   go_wp2
   go_roundg (gk - 1)
   case measure=>omega
   case rel=>exact ⟨i+1,v6,by omega,rfl,by go_num,HNX⟩
  ·have hltI:¬ (i:Int) < (n:Int):=by omega
   have hfin:=HI.out
   rw [List.take_of_length_le (by have:=HN.out;omega)] at hfin
   have HF:=Lib.hid hfin
   clear hfin HI
   go_wp2
   go_ret
   exact ⟨_,rfl,HF.out⟩
set_option maxHeartbeats 2000000 in
theorem throughO_walk (h:IV w u xs) (hl:xs.length<=100000000) {kb k:Nat} (hk:w.cell? ⟨kb,0,none⟩=some (.int .u64 (k:Nat))) (hkb:kb < w.heap.size):Calls Tryz.prog 175 #[u,.func (.func 180) #[] #[.pointer (some ⟨kb,0,none⟩)]] w (RetI w (woI k xs)):=by
 rw [woI_flat]
 have H:=Lib.hid h
 obtain ⟨F,c,rfl,hcap,-⟩:=h.mem
 have KC:Hid (∀ (W:World) (_:Below w.heap.size w W) (x:It) (_:x∈xs),Calls Tryz.prog 180 #[.agg #[.int .u64 (x.key:Nat),.int .i64 (x.f:Nat)],.pointer (some ⟨kb,0,none⟩)] W fun e w'=>e = .returned (.tuple #[.agg #[.int .u64 (x.key:Nat),.int .i64 (x.f:Nat)],.bool (!decide (x.key=k))])/\Below W.heap.size W w'):=Lib.hid (fun W hb x hx=>other_walk ((hb.cell (p:=⟨kb,0,none⟩) hkb).trans hk) (Nat.lt_of_lt_of_le hkb hb.size) x)
 obtain ⟨n,hn⟩:∃ n,xs.length=n:=⟨_,rfl⟩
 rw [hn] at hl H ⊢
 have HN:=Lib.hid hn
 have HG:=Lib.hid (growI_walk w n hl)
 clear h hn hcap hk hkb
 have hnI:(n:Int)<=100000000:=by omega
 go_enter Tryz.func175,Tryz.ntmps175
 go_wp2_with fail
 refine HG.out.mono ?_
 rintro e w1 ⟨v1,rfl,hk1⟩
 have H1:=Lib.hid hk1
 clear hk1 HG
 go_wp2_with fail
 go_loopg [5,15] n (fun gg s5 s15 wr=>∃ (i:Nat) (v0:Value),i+gg=n/\v0=s5/\s15 = .int .i64 (i:Nat)/\Hid (OwnI QTI10 w.heap.size w wr v0 ((xs.take i).flatMap (fun t=>if t.key=k then [] else [t]))))
 case atStart=>exact ⟨0,_,by omega,rfl,rfl,Lib.hid (by simpa using H1.out)⟩
 case round =>
  obtain ⟨i,v5,hi,rfl,rfl,HI⟩:=hrel
  by_cases hlt:i < n
  ·have hltI:(i:Int) < (n:Int):=by omega
   obtain ⟨F',c',e,_,_,h3⟩:=(H.out.below HI.out.low).mem
   injection e with e1 e2 e3
   subst e1 e3
   have hix:i < xs.length:=by have:=HN.out;omega
   obtain ⟨g,off,hF,hg,q0,q1⟩:=h3 i hix
   subst hF
   have hFT:=flatIt_take (fun t=>if t.key=k then [] else [t]) hix
   have hLL:((xs.take i).flatMap (fun t=>if t.key=k then [] else [t])).length<=100000000:=by
    have h5:=flat_le (fun t=>if t.key=k then [] else [t]) (by intro x;first | exact Nat.le_refl 1 | (split <;> simp)) (xs.take i)
    rw [List.length_take] at h5
    omega
   have hmem:=List.getElem_mem hix
   obtain ⟨x,hx⟩:∃ x,xs[i]=x:=⟨_,rfl⟩
   rw [hx] at q0 q1 hFT hmem
   have KR:=Lib.hid (fun W (hb:Below w.heap.size w W)=>KC.out W hb x hmem)
   have HFT:=Lib.hid hFT
   obtain ⟨zs,hzs⟩:∃ zs,(xs.take (i+1)).flatMap (fun t=>if t.key=k then [] else [t])=zs:=⟨_,rfl⟩
   obtain ⟨ys,hys⟩:∃ ys,(xs.take i).flatMap (fun t=>if t.key=k then [] else [t])=ys:=⟨_,rfl⟩
   rw [hys,hzs] at HFT
   have HZS:=Lib.hid hzs
   rw [hys] at HI hLL
   have HLL:=Lib.hid hLL
   obtain ⟨kx,fx⟩:=x
   dsimp only at q0 q1 KR
   have hx1:=HI.out.alloc HI.out.low.size (.cells #[.int .u64 (kx:Nat),.int .i64 (fx:Nat)] QTI10)
   have KX:=Lib.hid (KR.out _ hx1.low)
   have HX1:=Lib.hid hx1
   clear h3 hmem hzs hys hx hix hFT hLL hx1 e2 KR HI
   go_wp2_with fail
   refine KX.out.mono ?_
   rintro e w2 ⟨rfl,hb2⟩
   have HX2:=Lib.hid (HX1.out.below HX1.out.low.size hb2)
   clear hb2 HX1 KX q0 q1 hg
   by_cases he:kx=k
   ·rw [decide_eq_true he]
    have hHZ:ys=zs:=by rw [HFT.out,if_pos he,List.append_nil]
    have hx3:=HX2.out.alloc HX2.out.low.size (.cells #[.int .u64 (kx:Nat),.int .i64 (fx:Nat)] QTI10)
    rw [hHZ,<- HZS.out] at hx3
    have HNX:=Lib.hid hx3
    clear hx3 hHZ he HX2
    go_wp2
    go_roundg (gk - 1)
    case measure=>omega
    case rel=>exact ⟨i+1,v5,by omega,rfl,by go_num,HNX⟩
   ·rw [decide_eq_false he]
    have HHE:=Lib.hid he
    clear he
    have hx3:=HX2.out.alloc HX2.out.low.size (.cells #[.int .u64 (kx:Nat),.int .i64 (fx:Nat)] QTI10)
    have hx4:=hx3.alloc hx3.low.size (.cells #[.int .u64 (kx:Nat),.int .i64 (fx:Nat)] QTI10)
    have HOW:=Lib.hid hx4
    have HSRC:=Lib.hid (IV.one (w2.alloc (.cells #[.int .u64 (kx:Nat),.int .i64 (fx:Nat)] QTI10)) QTI10 ⟨kx,fx⟩)
    have hszA:=hx4.low.size
    clear hx3 hx4 HX2
    go_wp2_with (at_builtin;refine wpList_append_iv (e:=QTI10) rfl (.tmp 26) (.tmp 28) rfl w.heap.size (by kernel_rfl) (by kernel_rfl) v5 ys rfl HOW.out _ [⟨kx,fx⟩] rfl (by first | exact HSRC.out | (have h:=HSRC.out;simp only [World.size_alloc] at h;exact h)) (by have:=HLL.out;simp;omega) hszA ?_)
    intro v6 w6 hown6 _ _
    have hHZ:ys ++ [(⟨kx,fx⟩:It)]=zs:=by rw [HFT.out,if_neg HHE.out]
    rw [hHZ,<- HZS.out] at hown6
    have HNX:=Lib.hid hown6
    clear hown6 hHZ HOW HSRC hszA
    go_wp2
    go_roundg (gk - 1)
    case measure=>omega
    case rel=>exact ⟨i+1,v6,by omega,rfl,by go_num,HNX⟩
  ·have hltI:¬ (i:Int) < (n:Int):=by omega
   have hfin:=HI.out
   rw [List.take_of_length_le (by have:=HN.out;omega)] at hfin
   have HF:=Lib.hid hfin
   clear hfin HI
   go_wp2
   go_ret
   exact ⟨_,rfl,HF.out⟩
set_option maxHeartbeats 2000000 in
theorem throughK_walk (h:IV w u xs) (hl:xs.length<=100000000)  : Calls Tryz.prog 184 #[u,.func (.func 183) #[] #[]] w (OwnK w (keysI xs)):=by
 rw [keysI_flat]
 have H:=Lib.hid h
 obtain ⟨F,c,rfl,hcap,-⟩:=h.mem
 have KC:Hid (∀ (W:World) (_:Below w.heap.size w W) (x:It) (_:x∈xs),Calls Tryz.prog 183 #[.agg #[.int .u64 (x.key:Nat),.int .i64 (x.f:Nat)]] W fun e w'=>e = .returned (.tuple #[.int .u64 (x.key:Nat),.bool true])/\Below W.heap.size W w'):=Lib.hid (fun W hb x hx=>key_walk x)
 obtain ⟨n,hn⟩:∃ n,xs.length=n:=⟨_,rfl⟩
 rw [hn] at hl H ⊢
 have HN:=Lib.hid hn
 have HG:=Lib.hid (grow_walk (KO.nil (B:=w.heap.size) (w0:=w) (Below.refl _ _)) (Nat.le_refl _) n hl (by simp))
 clear h hn hcap
 have hnI:(n:Int)<=100000000:=by omega
 go_enter Tryz.func184,Tryz.ntmps184
 go_wp2_with fail
 refine HG.out.mono ?_
 rintro e w1 ⟨v1,rfl,hk1⟩
 have H1:=Lib.hid hk1
 clear hk1 HG
 go_wp2_with fail
 go_loopg [5,15] n (fun gg s5 s15 wr=>∃ (i:Nat) (v0:Value),i+gg=n/\v0=s5/\s15 = .int .i64 (i:Nat)/\Hid (KO w.heap.size w wr v0 ((xs.take i).flatMap (fun t=>[t.key]))))
 case atStart=>exact ⟨0,_,by omega,rfl,rfl,Lib.hid (by simpa using H1.out)⟩
 case round =>
  obtain ⟨i,v5,hi,rfl,rfl,HI⟩:=hrel
  by_cases hlt:i < n
  ·have hltI:(i:Int) < (n:Int):=by omega
   obtain ⟨F',c',e,_,_,h3⟩:=(H.out.below HI.out.low).mem
   injection e with e1 e2 e3
   subst e1 e3
   have hix:i < xs.length:=by have:=HN.out;omega
   obtain ⟨g,off,hF,hg,q0,q1⟩:=h3 i hix
   subst hF
   have hFT:=flatIt_take (fun t=>[t.key]) hix
   have hLL:((xs.take i).flatMap (fun t=>[t.key])).length<=100000000:=by
    have h5:=flat_le (fun t=>[t.key]) (by intro x;first | exact Nat.le_refl 1 | (split <;> simp)) (xs.take i)
    rw [List.length_take] at h5
    omega
   have hmem:=List.getElem_mem hix
   obtain ⟨x,hx⟩:∃ x,xs[i]=x:=⟨_,rfl⟩
   rw [hx] at q0 q1 hFT hmem
   have KR:=Lib.hid (fun W (hb:Below w.heap.size w W)=>KC.out W hb x hmem)
   have HFT:=Lib.hid hFT
   obtain ⟨zs,hzs⟩:∃ zs,(xs.take (i+1)).flatMap (fun t=>[t.key])=zs:=⟨_,rfl⟩
   obtain ⟨ys,hys⟩:∃ ys,(xs.take i).flatMap (fun t=>[t.key])=ys:=⟨_,rfl⟩
   rw [hys,hzs] at HFT
   have HZS:=Lib.hid hzs
   rw [hys] at HI hLL
   have HLL:=Lib.hid hLL
   obtain ⟨kx,fx⟩:=x
   dsimp only at q0 q1 KR
   have hx1:=HI.out.alloc HI.out.low.size (.cells #[.int .u64 (kx:Nat),.int .i64 (fx:Nat)] QTI10)
   have KX:=Lib.hid (KR.out _ hx1.low)
   have HX1:=Lib.hid hx1
   clear h3 hmem hzs hys hx hix hFT hLL hx1 e2 KR HI
   go_wp2_with fail
   refine KX.out.mono ?_
   rintro e w2 ⟨rfl,hb2⟩
   have HX2:=Lib.hid (HX1.out.below HX1.out.low.size hb2)
   clear hb2 HX1 KX q0 q1 hg
   have hx4:=HX2.out.alloc HX2.out.low.size (.cells #[.int .u64 (kx:Nat)] 56)
   have HOW:=Lib.hid hx4
   have HSRC:=Lib.hid (KV.one w2 kx)
   have hszA:=hx4.low.size
   clear hx4 HX2
   go_wp2_with (at_builtin;refine wpList_append_kv rfl (.tmp 26) (.tmp 28) rfl w.heap.size (by kernel_rfl) (by kernel_rfl) v5 ys rfl HOW.out _ [kx] rfl HSRC.out (by have:=HLL.out;simp;omega) hszA ?_)
   intro v6 w6 hown6 _ _
   have hHZ:ys ++ [kx]=zs:=HFT.out.symm
   rw [hHZ,<- HZS.out] at hown6
   have HNX:=Lib.hid hown6
   clear hown6 hHZ HOW HSRC hszA
   go_wp2
   go_roundg (gk - 1)
   case measure=>omega
   case rel=>exact ⟨i+1,v6,by omega,rfl,by go_num,HNX⟩
  ·have hltI:¬ (i:Int) < (n:Int):=by omega
   have hfin:=HI.out
   rw [List.take_of_length_le (by have:=HN.out;omega)] at hfin
   have HF:=Lib.hid hfin
   clear hfin HI
   go_wp2
   go_ret
   exact ⟨_,rfl,HF.out⟩
end
end Go.Proofs.YtcpggonengkgiaaGreatDoor
