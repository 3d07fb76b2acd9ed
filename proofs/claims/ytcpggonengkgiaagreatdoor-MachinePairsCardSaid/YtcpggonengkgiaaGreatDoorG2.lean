/- Words and walks: Box PoA PoB PoP StepA ItA SqJ. -/
import Derived.Test.YtcpggonengkgiaaGreatDoorG0
import Derived.Test.YtcpggonengkgiaaGreatDoorG1
import Derived.Deep.AppendLies
import Derived.Deep.RegionHeld3
namespace Go.Proofs.YtcpggonengkgiaaGreatDoor
open Go Go.RowKit Go.Deep
section
variable {w w1:World} {g:Nat} {t:TypeId}
theorem set_one {c:Array Value} {i:Nat} {v:Value} (h:w.heap[g]? = some (.cells c t (0,0))):(w.setCell ⟨g,i,none⟩ v).heap[g]? = some (.cells (c.setIfInBounds i v) t (0,0)):=by
 simp [World.setCell,Array.getElem?_modify,h]
theorem c2_at {a0 a1:Value} (h:w.heap[g]? = some (.cells #[a0,a1] t (0,0))) :
  (w.cell? ⟨g,0,none⟩=some a0/\w.cell? ⟨g,1,none⟩=some a1)/\w.frozen? ⟨g,0,none⟩=false/\w.frozen? ⟨g,1,none⟩=false :=
 ⟨⟨(head_row h).cell (i:=0) (by simp),(head_row h).cell (i:=1) (by simp)⟩,(head_row h).frozen 0,(head_row h).frozen 1⟩
theorem c3_at {a0 a1 a2:Value} (h:w.heap[g]? = some (.cells #[a0,a1,a2] t (0,0))) :
  (w.cell? ⟨g,0,none⟩=some a0/\w.cell? ⟨g,1,none⟩=some a1/\w.cell? ⟨g,2,none⟩=some a2)/\w.frozen? ⟨g,0,none⟩=false/\w.frozen? ⟨g,1,none⟩=false/\w.frozen? ⟨g,2,none⟩=false :=
 ⟨⟨(head_row h).cell (i:=0) (by simp),(head_row h).cell (i:=1) (by simp),(head_row h).cell (i:=2) (by simp)⟩,(head_row h).frozen 0,(head_row h).frozen 1,(head_row h).frozen 2⟩
theorem c3_set {a0 a1 a2:Value} (h:w.heap[g]? = some (.cells #[a0,a1,a2] t (0,0))) (b0 b1 b2:Value) :
  (((w.setCell ⟨g,0,none⟩ b0).setCell ⟨g,1,none⟩ b1).setCell ⟨g,2,none⟩ b2).heap[g]? = some (.cells #[b0,b1,b2] t (0,0))/\Only [g] w (((w.setCell ⟨g,0,none⟩ b0).setCell ⟨g,1,none⟩ b1).setCell ⟨g,2,none⟩ b2) :=
 ⟨set_one (set_one (set_one h)),(((Only.refl [g] w).setCell (by simp) _).setCell (by simp) _).setCell (by simp) _⟩
theorem c4_at {a0 a1 a2 a3:Value} (h:w.heap[g]? = some (.cells #[a0,a1,a2,a3] t (0,0))) :
  (w.cell? ⟨g,0,none⟩=some a0/\w.cell? ⟨g,1,none⟩=some a1/\w.cell? ⟨g,2,none⟩=some a2/\w.cell? ⟨g,3,none⟩=some a3)/\w.frozen? ⟨g,0,none⟩=false/\w.frozen? ⟨g,1,none⟩=false/\w.frozen? ⟨g,2,none⟩=false/\w.frozen? ⟨g,3,none⟩=false :=
 ⟨⟨(head_row h).cell (i:=0) (by simp),(head_row h).cell (i:=1) (by simp),(head_row h).cell (i:=2) (by simp),(head_row h).cell (i:=3) (by simp)⟩,(head_row h).frozen 0,(head_row h).frozen 1,(head_row h).frozen 2,(head_row h).frozen 3⟩
theorem c4_set {a0 a1 a2 a3:Value} (h:w.heap[g]? = some (.cells #[a0,a1,a2,a3] t (0,0))) (b0 b1 b2 b3:Value) :
  ((((w.setCell ⟨g,0,none⟩ b0).setCell ⟨g,1,none⟩ b1).setCell ⟨g,2,none⟩ b2).setCell ⟨g,3,none⟩ b3).heap[g]? = some (.cells #[b0,b1,b2,b3] t (0,0))/\Only [g] w ((((w.setCell ⟨g,0,none⟩ b0).setCell ⟨g,1,none⟩ b1).setCell ⟨g,2,none⟩ b2).setCell ⟨g,3,none⟩ b3) :=
 ⟨set_one (set_one (set_one (set_one h))),((((Only.refl [g] w).setCell (by simp) _).setCell (by simp) _).setCell (by simp) _).setCell (by simp) _⟩
theorem c5_at {a0 a1 a2 a3 a4:Value} (h:w.heap[g]? = some (.cells #[a0,a1,a2,a3,a4] t (0,0))) :
  (w.cell? ⟨g,0,none⟩=some a0/\w.cell? ⟨g,1,none⟩=some a1/\w.cell? ⟨g,2,none⟩=some a2/\w.cell? ⟨g,3,none⟩=some a3/\w.cell? ⟨g,4,none⟩=some a4)/\w.frozen? ⟨g,0,none⟩=false/\w.frozen? ⟨g,1,none⟩=false/\w.frozen? ⟨g,2,none⟩=false/\w.frozen? ⟨g,3,none⟩=false/\w.frozen? ⟨g,4,none⟩=false :=
 ⟨⟨(head_row h).cell (i:=0) (by simp),(head_row h).cell (i:=1) (by simp),(head_row h).cell (i:=2) (by simp),(head_row h).cell (i:=3) (by simp),(head_row h).cell (i:=4) (by simp)⟩,(head_row h).frozen 0,(head_row h).frozen 1,(head_row h).frozen 2,(head_row h).frozen 3,(head_row h).frozen 4⟩
theorem c5_set {a0 a1 a2 a3 a4:Value} (h:w.heap[g]? = some (.cells #[a0,a1,a2,a3,a4] t (0,0))) (b0 b1 b2 b3 b4:Value) :
  (((((w.setCell ⟨g,0,none⟩ b0).setCell ⟨g,1,none⟩ b1).setCell ⟨g,2,none⟩ b2).setCell ⟨g,3,none⟩ b3).setCell ⟨g,4,none⟩ b4).heap[g]? = some (.cells #[b0,b1,b2,b3,b4] t (0,0))/\Only [g] w (((((w.setCell ⟨g,0,none⟩ b0).setCell ⟨g,1,none⟩ b1).setCell ⟨g,2,none⟩ b2).setCell ⟨g,3,none⟩ b3).setCell ⟨g,4,none⟩ b4) :=
 ⟨set_one (set_one (set_one (set_one (set_one h)))),(((((Only.refl [g] w).setCell (by simp) _).setCell (by simp) _).setCell (by simp) _).setCell (by simp) _).setCell (by simp) _⟩
theorem c6_at {a0 a1 a2 a3 a4 a5:Value} (h:w.heap[g]? = some (.cells #[a0,a1,a2,a3,a4,a5] t (0,0))) :
  (w.cell? ⟨g,0,none⟩=some a0/\w.cell? ⟨g,1,none⟩=some a1/\w.cell? ⟨g,2,none⟩=some a2/\w.cell? ⟨g,3,none⟩=some a3/\w.cell? ⟨g,4,none⟩=some a4/\w.cell? ⟨g,5,none⟩=some a5)/\w.frozen? ⟨g,0,none⟩=false/\w.frozen? ⟨g,1,none⟩=false/\w.frozen? ⟨g,2,none⟩=false/\w.frozen? ⟨g,3,none⟩=false/\w.frozen? ⟨g,4,none⟩=false/\w.frozen? ⟨g,5,none⟩=false :=
 ⟨⟨(head_row h).cell (i:=0) (by simp),(head_row h).cell (i:=1) (by simp),(head_row h).cell (i:=2) (by simp),(head_row h).cell (i:=3) (by simp),(head_row h).cell (i:=4) (by simp),(head_row h).cell (i:=5) (by simp)⟩,(head_row h).frozen 0,(head_row h).frozen 1,(head_row h).frozen 2,(head_row h).frozen 3,(head_row h).frozen 4,(head_row h).frozen 5⟩
theorem c6_set {a0 a1 a2 a3 a4 a5:Value} (h:w.heap[g]? = some (.cells #[a0,a1,a2,a3,a4,a5] t (0,0))) (b0 b1 b2 b3 b4 b5:Value) :
  ((((((w.setCell ⟨g,0,none⟩ b0).setCell ⟨g,1,none⟩ b1).setCell ⟨g,2,none⟩ b2).setCell ⟨g,3,none⟩ b3).setCell ⟨g,4,none⟩ b4).setCell ⟨g,5,none⟩ b5).heap[g]? = some (.cells #[b0,b1,b2,b3,b4,b5] t (0,0))/\Only [g] w ((((((w.setCell ⟨g,0,none⟩ b0).setCell ⟨g,1,none⟩ b1).setCell ⟨g,2,none⟩ b2).setCell ⟨g,3,none⟩ b3).setCell ⟨g,4,none⟩ b4).setCell ⟨g,5,none⟩ b5) :=
 ⟨set_one (set_one (set_one (set_one (set_one (set_one h))))),((((((Only.refl [g] w).setCell (by simp) _).setCell (by simp) _).setCell (by simp) _).setCell (by simp) _).setCell (by simp) _).setCell (by simp) _⟩
end
theorem low_one (w:World) (o:Obj):Below w.heap.size w (w.alloc o):=(Below.refl _ _).alloc (Nat.le_refl _) o
theorem low_two (w:World) (o o2:Obj):Below w.heap.size w ((w.alloc o).alloc o2):=(low_one w o).alloc (by simp) o2
def isU:Value->Bool
 | .int .u64 _=>true
 | _=>false
def NoU (cs:Array Value):Prop:=cs.toList.all (fun u => !isU u)=true
theorem NoU.at_ {cs:Array Value} (h:NoU cs) {i:Nat} {k:Int} (hi:cs[i]? = some (.int .u64 k)):False:=by
 have hm:Value.int .u64 k∈cs.toList:=by simpa using Array.mem_of_getElem? hi
 have:=List.all_eq_true.1 h _ hm
 simp [isU] at this
def Bx (w:World) (g:Nat):Prop:=∃ cs t,w.heap[g]? = some (.cells cs t (0,0))/\NoU cs/\t≠56
section
variable {w w':World} {v:Value} {ks:List Nat} {S:List Nat}
theorem KV.only (h:KV w v ks) (ho:Only S w w') (hS:∀ g∈S,Bx w g):KV w' v ks:=by
 have hout:∀ (j:Nat) (u:Value) (ad:Addr),(u64L ks)[j]? = some u->ad.block < w.heap.size->w.cell? (ad.add j)=some u->ad.block∉S:=fun j u ad hu h4 h5 hm=>by
  have hb:(ad.add j).block=ad.block:=ad_block ad j
  obtain ⟨cs,t,hg,hn,_⟩:=hS _ hm
  obtain ⟨x,rfl⟩:∃ x:Nat,u = .int .u64 (x:Nat):=by
   obtain ⟨hj,hju⟩:=List.getElem?_eq_some_iff.1 hu
   exact ⟨ks[j]'(by simpa [u64L] using hj),by rw [<- hju];simp [u64L]⟩
  unfold World.cell? at h5
  rw [hb,hg] at h5
  have h6:(if (ad.add j).spot.isSome then none else cs[(ad.add j).off]?)=some (Value.int .u64 (x:Nat)):=h5
  split at h6
  ·cases h6
  ·exact hn.at_ h6
 obtain ⟨hl,⟨F,c,e,h1,h2,h3⟩,hnp⟩:=h
 refine ⟨hl,⟨F,c,e,h1,h2,fun j u hu=>?_⟩,fun m c' ad e1=>?_⟩
 rotate_left
 ·have hp:=hnp m c' ad e1
  rw [e] at e1
  injection e1 with e1 e2 e3
  obtain ⟨ad',e4,h4,h5⟩:=h3 0 _ (List.getElem?_eq_getElem (by rw [u64L_len];omega))
  rw [e1] at e4
  injection e4 with e4
  subst e4
  exact hp.keep (ho.block _ hp.lt (hout 0 _ ad (List.getElem?_eq_getElem (by rw [u64L_len];omega)) h4 h5))
 obtain ⟨ad,e2,h4,h5⟩:=h3 j u hu
 have hb:(ad.add j).block=ad.block:=ad_block ad j
 refine ⟨ad,e2,Nat.lt_of_lt_of_le h4 ho.size,?_⟩
 refine Eq.trans (World.cell?_of_block (w:=w) ?_) h5
 rw [hb]
 exact ho.block _ h4 (hout j u ad hu h4 h5)
theorem KO.only {B:Nat} {w0:World} (h:KO B w0 w v ks) (ho:Only S w w') (hS:∀ g∈S,Bx w g/\B<=g) (hB:B<=w.heap.size):KO B w0 w' v ks:=by
 refine ⟨h.low.trans (ho.below (fun g hg=>(hS g hg).2) hB),h.own.1,?_⟩
 rcases h.own.2 with q | ⟨g,cap,cur,e1,e2,e3,e4⟩
 ·exact .inl q
 ·refine .inr ⟨g,cap,cur,e1,e2,(ho.block g (Array.getElem?_eq_some_iff.1 e3).1 (fun hm=>?_)).trans e3,e4⟩
  obtain ⟨⟨cs,t,hg,_,ht⟩,_⟩:=hS g hm
  rw [e3] at hg
  injection hg with hg
  injection hg with _ hg
  exact ht hg.symm
theorem Bx.keep {g:Nat} (h:Bx w g) (e:w'.heap[g]? = w.heap[g]?):Bx w' g:=by
 obtain ⟨cs,t,h1,h2⟩:=h
 exact ⟨cs,t,e.trans h1,h2⟩
theorem Ks.only {w0:World} {l:List (Value × List Nat)} (h:Ks w0 w l) (ho:Only S w w') (hS:∀ g∈S,Bx w g/\w0.heap.size<=g):Ks w0 w' l :=
 ⟨h.low.trans (ho.below (fun g hg=>(hS g hg).2) h.low.size),fun p hp=>(h.all p hp).only ho (fun g hg=>(hS g hg).1)⟩
end
structure Bo (w w1:World) (T:TypeId) (b r:Nat) (cs zs:Array Value):Prop where
 low:Below w.heap.size w w1
 box:w1.heap[b]? = some (.cells cs T (0,0))
 res:w1.heap[r]? = some (.cells zs T (0,0))
 ge:w.heap.size<=b/\w.heap.size<=r/\b≠r
 nu:NoU cs/\NoU zs
 ty:T≠56
theorem Bo.start (w:World) (T:TypeId) (cs zs:Array Value) (h1:NoU cs) (h2:NoU zs) (hT:T≠56):Bo w ((w.alloc (.cells cs T)).alloc (.cells zs T)) T w.heap.size (w.heap.size+1) cs zs:=by
 refine ⟨low_two w _ _,?_,?_,⟨by omega,by omega,by omega⟩,⟨h1,h2⟩,hT⟩
 ·rw [Below.heap_alloc _ _ _ (by simp)]
  exact heap_alloc_new w _
 ·have:=heap_alloc_new (w.alloc (.cells cs T)) (.cells zs T)
  simpa using this
theorem Bo.start3 (w:World) (T TA:TypeId) (cs xs zs:Array Value) (h1:NoU cs) (h2:NoU zs) (hT:T≠56) :
  Bo w (((w.alloc (.cells cs T)).alloc (.cells xs TA)).alloc (.cells zs T)) T w.heap.size (w.heap.size+1+1) cs zs/\(((w.alloc (.cells cs T)).alloc (.cells xs TA)).alloc (.cells zs T)).heap[w.heap.size+1]? = some (.cells xs TA (0,0)):=by
 refine ⟨⟨(low_two w _ _).alloc (by simp;omega) _,?_,?_,⟨by omega,by omega,by omega⟩,⟨h1,h2⟩,hT⟩,?_⟩
 ·rw [Below.heap_alloc _ _ _ (by simp;omega),Below.heap_alloc _ _ _ (by simp)]
  exact heap_alloc_new w _
 ·have:=heap_alloc_new ((w.alloc (.cells cs T)).alloc (.cells xs TA)) (.cells zs T)
  simpa using this
 ·rw [Below.heap_alloc _ _ _ (by simp)]
  have:=heap_alloc_new (w.alloc (.cells cs T)) (.cells xs TA)
  simpa using this
section
variable {w w1 w2:World} {T:TypeId} {b r:Nat} {cs zs:Array Value} {v:Value} {ks:List Nat}
theorem Bo.step (h:Bo w w1 T b r cs zs) (hb:Below w1.heap.size w1 w2):Bo w w2 T b r cs zs :=
 ⟨h.low.trans (hb.mono h.low.size),(hb.block b (head_row h.box).lt).trans h.box,(hb.block r (head_row h.res).lt).trans h.res,h.ge,h.nu,h.ty⟩
theorem Bo.kt (h:Bo w w1 T b r cs zs) (hk:Kt 56 w1 w2) (hlow:Below w.heap.size w w2):Bo w w2 T b r cs zs:=⟨hlow,hk _ _ _ _ h.box h.ty,hk _ _ _ _ h.res h.ty,h.ge,h.nu,h.ty⟩
theorem Bo.fin (h:Bo w w1 T b r cs zs) (ho:Only [b,r] w1 w2):Below w.heap.size w w2:=h.low.trans (ho.below (by simp;exact ⟨h.ge.1,h.ge.2.1⟩) h.low.size)
theorem Bo.bx (h:Bo w w1 T b r cs zs):∀ g∈[b,r],Bx w1 g/\w.heap.size<=g:=fun g hg=>by
 simp only [List.mem_cons,List.not_mem_nil,or_false] at hg
 rcases hg with rfl | rfl
 ·exact ⟨⟨_,_,h.box,h.nu.1,h.ty⟩,h.ge.1⟩
 ·exact ⟨⟨_,_,h.res,h.nu.2,h.ty⟩,h.ge.2.1⟩
theorem Bo.kv (h:Bo w w1 T b r cs zs) (ho:Only [b,r] w1 w2) (hk:KV w1 v ks):KV w2 v ks:=hk.only ho (fun g hg=>(h.bx g hg).1)
theorem Bo.ko (h:Bo w w1 T b r cs zs) (ho:Only [b,r] w1 w2) (hk:KO w.heap.size w w1 v ks):KO w.heap.size w w2 v ks:=hk.only ho h.bx h.low.size
theorem Bo.alloc (h:Bo w w1 T b r cs zs) (cs2:Array Value) (hn:NoU cs2):Bo w (w1.alloc (.cells cs2 T)) T w1.heap.size r cs2 zs:=by
 have h2:=h.step (low_one w1 (.cells cs2 T))
 have hr:=(head_row h.res).lt
 exact ⟨h2.low,heap_alloc_new w1 _,h2.res,⟨h.low.size,h.ge.2.1,by omega⟩,⟨hn,h.nu.2⟩,h.ty⟩
theorem Bo.set (h:Bo w w1 T b r cs zs) (i:Nat) (x:Value) (hn:NoU (cs.setIfInBounds i x)):Bo w (w1.setCell ⟨b,i,none⟩ x) T b r (cs.setIfInBounds i x) zs/\Only [b,r] w1 (w1.setCell ⟨b,i,none⟩ x):=by
 have ho:Only [b] w1 (w1.setCell ⟨b,i,none⟩ x):=(Only.refl _ _).setCell (by simp) _
 have ho2:Only [b,r] w1 (w1.setCell ⟨b,i,none⟩ x):=(Only.refl _ _).setCell (by simp) _
 exact ⟨⟨h.fin ho2,set_one h.box,(ho.block r (head_row h.res).lt (by simpa using fun e=>h.ge.2.2 e.symm)).trans h.res,h.ge,⟨hn,h.nu.2⟩,h.ty⟩,ho2⟩
end
structure Bp (w w1:World) (T U:TypeId) (b r:Nat) (cs zs:Array Value):Prop where
 low:Below w.heap.size w w1
 box:w1.heap[b]? = some (.cells cs T (0,0))
 res:w1.heap[r]? = some (.cells zs U (0,0))
 ge:w.heap.size<=b/\w.heap.size<=r/\b≠r
 nu:NoU cs/\NoU zs
 ty:T≠56/\U≠56
section
variable {w w1 w2:World} {T U:TypeId} {b r:Nat} {cs zs:Array Value} {v:Value} {ks:List Nat}
theorem Bp.step (h:Bp w w1 T U b r cs zs) (hb:Below w1.heap.size w1 w2):Bp w w2 T U b r cs zs :=
 ⟨h.low.trans (hb.mono h.low.size),(hb.block b (head_row h.box).lt).trans h.box,(hb.block r (head_row h.res).lt).trans h.res,h.ge,h.nu,h.ty⟩
theorem Bp.fin (h:Bp w w1 T U b r cs zs) (ho:Only [b,r] w1 w2):Below w.heap.size w w2:=h.low.trans (ho.below (by simp;exact ⟨h.ge.1,h.ge.2.1⟩) h.low.size)
theorem Bp.bx (h:Bp w w1 T U b r cs zs):∀ g∈[b,r],Bx w1 g/\w.heap.size<=g:=fun g hg=>by
 simp only [List.mem_cons,List.not_mem_nil,or_false] at hg
 rcases hg with rfl | rfl
 ·exact ⟨⟨_,_,h.box,h.nu.1,h.ty.1⟩,h.ge.1⟩
 ·exact ⟨⟨_,_,h.res,h.nu.2,h.ty.2⟩,h.ge.2.1⟩
theorem Bp.kv (h:Bp w w1 T U b r cs zs) (ho:Only [b,r] w1 w2) (hk:KV w1 v ks):KV w2 v ks:=hk.only ho (fun g hg=>(h.bx g hg).1)
end
def capI (n:Int):Nat:=if n < 1 then 1 else if 1048576 < n then 1048576 else n.toNat
theorem capI_pos (n:Int):1<=capI n/\capI n<=1048576:=by
 unfold capI
 split
 ·omega
 ·split
  ·omega
  ·omega
theorem capI_nat (n:Nat) (h1:1<=n) (h2:n<=1048576):capI (n:Int)=n:=by
 unfold capI
 rw [if_neg (by omega),if_neg (by omega)]
 omega
structure Act8 where
 kind:Nat
 key:Nat
 n:Nat
structure Act8.Ok (x:Act8):Prop where
 kind:x.kind < 256
 key:x.key < 18446744073709551616
 n:x.n < 65536
abbrev act8C (x:Act8):Array Value:=#[.int .u8 (x.kind:Nat),.int .u64 (x.key:Nat),.int .u16 (x.n:Nat)]
def kindA (x:Act8) (there:Bool):Nat:=if x.kind % 10=0 then 3 else if x.kind % 10=1 then 4 else if x.kind % 10=2 then 1 else if x.kind % 10=3 then 2 else if there then 1 else 2
def sizeA (x:Act8):Nat:=1+x.n % 14
theorem kindA_is (x:Act8) (b:Bool):kindA x b=1∨kindA x b=2∨kindA x b=3∨kindA x b=4:=by
 unfold kindA
 repeat' split
 all_goals simp
theorem sizeA_is (x:Act8):1<=sizeA x/\sizeA x<=14:=by unfold sizeA;omega
section
variable {w:World}
theorem rcap_walk (n:Int) (hn1 : -9223372036854775808<=n) (hn2:n<=9223372036854775807) :
  Calls Tryz.prog 132 #[.int .i64 n] w fun e w'=>e = .returned (.int .i64 (capI n:Nat))/\w=w':=by
 obtain ⟨c,hc⟩:∃ c,capI n=c:=⟨_,rfl⟩
 have HC:=Lib.hid hc
 rw [hc]
 clear hc
 by_cases h1:n < 1
 ·have H:Hid ((1:Int)=(c:Int)):=Lib.hid (by rw [<- HC.out,capI,if_pos h1];rfl)
  go_enter Tryz.func132,Tryz.ntmps132
  go_wp2
  go_ret
  exact ⟨by rw [H.out];rfl,rfl⟩
 ·by_cases h2:1048576 < n
  ·have H:Hid ((1048576:Int)=(c:Int)):=Lib.hid (by rw [<- HC.out,capI,if_neg h1,if_pos h2];rfl)
   go_enter Tryz.func132,Tryz.ntmps132
   go_wp2
   go_ret
   exact ⟨by rw [H.out];rfl,rfl⟩
  ·have H:Hid (n=(c:Int)):=Lib.hid (by rw [<- HC.out,capI,if_neg h1,if_neg h2];omega)
   go_enter Tryz.func132,Tryz.ntmps132
   go_wp2
   go_ret
   exact ⟨by rw [<- H.out];rfl,rfl⟩
end
def ActAt (w:World) (g o:Nat) (x:Act8):Prop:=w.cell? ⟨g,o,none⟩=some (.int .u8 (x.kind:Nat))/\w.cell? ⟨g,o+1,none⟩=some (.int .u64 (x.key:Nat))/\w.cell? ⟨g,o+2,none⟩=some (.int .u16 (x.n:Nat))
structure AV (w:World) (v:Value) (l:List Act8):Prop where
 mem:∃ A c,v = .slice A l.length c/\∀ i (h:i < l.length),l[i].Ok/\∃ g off,A=some ⟨g,off,none⟩/\g < w.heap.size/\ActAt w g (off+i * 3) l[i]
theorem ActAt.keep {w w':World} {g o:Nat} {x:Act8} (h:ActAt w g o x) (e:w'.heap[g]? = w.heap[g]?):ActAt w' g o x :=
 ⟨(World.cell?_of_block (w:=w) (a:=⟨g,o,none⟩) e).trans h.1,(World.cell?_of_block (w:=w) (a:=⟨g,o+1,none⟩) e).trans h.2.1,(World.cell?_of_block (w:=w) (a:=⟨g,o+2,none⟩) e).trans h.2.2⟩
theorem AV.below {w w':World} {v:Value} {l:List Act8} (h:AV w v l) (hb:Below w.heap.size w w'):AV w' v l:=by
 obtain ⟨A,c,e,h1⟩:=h.mem
 refine ⟨A,c,e,fun i hi=>?_⟩
 obtain ⟨ok,g,off,e2,hg,hc⟩:=h1 i hi
 exact ⟨ok,g,off,e2,Nat.lt_of_lt_of_le hg hb.size,hc.keep (hb.block g hg)⟩
structure Evs (was is out:List Nat) (q key size:Nat):Prop where
 e1:∀ k∈out,k∈was/\k∉is
 e2:∀ k∈was,k∈out∨k∈is∨q=3/\k=key
 e3:out.Nodup
 e4:(is.length:Int)=(was.length:Int) - (out.length:Int)+(if q=2/\key∉was then 1 else 0) - (if q=3/\key∈was then 1 else 0)
 e5:q=4->(out.length:Int)=max ((was.length:Int) - (size:Int)) 0
def Nw (B:Nat) (u v:Value):Prop:=∀ n c ad,v = .slice (some ad) (n+1) c->(∃ n' c',u = .slice (some ad) (n' + 1) c')∨B<=ad.block
theorem Nw.refl (B:Nat) (u:Value):Nw B u u:=fun n c _ h => .inl ⟨n,c,h⟩
theorem Nw.take (B:Nat) (F:Option Addr) {n k:Nat} (d:Nat) (hk:k<=n):Nw B (.slice F n d) (.slice F k d):=fun m c ad h=>by
 injection h with h1 h2 h3
 subst h1 h2 h3
 obtain ⟨j,rfl⟩:∃ j,n=j+1:=⟨n - 1,by omega⟩
 exact .inl ⟨j,_,rfl⟩
theorem Nw.trans {B B':Nat} {u v x:Value} (h:Nw B u v) (h2:Nw B' v x) (hB:B<=B'):Nw B u x:=fun n c ad e=>by
 rcases h2 n c ad e with ⟨n',c',e2⟩ | h3
 ·exact h n' c' ad e2
 ·exact .inr (Nat.le_trans hB h3)
theorem Nw.of_own {B B':Nat} {w0 w:World} {v:Value} {ks:List Nat} (u:Value) (h:KO B' w0 w v ks) (hB:B<=B'):Nw B u v:=fun n c ad e=>by
 subst e
 have:=(h.own.lt _ rfl).1
 exact .inr (by omega)
theorem Nw.off {B:Nat} {u v a:Value} (h:Nw B u v) (ho:Off u a) (ha:∀ g,a.ownBlock=some g->g < B):Off v a:=fun n c ad e=>by
 rcases h n c ad e with ⟨n',c',e2⟩ | h3
 ·exact ho n' c' ad e2
 ·intro e2
  have:=ha _ e2
  omega
theorem KO.lt {B:Nat} {w0 w:World} {v:Value} {ks:List Nat} (h:KO B w0 w v ks):∀ g,v.ownBlock=some g->g < w.heap.size:=fun _ hg=>(h.own.lt _ hg).2
theorem step_append_src {P:Program} {w:World} {ops:Array Oper} {o:Oper} {a:Act} {K:Act->World->Prop} {Q:Exit->Act->World->Prop} {E:Prop} (hgd:o.guard=none) (s x:Operand) (t:TypeId)
  (ho:o.op = .call { callee := .builtin .append,args:=#[s,x],argTypes:=#[t,t] }) (base:Nat) (e:TypeId) (z:Value) (size bytes:Nat) (ht:P.underlying t=some (.slice e))
  (hinfo:(P.info? e).map (fun i=>(i.zero,i.size,i.bytes))=some (some z,size,bytes)) (hzs:z.cells.size=size) (hsz:0 < size)
  (v:Value) (n:Nat) (xs:List Value) (hs:a.eval s=v) (hown:w.ownsRow base e size v n xs) (A:Option Addr) (m c:Nat) (news:List Value) (hx:a.eval x = .slice A m c)
  (hsrc:(A=none/\m=0/\c=0/\news=[])∨∃ ad,A=some ad/\news.length=m * size/\∀ j u,news[j]? = some u->w.cell? (ad.add j)=some u) (h1:∀ u∈news,u.oneCell'=true)
  (hbound:(n+m) * bytes<=140737488355328) (h63:n+m<=1000000000) (hbase:base<=w.heap.size)
  (h:∀ v' w',w'.ownsRow base e size v' (n+m) (xs ++ news)->w.grownBy w' v.ownBlock->K (a.put o.dst v') w'):if Region.wanted o (yielded ops a.tmps)=true then Oper.wp P o a w K Q else E:=by
 have hw:Region.wanted o (yielded ops a.tmps)=true:=by simp [Region.wanted,hgd]
 rw [if_pos hw]
 obtain ⟨i,hi,hz,hsize,hby⟩:=info_parts hinfo
 rcases hsrc with ⟨rfl,rfl,rfl,rfl⟩ | ⟨ad,rfl,hl,hc⟩
 ·have hrun:=run_append_owned_none (P:=P) (w:=w) base t o.type e i size ht hi v n xs hown
  unfold Oper.wp
  simp [execOp,ho,resolve,invoke,builtin,hs,hx,hrun,Result.andThen]
  exact h v w (by simpa using hown) (World.grownBy.refl w _)
 ·exact wp_append_own w s x t ho base e i z size bytes ht hi hz hsize hby hzs hsz v n xs hs hown ad m c news hx hl hc h1 (by unfold maxLen;omega) hbound hbase fun v' w' h2 h3 _=>h v' w' h2 h3
structure It where
 key:Nat
 f:Nat
deriving DecidableEq
def itV (x:It):List Value:=[.int .u64 (x.key:Nat),.int .i64 (x.f:Nat)]
def itL (xs:List It):List Value:=xs.flatMap itV
theorem itL_cons (x:It) (xs:List It):itL (x :: xs)=itV x ++ itL xs:=rfl
theorem itL_append (a b:List It):itL a ++ itL b=itL (a ++ b):=by simp [itL]
theorem itL_len:∀ (xs:List It),(itL xs).length=xs.length * 2
 | []=>rfl
 | x :: xs=>by rw [itL_cons,List.length_append,itL_len xs,List.length_cons];simp [itV];omega
theorem itL_one (xs:List It):∀ u∈itL xs,u.oneCell'=true:=fun u hu=>by
 obtain ⟨x,_,hx⟩:=List.mem_flatMap.1 hu
 simp only [itV,List.mem_cons,List.not_mem_nil,or_false] at hx
 rcases hx with rfl | rfl <;> rfl
theorem itL_at:∀ (xs:List It) (i:Nat) (h:i < xs.length),(itL xs)[i * 2]? = some (.int .u64 (xs[i].key:Nat))/\(itL xs)[i * 2+1]? = some (.int .i64 (xs[i].f:Nat))
 | x :: xs,0,_=>⟨rfl,rfl⟩
 | x :: xs,i+1,h=>by
  have:=itL_at xs i (by simpa using h)
  rw [itL_cons]
  refine ⟨?_,?_⟩
  ·rw [List.getElem?_append_right (by simp [itV];omega)]
   simpa [itV,show (i+1) * 2 - 2=i * 2 by omega] using this.1
  ·rw [List.getElem?_append_right (by simp [itV];omega)]
   simpa [itV,show (i+1) * 2+1 - 2=i * 2+1 by omega] using this.2
theorem itL_take:∀ (xs:List It) (m:Nat),itL (xs.take m)=(itL xs).take (m * 2)
 | [],m=>by simp [itL]
 | x :: xs,0=>by simp [itL]
 | x :: xs,m+1=>by
  rw [List.take_succ_cons,itL_cons,itL_cons,itL_take xs m]
  show _=List.take ((m+1) * 2) (_ :: _ :: itL xs)
  rw [show (m+1) * 2=m * 2+1+1 by omega,List.take_succ_cons,List.take_succ_cons]
  rfl
def keysI (xs:List It):List Nat:=xs.map It.key
def IV (w:World) (v:Value) (xs:List It):Prop:=RV w 2 v xs.length (itL xs)
section
variable {w w':World} {v:Value} {xs:List It} {S:List Nat}
theorem IV.form (h:IV w v xs):∃ F n c,v = .slice F n c:=by
 obtain ⟨_,⟨F,c,e,_⟩,_⟩:=h
 exact ⟨F,_,c,e⟩
theorem IV.mem (h:IV w v xs):∃ F c,v = .slice F xs.length c/\xs.length<=c/\(F=none->c=0)/\∀ i (h:i < xs.length), ∃ g off,F=some ⟨g,off,none⟩/\g < w.heap.size/\w.cell? ⟨g,off+i * 2,none⟩=some (.int .u64 (xs[i].key:Nat))/\w.cell? ⟨g,off+i * 2+1,none⟩=some (.int .i64 (xs[i].f:Nat)):=by
 obtain ⟨_,⟨F,c,e,h1,h2,h3⟩,_⟩:=h
 refine ⟨F,c,e,h1,h2,fun i hi=>?_⟩
 obtain ⟨a1,a2⟩:=itL_at xs i hi
 obtain ⟨ad,rfl,h4,h5⟩:=h3 _ _ a1
 obtain ⟨ad2,e2,_,h6⟩:=h3 _ _ a2
 injection e2 with e2
 subst e2
 obtain ⟨g,off,sp⟩:=ad
 cases sp with
 | none =>
  rw [Addr.add_lit] at h5 h6
  exact ⟨g,off,rfl,h4,h5,h6⟩
 | some s =>
  obtain ⟨ad,e3,_,h7⟩:=h3 0 _ (itL_at xs 0 (by omega)).1
  injection e3 with e3
  subst e3
  unfold World.cell? at h7
  simp [Addr.add] at h7
  split at h7 <;> cases h7
theorem IV.below (h:IV w v xs) (hb:Below w.heap.size w w'):IV w' v xs:=RV.below h hb
theorem IV.drewn (h:IV w v xs) (k:Nat):IV (w.drewN k) v xs:=RV.drewn h k
theorem IV.nil (w:World):IV w (.slice none 0 0) []:=RV.nil w 2
theorem IV.of_own {B:Nat} {e:TypeId} (h:w.ownsRow B e 2 v xs.length (itL xs)) (he:okT e=true:=by decide):IV w v xs:=RV.of_own h he
theorem IV.take (h:IV w v xs) (n:Nat) (hn:n<=xs.length):∃ F c,v = .slice F xs.length c/\IV w (.slice F n c) (xs.take n):=by
 obtain ⟨F,c,e,h1⟩:=RV.take h n hn
 refine ⟨F,c,e,?_⟩
 have e1:(xs.take n).length=n:=by rw [List.length_take];omega
 rw [IV,e1,itL_take]
 exact h1
theorem IV.only (h:IV w v xs) (ho:Only S w w') (hS:∀ g∈S,Bx w g):IV w' v xs:=by
 have hm:=h.mem
 obtain ⟨hl,⟨F,c,e,h1,h2,h3⟩,hnp⟩:=h
 have hout:∀ ad:Addr,F=some ad->0 < xs.length->ad.block∉S:=fun ad e2 hj hm2=>by
  obtain ⟨cs,t,hg,hn,_⟩:=hS _ hm2
  obtain ⟨F',c',e',_,_,h6⟩:=hm
  obtain ⟨g,off,e3,_,h7,_⟩:=h6 0 hj
  rw [e] at e'
  injection e' with e4 _ _
  rw [<- e4,e2] at e3
  injection e3 with e3
  subst e3
  unfold World.cell? at h7
  rw [hg] at h7
  exact hn.at_ (by simpa using h7)
 refine ⟨hl,⟨F,c,e,h1,h2,fun j u hu=>?_⟩,fun m c' ad e1=>?_⟩
 ·obtain ⟨ad,e2,h4,h5⟩:=h3 j u hu
  refine ⟨ad,e2,Nat.lt_of_lt_of_le h4 ho.size,?_⟩
  have hb:(ad.add j).block=ad.block:=ad_block ad j
  refine Eq.trans (World.cell?_of_block (w:=w) ?_) h5
  rw [hb]
  have hj:=(List.getElem?_eq_some_iff.1 hu).1
  rw [itL_len] at hj
  exact ho.block _ h4 (hout ad e2 (by omega))
 ·have hp:=hnp m c' ad e1
  rw [e] at e1
  injection e1 with e1 e2 e3
  exact hp.keep (ho.block _ hp.lt (hout ad e1 (by omega)))
end
structure OwnI (e:TypeId) (B:Nat) (w0 w:World) (v:Value) (xs:List It):Prop where
 low:Below B w0 w
 own:w.ownsRow B e 2 v xs.length (itL xs)
section
variable {e:TypeId} {B:Nat} {w0 w w':World} {v:Value} {xs:List It}
theorem OwnI.iv (h:OwnI e B w0 w v xs) (he:okT e=true:=by decide):IV w v xs:=IV.of_own h.own he
theorem OwnI.nil (h:Below B w0 w):OwnI e B w0 w (.slice none 0 0) []:=⟨h,World.ownsRow_nil _ _ _ _⟩
theorem OwnI.alloc (h:OwnI e B w0 w v xs) (hB:B<=w.heap.size) (o:Obj):OwnI e B w0 (w.alloc o) v xs:=⟨h.low.alloc hB o,h.own.alloc o⟩
theorem OwnI.drewn (h:OwnI e B w0 w v xs) (k:Nat):OwnI e B w0 (w.drewN k) v xs:=⟨below_drewn h.low k,h.own⟩
theorem OwnI.below (h:OwnI e B w0 w v xs) (hB:B<=w.heap.size) (hb:Below w.heap.size w w'):OwnI e B w0 w' v xs:=⟨h.low.trans (hb.mono hB),own_below h.own hb⟩
theorem OwnI.one (hB:B<=w.heap.size) (h:Below B w0 w) (x:It):OwnI e B w0 (w.alloc (.cells #[.int .u64 (x.key:Nat),.int .i64 (x.f:Nat)] e)) (.slice (some ⟨w.heap.size,0,none⟩) 1 1) [x] :=
 ⟨h.alloc hB _,World.ownsRow_lit (size:=2) w #[.int .u64 (x.key:Nat),.int .i64 (x.f:Nat)] 1 hB (by unfold maxLen;omega) rfl⟩
theorem IV.one (w:World) (e:TypeId) (x:It) (he:okT e=true:=by decide):IV (w.alloc (.cells #[.int .u64 (x.key:Nat),.int .i64 (x.f:Nat)] e)) (.slice (some ⟨w.heap.size,0,none⟩) 1 1) [x]:=(OwnI.one (e:=e) (Nat.le_refl _) (Below.refl _ _) x).iv he
theorem OwnI.lt (h:OwnI e B w0 w v xs):∀ g,v.ownBlock=some g->g < w.heap.size:=fun _ hg=>(h.own.lt _ hg).2
theorem Kp.iv {v':Value} {u:Value} {ys:List It} (h:Kp w v w' v') (hu:IV w u ys) (ho:Off u v):IV w' u ys/\Off u v':=h _ _ _ _ (by decide) hu ho
end
section
variable {w w1 w2:World} {T U:TypeId} {b r:Nat} {cs zs:Array Value} {v:Value} {xs:List It}
theorem Bo.iv (h:Bo w w1 T b r cs zs) (ho:Only [b,r] w1 w2) (hk:IV w1 v xs):IV w2 v xs:=hk.only ho (fun g hg=>(h.bx g hg).1)
theorem Bp.iv (h:Bp w w1 T U b r cs zs) (ho:Only [b,r] w1 w2) (hk:IV w1 v xs):IV w2 v xs:=hk.only ho (fun g hg=>(h.bx g hg).1)
end
theorem IV.box {w:World} {g c:Nat} {x:It} (h:IV w (.slice (some ⟨g,0,none⟩) 1 c) [x]):g < w.heap.size/\w.cell? ⟨g,0,none⟩=some (.int .u64 (x.key:Nat))/\w.cell? ⟨g,1,none⟩=some (.int .i64 (x.f:Nat)):=by
 obtain ⟨F,c',e,_,_,h3⟩:=h.mem
 obtain ⟨g',off,e2,hg,q0,q1⟩:=h3 0 (by simp)
 injection e with e3 e4 e5
 rw [<- e3] at e2
 injection e2 with e2
 injection e2 with e6 e7 e8
 subst e6 e7
 simpa using ⟨hg,q0,q1⟩
theorem wpList_append_iv {P:Program} {w:World} {ops:Array Oper} {rest:List Oper} {o:Oper} {a:Act} {Q:Exit->Act->World->Prop} {e t:TypeId} (hgd:o.guard=none) (s x:Operand)
  (ho:o.op = .call { callee := .builtin .append,args:=#[s,x],argTypes:=#[t,t] }) (base:Nat) (ht:P.underlying t=some (.slice e))
  (hinfo:(P.info? e).map (fun i=>(i.zero,i.size,i.bytes))=some (some (.agg #[.int .u64 0,.int .i64 0]),2,16))
  (v:Value) (xs:List It) (hs:a.eval s=v) {w0:World} (hown:OwnI e base w0 w v xs) (y:Value) (ys:List It) (hx:a.eval x=y)
  (hsrc:IV w y ys) (h63:xs.length+ys.length<=1000000000) (hbase:base<=w.heap.size)
  (h:∀ v' w',OwnI e base w0 w' v' (xs ++ ys)->Kp w v w' v'->Kt e w w'->wpList P ops Q rest (a.put o.dst v') w'):wpList P ops Q (o :: rest) a w:=by
 refine wpList_append_rv hgd s x _ ho base e (.agg #[.int .u64 0,.int .i64 0]) 2 16 ht hinfo rfl (by decide) v xs.length (itL xs) hs hown.own hown.low y ys.length (itL ys) hx hsrc (itL_one ys) (by omega) h63 hbase ?_
 intro v' w' h1 h2 h3 h4
 refine h v' w' ⟨h2,?_⟩ h3 h4
 rw [List.length_append,<- itL_append]
 exact h1
end Go.Proofs.YtcpggonengkgiaaGreatDoor
