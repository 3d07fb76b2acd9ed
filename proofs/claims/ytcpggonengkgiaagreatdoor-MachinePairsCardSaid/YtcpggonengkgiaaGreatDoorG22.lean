/- Words and walks: LiV LiR LiI LiS LiT LiN LiH LiJ LiY. -/
import Derived.Test.YtcpggonengkgiaaGreatDoorG1
import Derived.Test.YtcpggonengkgiaaGreatDoorG2
import Derived.Test.YtcpggonengkgiaaGreatDoorG21
import Derived.Test.YtcpggonengkgiaaGreatDoorG3
import Derived.IntWalk
import Derived.Deep.LoopGhost
import Derived.Deep.QuietTactic
import Derived.BigQuiet
import Derived.Deep.RegionHeld3
import Derived.Deep.RegionWith
import Derived.Deep.RegionLaw
import Derived.Deep.CutRange
import Derived.Deep.DeepCutAuto
namespace Go.Proofs.YtcpggonengkgiaaGreatDoor
open Go Go.RowKit Go.Deep
structure Bx12 (w w1:World) (T:TypeId) (b r:Nat) (s:L12) (u1 u2:Value):Prop where
 bo:Bo w w1 T b r (l12C s.c u1 u2) z12
 st:St12 w1 s u1 u2
section
variable {w w1 w2:World} {T:TypeId} {b r:Nat} {s:L12} {u1 u2:Value}
theorem Bx12.start (w:World) (T:TypeId) (hT:T≠56) {s:L12} {F1:Option Addr} {n1 d1:Nat} {F2:Option Addr} {n2 d2:Nat} (h:St12 w s (.slice F1 n1 d1) (.slice F2 n2 d2)):Bx12 w ((w.alloc (.cells (l12C s.c (.slice F1 n1 d1) (.slice F2 n2 d2)) T)).alloc (.cells z12 T)) T w.heap.size (w.heap.size+1) s (.slice F1 n1 d1) (.slice F2 n2 d2) :=
 ⟨Bo.start w T _ _ rfl rfl hT,h.below (low_two w _ _)⟩
theorem Bx12.step (h:Bx12 w w1 T b r s u1 u2) (hb:Below w1.heap.size w1 w2):Bx12 w w2 T b r s u1 u2:=⟨h.bo.step hb,h.st.below hb⟩
theorem Bx12.kv {v:Value} {ks:List Nat} {i:Nat} {x:Value} (h:Bx12 w w1 T b r s u1 u2) (hk:KV w1 v ks):KV (w1.setCell ⟨b,i,none⟩ x) v ks:=h.bo.kv ((Only.refl _ _).setCell (by simp) _) hk
theorem Bx12.set1 (h:Bx12 w w1 T b r s u1 u2) {F:Option Addr} {m d:Nat} {ks:List It} (hk:IV w1 (.slice F m d) ks):Bx12 w (w1.setCell ⟨b,1,none⟩ (.slice F m d)) T b r ⟨s.c,ks,s.q⟩ (.slice F m d) u2:=by
 obtain ⟨F1,n1,d1,rfl⟩:=h.st.form1
 obtain ⟨F2,n2,d2,rfl⟩:=h.st.form2
 obtain ⟨h1,h2⟩:=h.bo.set 1 (.slice F m d) rfl
 exact ⟨h1,h.bo.iv h2 hk,h.bo.kv h2 h.st.g2⟩
theorem Bx12.set2 (h:Bx12 w w1 T b r s u1 u2) {F:Option Addr} {m d:Nat} {ks:List Nat} (hk:KV w1 (.slice F m d) ks):Bx12 w (w1.setCell ⟨b,2,none⟩ (.slice F m d)) T b r ⟨s.c,s.s,ks⟩ u1 (.slice F m d):=by
 obtain ⟨F1,n1,d1,rfl⟩:=h.st.form1
 obtain ⟨F2,n2,d2,rfl⟩:=h.st.form2
 obtain ⟨h1,h2⟩:=h.bo.set 2 (.slice F m d) rfl
 exact ⟨h1,h.bo.iv h2 h.st.g1,h.bo.kv h2 hk⟩
theorem Bx12.set0 (h:Bx12 w w1 T b r s u1 u2) (c':Nat):Bx12 w (w1.setCell ⟨b,0,none⟩ (.int .i64 (c':Nat))) T b r ⟨c',s.s,s.q⟩ u1 u2:=by
 obtain ⟨F1,n1,d1,rfl⟩:=h.st.form1
 obtain ⟨F2,n2,d2,rfl⟩:=h.st.form2
 obtain ⟨h1,h2⟩:=h.bo.set 0 (.int .i64 (c':Nat)) rfl
 exact ⟨h1,h.bo.iv h2 h.st.g1,h.bo.kv h2 h.st.g2⟩
theorem Bx12.only (_:Bx12 w w1 T b r s u1 u2):Only [b,r] w1 (((w1.setCell ⟨r,0,none⟩ (.int .i64 (s.c:Nat))).setCell ⟨r,1,none⟩ u1).setCell ⟨r,2,none⟩ u2):=(((Only.refl _ _).setCell (by simp) _).setCell (by simp) _).setCell (by simp) _
theorem Bx12.done (h:Bx12 w w1 T b r s u1 u2):P12 w s (.returned (.agg (l12C s.c u1 u2))) (((w1.setCell ⟨r,0,none⟩ (.int .i64 (s.c:Nat))).setCell ⟨r,1,none⟩ u1).setCell ⟨r,2,none⟩ u2):=⟨_,_,rfl,h.bo.fin h.only,h.bo.st12 h.only h.st⟩
theorem Bx12.doneo (h:Bx12 w w1 T b r s u1 u2) {o:Value} {out:List Nat} (ho:KV w1 o out):P12o w s out (.returned (.tuple #[.agg (l12C s.c u1 u2),o])) (((w1.setCell ⟨r,0,none⟩ (.int .i64 (s.c:Nat))).setCell ⟨r,1,none⟩ u1).setCell ⟨r,2,none⟩ u2):=⟨_,_,_,rfl,h.bo.fin h.only,h.bo.st12 h.only h.st,h.bo.kv h.only ho⟩
theorem Bx12.put {s':L12} {u1 u2:Value} {F1:Option Addr} {n1 d1:Nat} {F2:Option Addr} {n2 d2:Nat} (h:Bx12 w w1 T b r s u1 u2) (hs:St12 w1 s' (.slice F1 n1 d1) (.slice F2 n2 d2)):Bx12 w (((w1.setCell ⟨b,0,none⟩ (.int .i64 (s'.c:Nat))).setCell ⟨b,1,none⟩ (.slice F1 n1 d1)).setCell ⟨b,2,none⟩ (.slice F2 n2 d2)) T b r s' (.slice F1 n1 d1) (.slice F2 n2 d2):=by
 obtain ⟨h1,h2⟩:=c3_set h.bo.box (.int .i64 (s'.c:Nat)) (.slice F1 n1 d1) (.slice F2 n2 d2)
 have ho:Only [b,r] w1 (((w1.setCell ⟨b,0,none⟩ (.int .i64 (s'.c:Nat))).setCell ⟨b,1,none⟩ (.slice F1 n1 d1)).setCell ⟨b,2,none⟩ (.slice F2 n2 d2)):=(((Only.refl _ _).setCell (by simp) _).setCell (by simp) _).setCell (by simp) _
 exact ⟨⟨h.bo.fin ho,h1,(h2.block r (head_row h.bo.res).lt (by simpa using fun e=>h.bo.ge.2.2 e.symm)).trans h.bo.res,h.bo.ge,⟨rfl,h.bo.nu.2⟩,h.bo.ty⟩,h.bo.st12 ho hs⟩
theorem Bx12.alloc {s':L12} {v1 v2:Value} {F1:Option Addr} {n1 d1:Nat} {F2:Option Addr} {n2 d2:Nat} (h:Bx12 w w1 T b r s' v1 v2) (hs:St12 w1 s (.slice F1 n1 d1) (.slice F2 n2 d2)):Bx12 w (w1.alloc (.cells (l12C s.c (.slice F1 n1 d1) (.slice F2 n2 d2)) T)) T w1.heap.size r s (.slice F1 n1 d1) (.slice F2 n2 d2) :=
 ⟨h.bo.alloc _ rfl,hs.below (low_one w1 _)⟩
end
structure Bs12 (w w1:World) (T:TypeId) (b:Nat) (s:L12) (u1 u2:Value):Prop where
 low:Below w.heap.size w w1
 box:w1.heap[b]? = some (.cells (l12C s.c u1 u2) T (0,0))
 ge:w.heap.size<=b
 ty:T≠56
 st:St12 w1 s u1 u2
section
variable {w w1 w2:World} {T:TypeId} {b:Nat} {s:L12} {u1 u2:Value}
theorem Bs12.step (h:Bs12 w w1 T b s u1 u2) (hb:Below w1.heap.size w1 w2):Bs12 w w2 T b s u1 u2:=⟨h.low.trans (hb.mono h.low.size),(hb.block b (head_row h.box).lt).trans h.box,h.ge,h.ty,h.st.below hb⟩
theorem Bs12.new {F1:Option Addr} {n1 d1:Nat} {F2:Option Addr} {n2 d2:Nat} (hT:T≠56) (hb:Below w.heap.size w w1) (hs:St12 w1 s (.slice F1 n1 d1) (.slice F2 n2 d2)):Bs12 w (w1.alloc (.cells (l12C s.c (.slice F1 n1 d1) (.slice F2 n2 d2)) T)) T w1.heap.size s (.slice F1 n1 d1) (.slice F2 n2 d2):=⟨hb.alloc hb.size _,heap_alloc_new w1 _,hb.size,hT,hs.below (low_one w1 _)⟩
theorem Bs12.put {s':L12} {F1:Option Addr} {n1 d1:Nat} {F2:Option Addr} {n2 d2:Nat} (h:Bs12 w w1 T b s u1 u2) (hs:St12 w1 s' (.slice F1 n1 d1) (.slice F2 n2 d2)):Bs12 w (((w1.setCell ⟨b,0,none⟩ (.int .i64 (s'.c:Nat))).setCell ⟨b,1,none⟩ (.slice F1 n1 d1)).setCell ⟨b,2,none⟩ (.slice F2 n2 d2)) T b s' (.slice F1 n1 d1) (.slice F2 n2 d2):=by
 obtain ⟨G1,m1,e1,rfl⟩:=h.st.form1
 obtain ⟨G2,m2,e2,rfl⟩:=h.st.form2
 obtain ⟨h1,h2⟩:=c3_set h.box (.int .i64 (s'.c:Nat)) (.slice F1 n1 d1) (.slice F2 n2 d2)
 have hbx:∀ g∈[b],Bx w1 g:=fun g hg=>by
  rw [List.mem_singleton] at hg
  subst hg
  exact ⟨_,_,h.box,rfl,h.ty⟩
 exact ⟨h.low.trans (h2.below (by simp;exact h.ge) h.low.size),h1,h.ge,h.ty,hs.g1.only h2 hbx,hs.g2.only h2 hbx⟩
theorem Bs12.kv {v:Value} {ks:List Nat} {s':L12} {v1 v2:Value} (h:Bs12 w w1 T b s u1 u2) (hk:KV w1 v ks):KV (((w1.setCell ⟨b,0,none⟩ (.int .i64 (s'.c:Nat))).setCell ⟨b,1,none⟩ v1).setCell ⟨b,2,none⟩ v2) v ks:=by
 obtain ⟨G1,m1,e1,rfl⟩:=h.st.form1
 obtain ⟨G2,m2,e2,rfl⟩:=h.st.form2
 have hbx:∀ g∈[b],Bx w1 g:=fun g hg=>by
  rw [List.mem_singleton] at hg
  subst hg
  exact ⟨_,_,h.box,rfl,h.ty⟩
 exact hk.only ((((Only.refl [b] _).setCell (by simp) _).setCell (by simp) _).setCell (by simp) _) hbx
end
def PlcP (w:World) (xs:List It) (k:Nat) (e:Ending) (w':World):Prop:=w=w'/\((e = .returned (.int .i64 (-1))/\k∉keysI xs)∨∃ (i:Nat) (hi:i < xs.length),e = .returned (.int .i64 (i:Nat))/\xs[i].key=k/\∀ j (hj:j < xs.length),j < i->xs[j].key≠k)
def LowP (w:World) (xs:List It) (f:Nat) (e:Ending) (w':World):Prop:=w=w'/\((e = .returned (.int .i64 (-1))/\∀ j (hj:j < xs.length),xs[j].f≠f)∨∃ (m:Nat) (hm:m < xs.length),e = .returned (.int .i64 (m:Nat))/\xs[m].f=f/\∀ j (hj:j < xs.length),m < j->xs[j].f≠f)
section
variable {w:World} {v:Value} {xs:List It}
end
set_option maxRecDepth 8000
abbrev TI12:TypeId:=210
def tailI (F:Option Addr) (n c i:Nat):Value := .slice (if c=i then F else F.map (fun a=>a.add (i * 2))) (n - i) (c - i)
theorem itL_drop:∀ (xs:List It) (m:Nat),itL (xs.drop m)=(itL xs).drop (m * 2)
 | [],m=>by simp [itL]
 | x :: xs,0=>by simp
 | x :: xs,m+1=>by
  rw [List.drop_succ_cons,itL_cons,itL_drop xs m]
  show _=List.drop ((m+1) * 2) (_ :: _ :: itL xs)
  rw [show (m+1) * 2=m * 2+1+1 by omega,List.drop_succ_cons,List.drop_succ_cons]
theorem IV.tail {w:World} {F:Option Addr} {c:Nat} {xs:List It} (h:IV w (.slice F xs.length c) xs) {i:Nat} (hi:i<=xs.length):IV w (tailI F xs.length c i) (xs.drop i):=by
 obtain ⟨hl,⟨F',c',e,h1,h2,h3⟩,hnp⟩:=h
 injection e with e1 e2 e3
 subst e1 e3
 refine ⟨itL_len _,⟨(if c=i then F else F.map (fun a=>a.add (i * 2))),c - i,by simp [tailI],by simp;omega,fun hn=>?_,fun j u hj=>?_⟩,fun m c2 ad e1=>?_⟩
 rotate_left 2
 ·injection e1 with e1 e2 e3
  obtain ⟨n',hn'⟩:∃ n',xs.length=n' + 1:=⟨xs.length - 1,by omega⟩
  cases F with
  | none=>split at e1 <;> cases e1
  | some a =>
   have hb:ad.block=a.block:=by
    split at e1
    ·injection e1 with e1
     rw [e1]
    ·have e4:a.add (i * 2)=ad:=by injection e1
     rw [<- e4,ad_block]
   rw [hb]
   exact hnp n' c a (by rw [hn'])
 ·split at hn
  ·omega
  ·cases F with
   | none=>have:=h2 rfl;omega
   | some a=>cases hn
 ·have hd:(itL xs)[i * 2+j]? = some u:=by
   rw [itL_drop,List.getElem?_drop] at hj
   exact hj
  obtain ⟨ad,rfl,h4,h5⟩:=h3 _ _ hd
  have hlt:i * 2+j < xs.length * 2:=by
   have:=(List.getElem?_eq_some_iff.1 hd).1
   rw [itL_len] at this
   exact this
  rw [if_neg (by omega)]
  refine ⟨ad.add (i * 2),rfl,by rw [ad_block];exact h4,?_⟩
  rw [<- h5]
  rw [Addr.add_add]
def Hold12 (cur:Array Value) (off:Nat) (xs:List It):Prop:=∀ i (h:i < xs.length),cur[off+i * 2]? = some (.int .u64 (xs[i].key:Nat))/\cur[off+i * 2+1]? = some (.int .i64 (xs[i].f:Nat))
theorem IV.of_hold12 {w:World} {g off c:Nat} {cur:Array Value} {t:TypeId} {xs:List It} (hg:w.heap[g]? = some (.cells cur t (0,0))) (h:Hold12 cur off xs) (hc:xs.length<=c) (he:okT t=true:=by decide):IV w (.slice (some ⟨g,off,none⟩) xs.length c) xs:=by
 refine ⟨itL_len xs,⟨_,c,rfl,hc,(fun e=>by cases e),fun j u hu=>⟨_,rfl,(Array.getElem?_eq_some_iff.1 hg).1,?_⟩⟩,fun m c' ad e1=>by
  injection e1 with e1
  injection e1 with e1
  subst e1
  exact NP.cells hg he⟩
 have hj:=(List.getElem?_eq_some_iff.1 hu).1
 rw [itL_len] at hj
 rw [Addr.add_lit,cell_of_row w g (off+j) cur t (0,0) hg]
 obtain ⟨i,hi | hi⟩:∃ i,j=i * 2∨j=i * 2+1:=⟨j / 2,by omega⟩
 ·subst hi
  have hi2:i < xs.length:=by omega
  rw [(h i hi2).1,<- (itL_at xs i hi2).1,hu]
 ·subst hi
  have hi2:i < xs.length:=by omega
  rw [<- Nat.add_assoc,(h i hi2).2,<- (itL_at xs i hi2).2,hu]
theorem arr_set_other12 {cur:Array Value} {j k:Nat} {x:Value} (h:k≠j):(cur.setIfInBounds j x)[k]? = cur[k]? := by
 rw [Array.getElem?_setIfInBounds]
 split
 ·omega
 ·rfl
theorem arr_set_same12 {cur:Array Value} {j:Nat} {x:Value} (h:j < cur.size):(cur.setIfInBounds j x)[j]? = some x:=by
 rw [Array.getElem?_setIfInBounds]
 simp [h]
structure SetI (B:Nat) (w0 w:World) (g c i f:Nat) (xs:List It):Prop where
 lt:g < w.heap.size
 cell:∃ f0:Nat,w.cell? ⟨g,i * 2+1,none⟩=some (.int .i64 (f0:Nat))
 free:w.frozen? ⟨g,i * 2+1,none⟩=false
 low:Below B w0 (w.setCell ⟨g,i * 2+1,none⟩ (.int .i64 (f:Nat)))
 iv:IV (w.setCell ⟨g,i * 2+1,none⟩ (.int .i64 (f:Nat))) (.slice (some ⟨g,0,none⟩) xs.length c) xs
theorem OwnI.set {e:TypeId} {B:Nat} {w0 w:World} {v:Value} {xs:List It} (h:OwnI e B w0 w v xs) (hB:B<=w.heap.size) {i:Nat} (hi:i < xs.length) (f:Nat) (he:okT e=true:=by decide) :
  ∃ g c,v = .slice (some ⟨g,0,none⟩) xs.length c/\xs.length<=c/\SetI B w0 w g c i f (xs.set i ⟨xs[i].key,f⟩):=by
 rcases h.own.2 with ⟨rfl,h0⟩ | ⟨g,c,cur,rfl,hBg,hg,hle,hc,hsz,htk⟩
 ·omega
 ·have hh:Hold12 cur 0 xs:=fun p hp=>by
   obtain ⟨a1,a2⟩:=itL_at xs p hp
   rw [<- htk,List.getElem?_take] at a1 a2
   rw [if_pos (by omega)] at a1 a2
   rw [Nat.zero_add]
   exact ⟨by simpa using a1,by simpa using a2⟩
  have hro:=head_row hg
  have h1:=(hh i hi).2
  rw [Nat.zero_add] at h1
  have hlt:i * 2+1 < cur.size:=(Array.getElem?_eq_some_iff.1 h1).1
  refine ⟨g,c,rfl,hle,⟨hro.lt,⟨xs[i].f,(cell_of_row w g (i * 2+1) cur e (0,0) hg).trans h1⟩,hro.frozen _,((Only.refl [g] w).setCell (by simp) _).below (by simp;exact hBg) hB |> h.low.trans,?_⟩⟩
  have hh2:Hold12 (cur.setIfInBounds (i * 2+1) (.int .i64 (f:Nat))) 0 (xs.set i ⟨xs[i].key,f⟩):=fun p hp=>by
   rw [List.length_set] at hp
   have h2:=hh p hp
   rw [List.getElem_set,Nat.zero_add] at *
   by_cases hpi:i=p
   ·subst hpi
    rw [if_pos rfl]
    refine ⟨?_,arr_set_same12 hlt⟩
    rw [arr_set_other12 (by omega)]
    exact h2.1
   ·rw [if_neg hpi]
    rw [arr_set_other12 (by omega),arr_set_other12 (by omega)]
    exact h2
  exact IV.of_hold12 (set_one hg) hh2 (by rw [List.length_set];exact hle) he
def RetI12 (w:World) (xs:List It) (e:Ending) (w':World):Prop:=∃ v,e = .returned v/\Below w.heap.size w w'/\IV w' v xs/\∀ u,Nw w.heap.size u v
set_option maxRecDepth 8000
section
variable {w:World} {v:Value} {xs:List It}
end
set_option maxRecDepth 8000
theorem count_len:∀ (l q:List Nat),(∀ a,l.count a<=q.count a)->l.length<=q.length
 | [],q,_=>Nat.zero_le _
 | x :: l,q,h=>by
  have hx:x∈q:=List.count_pos_iff.1 (by have:=h x;rw [List.count_cons_self] at this;omega)
  have h2:∀ a,l.count a<=(q.erase x).count a:=fun a=>by
   have:=h a
   rw [List.count_cons] at this
   rw [List.count_erase]
   split at this <;> split <;> simp_all <;> omega
  have h3:=count_len l (q.erase x) h2
  rw [List.length_erase_of_mem hx] at h3
  have:=List.length_pos_of_mem hx
  rw [List.length_cons]
  omega
theorem kindK_count {f a:Nat} (s:List It):(keysI (s.filter (fun x=>x.f == f))).count a=ct a f s:=by
 induction s with
 | nil=>rfl
 | cons x s ih =>
  unfold keysI at *
  rw [List.filter_cons,ct_cons]
  by_cases e:x.f=f
  ·rw [if_pos (by simp [e]),List.map_cons,List.count_cons,ih]
   simp [e]
  ·rw [if_neg (by simp [e]),ih]
   simp [e]
theorem kindK_len {f:Nat} (s:List It):(keysI (s.filter (fun x=>x.f == f))).length=nk f s:=by
 unfold keysI nk
 rw [List.length_map,List.countP_eq_length_filter]
theorem nk_all {s:List It} (h:∀ x∈s,x.f<=2):s.length=nk 0 s+nk 1 s+nk 2 s:=by
 induction s with
 | nil=>rfl
 | cons x s ih =>
  have h1:=ih (fun y hy=>h y (by simp [hy]))
  have hx:=h x (by simp)
  simp only [nk_cons,List.length_cons]
  rcases (by omega:x.f=0∨x.f=1∨x.f=2) with e | e | e <;> simp [e] <;> omega
namespace L12
theorem Fine.slen {s:L12} (h:s.Fine):s.s.length<=nk 0 s.s+nk 2 s.s+s.q.length:=by
 have h1:=nk_all h.kinds
 have h2:nk 1 s.s<=s.q.length:=by
  rw [<- kindK_len]
  refine count_len _ _ (fun a=>?_)
  rw [kindK_count]
  exact (h.at_ a).2.1
 omega
end L12
theorem wi_len {k:Nat} {s:List It}:(wi k s).length<=s.length:=List.length_filter_le _ _
theorem pr_len (s:List It):(pr s).length<=s.length:=by
 induction s with
 | nil=>exact Nat.le_refl _
 | cons x s ih =>
  rw [pr]
  split
  ·simpa using ih
  ·simp
section
variable {w:World} {u1 u2:Value} {s:L12}
theorem pr_take {xs:List It} {j:Nat} (hj:j < xs.length):pr (xs.take (j+1))=if xs[j].f=2 then xs.take (j+1) else pr (xs.take j):=by
 rw [List.take_succ_eq_append_getElem hj,pr_snoc]
end
set_option maxRecDepth 8000
section
variable {w:World} {v:Value} {xs:List It} {u1 u2:Value} {s:L12}
structure Ac (w wr:World) (s σ:L12) (u1 u2:Value):Prop where
 bx:Bx12 w wr T12 w.heap.size (w.heap.size+1) σ u1 u2
 li:L12.coolN (nk 2 σ.s - roomH s.c) σ=s.cool
 fine:σ.Fine
 c:σ.c=s.c
 bd:nk 0 σ.s+nk 2 σ.s+σ.q.length<=9000000
theorem Ac.sl {w wr:World} {s σ:L12} {u1 u2:Value} (h:Ac w wr s σ u1 u2):σ.s.length<=10000000:=by
 have:=h.fine.slen
 have:=h.bd
 omega
structure Af (w wr:World) (s σ:L12) (u1 u2:Value):Prop where
 bx:Bx12 w wr T12 w.heap.size (w.heap.size+1) σ u1 u2
 li:L12.fgN (nk 0 σ.s - s.c) σ=s.forget
 fine:σ.Fine
 c:σ.c=s.c
 sl:σ.s.length<=10000000
end
set_option maxRecDepth 8000
structure Ah (w wr:World) (s:L12) (N:Nat) (σ:L12) (u1 u2 v:Value):Prop where
 bx:Bx12 w wr T12 w.heap.size (w.heap.size+1) σ u1 u2
 ko:∃ acc,KO w.heap.size w wr v acc/\acc ++ σ.q.take (σ.many N)=s.shrinkOut N
 li:L12.evN (σ.many N) σ=s.shrink N
 fine:σ.Fine
 c:σ.c=s.c
 h2:nk 2 σ.s<=N
 bd:nk 0 σ.s+nk 2 σ.s+σ.q.length<=9000000
 off:Off u1 v/\Off u2 v
theorem Ah.sl {w wr:World} {s σ:L12} {N:Nat} {u1 u2 v:Value} (h:Ah w wr s N σ u1 u2 v):σ.s.length<=10000000:=by
 have:=h.fine.slen
 have:=h.bd
 omega
theorem Off.tail {F:Option Addr} {n c i:Nat} {v:Value} (h:Off (.slice F n c) v):Off (tailV F n c i) v:=fun m d ad e=>by
 unfold tailV at e
 injection e with e1 e2 e3
 obtain ⟨n',rfl⟩:∃ n',n=n' + 1:=⟨n - 1,by omega⟩
 split at e1
 ·subst e1
  exact h n' c ad rfl
 ·cases F with
  | none=>cases e1
  | some a =>
   injection e1 with e1
   subst e1
   rw [ad_block]
   exact h n' c a rfl
section
variable {w:World} {u1 u2:Value} {s:L12}
end
set_option maxRecDepth 8000
namespace L12
theorem Ok.bd {s:L12} (h:s.Ok):nk 0 s.s+nk 2 s.s+s.q.length<=2097152:=by
 have:=h.len
 have:=h.gone
 have:=h.cap
 omega
theorem Ok.sl {s:L12} (h:s.Ok):s.s.length<=2097152:=by
 have:=h.fine.slen
 have:=h.bd
 omega
theorem Ok.ql {s:L12} (h:s.Ok):s.q.length<=2097152:=by
 have:=h.bd
 omega
end L12
section
variable {w w1:World} {u1 u2:Value} {s t:L12} {T:TypeId} {b r:Nat} {cs:Array Value} {F1 F2:Option Addr} {n1 d1 n2 d2:Nat}
theorem Bo.only12 (_:Bo w w1 T b r cs z12) (c:Nat) (v1 v2:Value):Only [b,r] w1 (((w1.setCell ⟨r,0,none⟩ (.int .i64 (c:Nat))).setCell ⟨r,1,none⟩ v1).setCell ⟨r,2,none⟩ v2):=(((Only.refl _ _).setCell (by simp) _).setCell (by simp) _).setCell (by simp) _
theorem Bo.tell12 (h:Bo w w1 T b r cs z12) (hs:St12 w1 t u1 u2) {c:Nat} (hc:t.c=c):P12 w t (.returned (.agg (l12C c u1 u2))) (((w1.setCell ⟨r,0,none⟩ (.int .i64 (c:Nat))).setCell ⟨r,1,none⟩ u1).setCell ⟨r,2,none⟩ u2):=⟨_,_,by rw [hc],h.fin (h.only12 _ _ _),h.st12 (h.only12 _ _ _) hs⟩
theorem Bo.tell12o (h:Bo w w1 T b r cs z12) (hs:St12 w1 t u1 u2) {c:Nat} (hc:t.c=c) {o:Value} {out:List Nat} (ho:KV w1 o out):P12o w t out (.returned (.tuple #[.agg (l12C c u1 u2),o])) (((w1.setCell ⟨r,0,none⟩ (.int .i64 (c:Nat))).setCell ⟨r,1,none⟩ u1).setCell ⟨r,2,none⟩ u2):=⟨_,_,_,by rw [hc],h.fin (h.only12 _ _ _),h.st12 (h.only12 _ _ _) hs,h.kv (h.only12 _ _ _) ho⟩
theorem Bo.put12 {c0 c:Nat} {v1 v2:Value} (h:Bo w w1 T b r (l12C c0 v1 v2) z12) (hs:St12 w1 t (.slice F1 n1 d1) (.slice F2 n2 d2)) (hc:t.c=c):Bx12 w (((w1.setCell ⟨b,0,none⟩ (.int .i64 (c:Nat))).setCell ⟨b,1,none⟩ (.slice F1 n1 d1)).setCell ⟨b,2,none⟩ (.slice F2 n2 d2)) T b r t (.slice F1 n1 d1) (.slice F2 n2 d2):=by
 subst hc
 obtain ⟨h1,h2⟩:=c3_set h.box (.int .i64 (t.c:Nat)) (.slice F1 n1 d1) (.slice F2 n2 d2)
 have ho:Only [b,r] w1 (((w1.setCell ⟨b,0,none⟩ (.int .i64 (t.c:Nat))).setCell ⟨b,1,none⟩ (.slice F1 n1 d1)).setCell ⟨b,2,none⟩ (.slice F2 n2 d2)):=(((Only.refl _ _).setCell (by simp) _).setCell (by simp) _).setCell (by simp) _
 exact ⟨⟨h.fin ho,h1,(h2.block r (head_row h.res).lt (by simpa using fun e=>h.ge.2.2 e.symm)).trans h.res,h.ge,⟨rfl,h.nu.2⟩,h.ty⟩,h.st12 ho hs⟩
set_option maxHeartbeats 1000000 in
theorem r12new_walk (n:Int) (hn1 : -9223372036854775808<=n) (hn2:n<=9223372036854775807):Calls Tryz.prog 53 #[.int .i64 n] w (P12 w (L12.new n)):=by
 have KK:=Lib.hid (rcap_walk (w:=w.alloc (.cells z12 51)) n hn1 hn2)
 obtain ⟨c,hc⟩:∃ c,capI n=c:=⟨_,rfl⟩
 have HC:Hid (P12 w (L12.new n)=P12 w ⟨c,[],[]⟩):=Lib.hid (by rw [<- hc];rfl)
 rw [hc] at KK
 rw [HC.out]
 clear hc HC
 go_enter Tryz.func53,Tryz.ntmps53
 go_wp2_with fail
 refine KK.out.mono ?_
 rintro e w1 ⟨rfl,rfl⟩
 go_wp2
 exact bodyPost_ret (v := .agg (l12C c (.slice none 0 0) (.slice none 0 0))) (by simp [results,Tryz.results53,go_sem]) rfl ⟨_,_,rfl,(Below.refl _ _).alloc (Nat.le_refl _) _,⟨IV.nil _,KV.nil _⟩⟩
theorem hotK_next {xs:List It} {i:Nat} (hi:i < xs.length):hotK (xs.take (i+1))=hotK (xs.take i) ++ (if xs[i].f=2 then [xs[i].key] else []):=by
 rw [List.take_succ_eq_append_getElem hi]
 unfold hotK keysI
 rw [List.filter_append,List.map_append]
 congr 1
 by_cases e:xs[i].f=2 <;> simp [e]
namespace L12
end L12
end
set_option maxRecDepth 8000
abbrev PTI12:TypeId:=266
def RetP (w:World) (xs:List It) (e:Ending) (w':World):Prop:=∃ v,e = .returned v/\OwnI PTI12 w.heap.size w w' v xs
theorem growI12_zero (w:World):Calls Tryz.prog 300 #[.slice none 0 0,.int .i64 (0:Nat)] w fun e w'=>e = .returned (.slice none 0 0)/\w'=w:=by
 go_enter Tryz.func300,Tryz.ntmps300
 go_wp2
 go_ret
 exact ⟨rfl,rfl⟩
set_option maxHeartbeats 2000000 in
set_option maxRecDepth 8000 in
theorem growI12_new (n:Nat) (w:World) (hn0:0 < n) (hbig:n<=100000000) :
  Calls Tryz.prog 300 #[.slice none 0 0,.int .i64 n] w fun e w' =>
   e = .returned (.slice (some ⟨w.heap.size,0,none⟩) 0 (grownCap w n 0 PTI12)) /\
   w'=w.drew.alloc (.cells (#[] ++ Builtin.zeroCells (Value.agg #[.int .u64 0,.int .i64 0]).cells n ++ Builtin.zeroCells (Value.agg #[.int .u64 0,.int .i64 0]).cells (grownCap w n 0 PTI12 - n)) PTI12):=by
 have hinfo:(Tryz.prog.info? PTI12).map (fun i=>(i.zero,i.size,i.bytes))=some (some (.agg #[.int .u64 0,.int .i64 0]),2,16):=by kernel_rfl
 obtain ⟨i0,hi0,hz0,hs0,hby⟩:=info_parts hinfo
 have ht:Tryz.prog.underlying 35=some (.slice PTI12):=by kernel_rfl
 have htn:Tryz.prog.underlying 3=some (.int .i64):=by kernel_rfl
 have hold:(Builtin.firstCells i0.size 0 (.slice none 0 0)).run Tryz.prog w.drew = .ok ([]:List Value).toArray w.drew:=by
  rw [hs0]
  exact run_firstCells_none w.drew 2 0 0 0
 have hrz:∀ ty,(Builtin.append_ #[35,3] ty #[.slice none 0 0,.int .i64 ((n:Int) - 0)]).run Tryz.prog w =
   .ok (.slice (some ⟨w.heap.size,0,none⟩) n (grownCap w n 0 PTI12)) (w.drew.alloc (.cells (#[] ++ Builtin.zeroCells (Value.agg #[.int .u64 0,.int .i64 0]).cells n ++ Builtin.zeroCells (Value.agg #[.int .u64 0,.int .i64 0]).cells (grownCap w n 0 PTI12 - n)) PTI12)):=fun ty=>by
  have h:=Lib.run_append_grow_zeros w 35 3 ty PTI12 i0 (.agg #[.int .u64 0,.int .i64 0]) .i64 .i64 ht htn hi0 hz0 none 0 0 [] hold n (by omega) (by omega) (by omega) (by omega)
   (by rw [hby];omega) (by rw [Nat.zero_add,hby];exact growslice_fits (by omega) (by omega))
  rw [Nat.zero_add] at h
  rw [show (n:Int) - 0=((n:Nat):Int) by omega]
  exact h
 have hGn:n<=grownCap w n 0 PTI12:=grownCap_ge w _ _ _
 have hG63:grownCap w n 0 PTI12<=maxLen:=grownCap_le_maxLen w n 0 PTI12 (by unfold maxLen;omega)
 unfold maxLen at hG63
 have h1:¬ ((n:Int) < 0):=by omega
 have h2:wrap64 ((0:Int) - 0)=(0:Int) - 0:=by unfold wrap64;omega
 have h3:wrap64 ((n:Int) - 0)=(n:Int) - 0:=by unfold wrap64;omega
 have h4:(n:Int) > 0:=by omega
 generalize grownCap w n 0 PTI12=G at hrz hGn hG63 ⊢
 clear hold hi0 hz0 hs0 hby hinfo i0
 go_enter Tryz.func300,Tryz.ntmps300
 go_wp2_with (at_builtin;refine Lib.wpList_append_run _ rfl _ _ _ _ rfl _ _ rfl rfl _ _ (hrz _) ?_)
 all_goals (go_ret;exact ⟨rfl,rfl⟩)
theorem growI12_walk (w:World) (n:Nat) (hn:n<=100000000):Calls Tryz.prog 300 #[.slice none 0 0,.int .i64 n] w (RetP w []):=by
 rcases Nat.eq_zero_or_pos n with rfl | hp
 ·refine (growI12_zero w).mono ?_
  rintro e w' ⟨rfl,rfl⟩
  exact ⟨_,rfl,OwnI.nil (Below.refl _ _)⟩
 ·refine (growI12_new n w hp hn).mono ?_
  rintro e w' ⟨rfl,rfl⟩
  have hG:=grownCap_ge w n 0 PTI12
  have hG2:=grownCap_le_maxLen w n 0 PTI12 (by unfold maxLen;omega)
  refine ⟨_,rfl,⟨(below_drewn (Below.refl _ _) 1).alloc (by simp) _,⟨by simp [itL],.inr ⟨w.heap.size,_,_,rfl,Nat.le_refl _,heap_alloc_new w.drew _,Nat.zero_le _,hG2,?_,by simp [itL]⟩⟩⟩⟩
  simp [size_zeroCells,Value.cells]
  omega
section
variable {w:World} {u:Value} {xs:List It} {ks:List Nat}
theorem copyI12_walk (h:IV w u xs) (hl:xs.length<=100000000):Calls Tryz.prog 271 #[u] w (RetP w xs):=by
 have H:=Lib.hid h
 obtain ⟨F,n,c,rfl⟩:=h.form
 clear h
 go_enter Tryz.func271,Tryz.ntmps271
 go_wp2_with (at_builtin;refine wpList_append_iv (e:=PTI12) rfl _ (.tmp 3) rfl w.heap.size (by kernel_rfl) (by kernel_rfl) (.slice none 0 0) [] rfl (OwnI.nil (w0:=w) (Below.refl _ _)) _ xs rfl H.out (by simp;omega) (Nat.le_refl _) ?_)
 intro v6 w6 hown6 _ _
 have HO:Hid (OwnI PTI12 w.heap.size w w6 v6 xs):=Lib.hid hown6
 clear hown6
 go_wp2
 go_ret
 exact ⟨_,rfl,HO.out⟩
theorem copyK12_walk (h:KV w u ks) (hl:ks.length<=100000000):Calls Tryz.prog 272 #[u] w (OwnK w ks):=by
 have H:=Lib.hid h
 obtain ⟨F,n,c,rfl⟩:=h.form
 clear h
 go_enter Tryz.func272,Tryz.ntmps272
 go_wp2_with (at_builtin;refine wpList_append_kv rfl _ (.tmp 3) rfl w.heap.size (by kernel_rfl) (by kernel_rfl) (.slice none 0 0) [] rfl (KO.nil (w0:=w) (Below.refl _ _)) _ ks rfl H.out (by simp;omega) (Nat.le_refl _) ?_)
 intro v6 w6 hown6 _ _
 have HO:Hid (KO w.heap.size w w6 v6 ks):=Lib.hid hown6
 clear hown6
 go_wp2
 go_ret
 exact ⟨_,rfl,HO.out⟩
end
structure KeepT (T:TypeId) (w w':World):Prop where
 size:w.heap.size<=w'.heap.size
 same:∀ (g:Nat) (cs:Array Value),w.heap[g]? = some (.cells cs T (0,0))->w'.heap[g]? = some (.cells cs T (0,0))
theorem KeepT.of_below {T:TypeId} {w w':World} (h:Below w.heap.size w w'):KeepT T w w':=⟨h.size,fun g _ hg=>(h.block g (Array.getElem?_eq_some_iff.1 hg).1).trans hg⟩
theorem KeepT.own {T:TypeId} {w w':World} {B size n:Nat} {v:Value} {xs:List Value} (h:KeepT T w w') (ho:w.ownsRow B T size v n xs):w'.ownsRow B T size v n xs:=by
 refine ⟨ho.1,ho.2.imp id ?_⟩
 rintro ⟨g,cap,cur,e1,e2,e3,e4⟩
 exact ⟨g,cap,cur,e1,e2,h.same g cur e3,e4⟩
def res (g:Nat->It × Bool):Nat->List It
 | 0=>[]
 | i+1=>res g i ++ (if (g i).2 then [(g i).1] else [])
theorem res_len (g:Nat->It × Bool):∀ i,(res g i).length<=i
 | 0=>Nat.le_refl _
 | i+1=>by
  have:=res_len g i
  rw [res,List.length_append]
  split <;> simp <;> omega
section
variable {w:World} {u:Value} {xs:List It}
structure ItSteps (w:World) (u:Value) (xs:List It) (fn:Nat) (caps:Array Value) (g:Nat->It × Bool) (Inv:Nat->World->Prop):Prop where
 size:∀ i W,Inv i W->w.heap.size<=W.heap.size
 src:∀ i W,Inv i W->IV W u xs
 stay:∀ i W W',Inv i W->Below w.heap.size W W'->Kt PTI12 W W'->Inv i W'
 ent:∀ (args:Array Value) (W:World),(callFunc fn args).run Tryz.prog W = .ok (.enter fn args) W
 step:∀ i (hi:i < xs.length) W,Inv i W->Calls Tryz.prog fn (#[.agg #[.int .u64 (xs[i].key:Nat),.int .i64 (xs[i].f:Nat)]] ++ caps) W fun e W'=>e = .returned (.tuple #[.agg #[.int .u64 ((g i).1.key:Nat),.int .i64 ((g i).1.f:Nat)],.bool (g i).2])/\Inv (i+1) W'/\KeepT PTI12 W W'
theorem kt_alloc (e:TypeId) (w:World) (o:Obj):Kt e w (w.alloc o):=fun g cs t m h _=>by
 rw [Below.heap_alloc w o g (Array.getElem?_eq_some_iff.1 h).1]
 exact h
set_option maxHeartbeats 2000000 in
theorem changed_walk {fn:Nat} {caps:Array Value} {g:Nat->It × Bool} {Inv:Nat->World->Prop} (hS:ItSteps w u xs fn caps g Inv) (hl:xs.length<=10000000) (h0:Inv 0 w):Calls Tryz.prog 276 #[u,.func (.func fn) #[] caps] w fun e w'=>∃ v,e = .returned v/\w'.ownsRow w.heap.size PTI12 2 v (res g xs.length).length (itL (res g xs.length))/\Inv xs.length w':=by
 obtain ⟨F,c,rfl,hcap,-⟩:=(hS.src 0 w h0).mem
 have HS:=Lib.hid hS
 have H0:=Lib.hid h0
 obtain ⟨n,hn⟩:∃ n,xs.length=n:=⟨_,rfl⟩
 rw [hn] at hl HS ⊢
 have HN:=Lib.hid hn
 have HG:=Lib.hid (growI12_walk w n (by omega))
 clear hS h0 hn hcap
 have hnI:(n:Int)<=10000000:=by omega
 go_enter Tryz.func276,Tryz.ntmps276
 go_wp2_with fail
 refine HG.out.mono ?_
 rintro e w1 ⟨v1,rfl,hk1⟩
 have H1:Hid (w1.ownsRow w.heap.size PTI12 2 v1 (res g 0).length (itL (res g 0))/\Inv 0 w1):=Lib.hid ⟨hk1.own,HS.out.stay 0 w w1 H0.out hk1.low (fun g cs t m hg _=>(hk1.low.block g (Array.getElem?_eq_some_iff.1 hg).1).trans hg)⟩
 clear hk1 HG H0
 go_wp2_with fail
 go_loopg [5,15] n (fun gg s5 s15 wr=>∃ (i:Nat) (v0:Value),i+gg=n/\v0=s5/\s15 = .int .i64 (i:Nat)/\Hid (wr.ownsRow w.heap.size PTI12 2 v0 (res g i).length (itL (res g i))/\Inv i wr))
 case atStart=>exact ⟨0,_,by omega,rfl,rfl,H1⟩
 case round =>
  obtain ⟨i,v5,hi,rfl,rfl,HI⟩:=hrel
  by_cases hlt:i < n
  ·have hltI:(i:Int) < (n:Int):=by omega
   obtain ⟨F',c',e,_,_,h3⟩:=(HS.out.src i wr HI.out.2).mem
   injection e with e1 e2 e3
   subst e1 e3
   have hix:i < xs.length:=by have:=HN.out;omega
   obtain ⟨gb,off,hF,hg,q0,q1⟩:=h3 i hix
   subst hF
   obtain ⟨x,hx⟩:∃ x,xs[i]=x:=⟨_,rfl⟩
   rw [hx] at q0 q1
   obtain ⟨kx,fx⟩:=x
   dsimp only at q0 q1
   have hB:=HS.out.size i wr HI.out.2
   have hi1:=HS.out.stay i wr _ HI.out.2 ((Below.refl _ _).alloc hB (.cells #[.int .u64 (kx:Nat),.int .i64 (fx:Nat)] PTI12)) (kt_alloc _ _ _)
   have hst:=HS.out.step i hix _ hi1
   rw [hx] at hst
   dsimp only at hst
   have KX:=Lib.hid hst
   have HO1:=Lib.hid (HI.out.1.alloc (.cells #[.int .u64 (kx:Nat),.int .i64 (fx:Nat)] PTI12))
   clear h3 e2 hi1 hst hx HI hix
   go_wp2_with fail
   rw [HS.out.ent,Oper.upon_enter]
   refine KX.out.mono ?_
   rintro e w2 ⟨rfl,hi2,hkt⟩
   have hB2:=HS.out.size _ _ hi2
   have HO2:=Lib.hid (hkt.own HO1.out)
   have HI2:=Lib.hid hi2
   clear hi2 hkt KX HO1 q0 q1 hg hB
   obtain ⟨y,hy⟩:∃ y,g i=y:=⟨_,rfl⟩
   have HY:=Lib.hid hy
   rw [hy]
   clear hy
   obtain ⟨⟨ky,fy⟩,by_⟩:=y
   dsimp only
   have HLN:Hid ((res g i).length<=10000000):=Lib.hid (by have:=res_len g i;omega)
   have hi3:=HS.out.stay _ _ _ HI2.out ((Below.refl _ _).alloc hB2 (.cells #[.int .u64 (ky:Nat),.int .i64 (fy:Nat)] PTI12)) (kt_alloc _ _ _)
   cases by_
   ·have HF:Hid ((w2.alloc (.cells #[.int .u64 (ky:Nat),.int .i64 (fy:Nat)] PTI12)).ownsRow w.heap.size PTI12 2 v5 (res g (i+1)).length (itL (res g (i+1)))/\Inv (i+1) (w2.alloc (.cells #[.int .u64 (ky:Nat),.int .i64 (fy:Nat)] PTI12))):=Lib.hid ⟨by
     rw [res,HY.out]
     simp only [Bool.false_eq_true,if_false,List.append_nil]
     exact HO2.out.alloc _,hi3⟩
    clear HO2 HI2 hi3
    go_wp2
    go_roundg (gk - 1)
    case measure=>omega
    case rel=>exact ⟨i+1,v5,by omega,rfl,by go_num,HF⟩
   ·have hB3:=HS.out.size _ _ hi3
    have hi4:=HS.out.stay _ _ _ hi3 ((Below.refl _ _).alloc hB3 (.cells #[.int .u64 (ky:Nat),.int .i64 (fy:Nat)] PTI12)) (kt_alloc _ _ _)
    have HI4:=Lib.hid hi4
    have HOW:Hid (OwnI PTI12 w.heap.size ((w2.alloc (.cells #[.int .u64 (ky:Nat),.int .i64 (fy:Nat)] PTI12)).alloc (.cells #[.int .u64 (ky:Nat),.int .i64 (fy:Nat)] PTI12)) ((w2.alloc (.cells #[.int .u64 (ky:Nat),.int .i64 (fy:Nat)] PTI12)).alloc (.cells #[.int .u64 (ky:Nat),.int .i64 (fy:Nat)] PTI12)) v5 (res g i)):=Lib.hid ⟨Below.refl _ _,(HO2.out.alloc _).alloc _⟩
    have HSRC:=Lib.hid (IV.one (w2.alloc (.cells #[.int .u64 (ky:Nat),.int .i64 (fy:Nat)] PTI12)) PTI12 ⟨ky,fy⟩)
    have hszA:=HS.out.size _ _ hi4
    clear HO2 HI2 hi3 hi4 hB3
    go_wp2_with (at_builtin;refine wpList_append_iv (e:=PTI12) rfl (.tmp 26) (.tmp 28) rfl w.heap.size (by kernel_rfl) (by kernel_rfl) v5 (res g i) rfl HOW.out _ [⟨ky,fy⟩] rfl (by first | exact HSRC.out | (have h:=HSRC.out;simp only [World.size_alloc] at h;exact h)) (by have:=HLN.out;simp;omega) hszA ?_)
    intro v6 w6 hown6 _ hkt6
    have HF:Hid (w6.ownsRow w.heap.size PTI12 2 v6 (res g (i+1)).length (itL (res g (i+1)))/\Inv (i+1) w6):=Lib.hid ⟨by
     rw [res,HY.out]
     simp only [if_true]
     exact hown6.own,HS.out.stay _ _ _ HI4.out hown6.low hkt6⟩
    clear hown6 hkt6 HOW HSRC hszA HI4
    go_wp2
    go_roundg (gk - 1)
    case measure=>omega
    case rel=>exact ⟨i+1,v6,by omega,rfl,by go_num,HF⟩
  ·have hltI:¬ (i:Int) < (n:Int):=by omega
   obtain rfl:i=n:=by omega
   have HF:=Lib.hid HI.out
   clear HI
   go_wp2
   go_ret
   exact ⟨_,rfl,HF.out⟩
end
end Go.Proofs.YtcpggonengkgiaaGreatDoor
