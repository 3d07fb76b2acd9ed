/- Words and walks: RcV RcR. -/
import Derived.Test.YtcpggonengkgiaaGreatDoorG15
import Derived.Test.YtcpggonengkgiaaGreatDoorG2
import Derived.Test.YtcpggonengkgiaaGreatDoorG3
import Derived.Deep.RegionHeld3
import Derived.Deep.RegionWith
namespace Go.Proofs.YtcpggonengkgiaaGreatDoor
open Go Go.RowKit Go.Deep
structure Bx11 (w w1:World) (T:TypeId) (b r:Nat) (s:L11) (u1 u2 u3 u4:Value):Prop where
 bo:Bo w w1 T b r (l11C s.c s.p u1 u2 u3 u4) z11
 st:St11 w1 s u1 u2 u3 u4
section
variable {w w1 w2:World} {T:TypeId} {b r:Nat} {s:L11} {u1 u2 u3 u4:Value}
theorem Bx11.start (w:World) (T:TypeId) (hT:T≠56) {s:L11} {F1:Option Addr} {n1 d1:Nat} {F2:Option Addr} {n2 d2:Nat} {F3:Option Addr} {n3 d3:Nat} {F4:Option Addr} {n4 d4:Nat} (h:St11 w s (.slice F1 n1 d1) (.slice F2 n2 d2) (.slice F3 n3 d3) (.slice F4 n4 d4)):Bx11 w ((w.alloc (.cells (l11C s.c s.p (.slice F1 n1 d1) (.slice F2 n2 d2) (.slice F3 n3 d3) (.slice F4 n4 d4)) T)).alloc (.cells z11 T)) T w.heap.size (w.heap.size+1) s (.slice F1 n1 d1) (.slice F2 n2 d2) (.slice F3 n3 d3) (.slice F4 n4 d4) :=
 ⟨Bo.start w T _ _ rfl rfl hT,h.below (low_two w _ _)⟩
theorem Bx11.step (h:Bx11 w w1 T b r s u1 u2 u3 u4) (hb:Below w1.heap.size w1 w2):Bx11 w w2 T b r s u1 u2 u3 u4:=⟨h.bo.step hb,h.st.below hb⟩
theorem Bx11.kv {v:Value} {ks:List Nat} {i:Nat} {x:Value} (h:Bx11 w w1 T b r s u1 u2 u3 u4) (hk:KV w1 v ks):KV (w1.setCell ⟨b,i,none⟩ x) v ks:=h.bo.kv ((Only.refl _ _).setCell (by simp) _) hk
theorem Bx11.set2 (h:Bx11 w w1 T b r s u1 u2 u3 u4) {F:Option Addr} {m d:Nat} {ks:List Nat} (hk:KV w1 (.slice F m d) ks):Bx11 w (w1.setCell ⟨b,2,none⟩ (.slice F m d)) T b r ⟨s.c,s.p,ks,s.t2,s.b1,s.b2⟩ (.slice F m d) u2 u3 u4:=by
 obtain ⟨F1,n1,d1,rfl⟩:=h.st.form1
 obtain ⟨F2,n2,d2,rfl⟩:=h.st.form2
 obtain ⟨F3,n3,d3,rfl⟩:=h.st.form3
 obtain ⟨F4,n4,d4,rfl⟩:=h.st.form4
 obtain ⟨h1,h2⟩:=h.bo.set 2 (.slice F m d) rfl
 exact ⟨h1,h.bo.kv h2 hk,h.bo.kv h2 h.st.g2,h.bo.kv h2 h.st.g3,h.bo.kv h2 h.st.g4⟩
theorem Bx11.set3 (h:Bx11 w w1 T b r s u1 u2 u3 u4) {F:Option Addr} {m d:Nat} {ks:List Nat} (hk:KV w1 (.slice F m d) ks):Bx11 w (w1.setCell ⟨b,3,none⟩ (.slice F m d)) T b r ⟨s.c,s.p,s.t1,ks,s.b1,s.b2⟩ u1 (.slice F m d) u3 u4:=by
 obtain ⟨F1,n1,d1,rfl⟩:=h.st.form1
 obtain ⟨F2,n2,d2,rfl⟩:=h.st.form2
 obtain ⟨F3,n3,d3,rfl⟩:=h.st.form3
 obtain ⟨F4,n4,d4,rfl⟩:=h.st.form4
 obtain ⟨h1,h2⟩:=h.bo.set 3 (.slice F m d) rfl
 exact ⟨h1,h.bo.kv h2 h.st.g1,h.bo.kv h2 hk,h.bo.kv h2 h.st.g3,h.bo.kv h2 h.st.g4⟩
theorem Bx11.set4 (h:Bx11 w w1 T b r s u1 u2 u3 u4) {F:Option Addr} {m d:Nat} {ks:List Nat} (hk:KV w1 (.slice F m d) ks):Bx11 w (w1.setCell ⟨b,4,none⟩ (.slice F m d)) T b r ⟨s.c,s.p,s.t1,s.t2,ks,s.b2⟩ u1 u2 (.slice F m d) u4:=by
 obtain ⟨F1,n1,d1,rfl⟩:=h.st.form1
 obtain ⟨F2,n2,d2,rfl⟩:=h.st.form2
 obtain ⟨F3,n3,d3,rfl⟩:=h.st.form3
 obtain ⟨F4,n4,d4,rfl⟩:=h.st.form4
 obtain ⟨h1,h2⟩:=h.bo.set 4 (.slice F m d) rfl
 exact ⟨h1,h.bo.kv h2 h.st.g1,h.bo.kv h2 h.st.g2,h.bo.kv h2 hk,h.bo.kv h2 h.st.g4⟩
theorem Bx11.set5 (h:Bx11 w w1 T b r s u1 u2 u3 u4) {F:Option Addr} {m d:Nat} {ks:List Nat} (hk:KV w1 (.slice F m d) ks):Bx11 w (w1.setCell ⟨b,5,none⟩ (.slice F m d)) T b r ⟨s.c,s.p,s.t1,s.t2,s.b1,ks⟩ u1 u2 u3 (.slice F m d):=by
 obtain ⟨F1,n1,d1,rfl⟩:=h.st.form1
 obtain ⟨F2,n2,d2,rfl⟩:=h.st.form2
 obtain ⟨F3,n3,d3,rfl⟩:=h.st.form3
 obtain ⟨F4,n4,d4,rfl⟩:=h.st.form4
 obtain ⟨h1,h2⟩:=h.bo.set 5 (.slice F m d) rfl
 exact ⟨h1,h.bo.kv h2 h.st.g1,h.bo.kv h2 h.st.g2,h.bo.kv h2 h.st.g3,h.bo.kv h2 hk⟩
theorem Bx11.set0 (h:Bx11 w w1 T b r s u1 u2 u3 u4) (c':Nat):Bx11 w (w1.setCell ⟨b,0,none⟩ (.int .i64 (c':Nat))) T b r ⟨c',s.p,s.t1,s.t2,s.b1,s.b2⟩ u1 u2 u3 u4:=by
 obtain ⟨F1,n1,d1,rfl⟩:=h.st.form1
 obtain ⟨F2,n2,d2,rfl⟩:=h.st.form2
 obtain ⟨F3,n3,d3,rfl⟩:=h.st.form3
 obtain ⟨F4,n4,d4,rfl⟩:=h.st.form4
 obtain ⟨h1,h2⟩:=h.bo.set 0 (.int .i64 (c':Nat)) rfl
 exact ⟨h1,h.bo.kv h2 h.st.g1,h.bo.kv h2 h.st.g2,h.bo.kv h2 h.st.g3,h.bo.kv h2 h.st.g4⟩
theorem Bx11.set1 (h:Bx11 w w1 T b r s u1 u2 u3 u4) (c':Nat):Bx11 w (w1.setCell ⟨b,1,none⟩ (.int .i64 (c':Nat))) T b r ⟨s.c,c',s.t1,s.t2,s.b1,s.b2⟩ u1 u2 u3 u4:=by
 obtain ⟨F1,n1,d1,rfl⟩:=h.st.form1
 obtain ⟨F2,n2,d2,rfl⟩:=h.st.form2
 obtain ⟨F3,n3,d3,rfl⟩:=h.st.form3
 obtain ⟨F4,n4,d4,rfl⟩:=h.st.form4
 obtain ⟨h1,h2⟩:=h.bo.set 1 (.int .i64 (c':Nat)) rfl
 exact ⟨h1,h.bo.kv h2 h.st.g1,h.bo.kv h2 h.st.g2,h.bo.kv h2 h.st.g3,h.bo.kv h2 h.st.g4⟩
theorem Bx11.only (_:Bx11 w w1 T b r s u1 u2 u3 u4):Only [b,r] w1 ((((((w1.setCell ⟨r,0,none⟩ (.int .i64 (s.c:Nat))).setCell ⟨r,1,none⟩ (.int .i64 (s.p:Nat))).setCell ⟨r,2,none⟩ u1).setCell ⟨r,3,none⟩ u2).setCell ⟨r,4,none⟩ u3).setCell ⟨r,5,none⟩ u4):=((((((Only.refl _ _).setCell (by simp) _).setCell (by simp) _).setCell (by simp) _).setCell (by simp) _).setCell (by simp) _).setCell (by simp) _
theorem Bx11.done (h:Bx11 w w1 T b r s u1 u2 u3 u4):P11 w s (.returned (.agg (l11C s.c s.p u1 u2 u3 u4))) ((((((w1.setCell ⟨r,0,none⟩ (.int .i64 (s.c:Nat))).setCell ⟨r,1,none⟩ (.int .i64 (s.p:Nat))).setCell ⟨r,2,none⟩ u1).setCell ⟨r,3,none⟩ u2).setCell ⟨r,4,none⟩ u3).setCell ⟨r,5,none⟩ u4):=⟨_,_,_,_,rfl,h.bo.fin h.only,h.bo.st11 h.only h.st⟩
theorem Bx11.doneo (h:Bx11 w w1 T b r s u1 u2 u3 u4) {o:Value} {out:List Nat} (ho:KV w1 o out):P11o w s out (.returned (.tuple #[.agg (l11C s.c s.p u1 u2 u3 u4),o])) ((((((w1.setCell ⟨r,0,none⟩ (.int .i64 (s.c:Nat))).setCell ⟨r,1,none⟩ (.int .i64 (s.p:Nat))).setCell ⟨r,2,none⟩ u1).setCell ⟨r,3,none⟩ u2).setCell ⟨r,4,none⟩ u3).setCell ⟨r,5,none⟩ u4):=⟨_,_,_,_,_,rfl,h.bo.fin h.only,h.bo.st11 h.only h.st,h.bo.kv h.only ho⟩
theorem Bx11.put {s':L11} {u1 u2 u3 u4:Value} {F1:Option Addr} {n1 d1:Nat} {F2:Option Addr} {n2 d2:Nat} {F3:Option Addr} {n3 d3:Nat} {F4:Option Addr} {n4 d4:Nat} (h:Bx11 w w1 T b r s u1 u2 u3 u4) (hs:St11 w1 s' (.slice F1 n1 d1) (.slice F2 n2 d2) (.slice F3 n3 d3) (.slice F4 n4 d4)):Bx11 w ((((((w1.setCell ⟨b,0,none⟩ (.int .i64 (s'.c:Nat))).setCell ⟨b,1,none⟩ (.int .i64 (s'.p:Nat))).setCell ⟨b,2,none⟩ (.slice F1 n1 d1)).setCell ⟨b,3,none⟩ (.slice F2 n2 d2)).setCell ⟨b,4,none⟩ (.slice F3 n3 d3)).setCell ⟨b,5,none⟩ (.slice F4 n4 d4)) T b r s' (.slice F1 n1 d1) (.slice F2 n2 d2) (.slice F3 n3 d3) (.slice F4 n4 d4):=by
 obtain ⟨h1,h2⟩:=c6_set h.bo.box (.int .i64 (s'.c:Nat)) (.int .i64 (s'.p:Nat)) (.slice F1 n1 d1) (.slice F2 n2 d2) (.slice F3 n3 d3) (.slice F4 n4 d4)
 have ho:Only [b,r] w1 ((((((w1.setCell ⟨b,0,none⟩ (.int .i64 (s'.c:Nat))).setCell ⟨b,1,none⟩ (.int .i64 (s'.p:Nat))).setCell ⟨b,2,none⟩ (.slice F1 n1 d1)).setCell ⟨b,3,none⟩ (.slice F2 n2 d2)).setCell ⟨b,4,none⟩ (.slice F3 n3 d3)).setCell ⟨b,5,none⟩ (.slice F4 n4 d4)):=((((((Only.refl _ _).setCell (by simp) _).setCell (by simp) _).setCell (by simp) _).setCell (by simp) _).setCell (by simp) _).setCell (by simp) _
 exact ⟨⟨h.bo.fin ho,h1,(h2.block r (head_row h.bo.res).lt (by simpa using fun e=>h.bo.ge.2.2 e.symm)).trans h.bo.res,h.bo.ge,⟨rfl,h.bo.nu.2⟩,h.bo.ty⟩,h.bo.st11 ho hs⟩
theorem Bx11.alloc {s':L11} {v1 v2 v3 v4:Value} {F1:Option Addr} {n1 d1:Nat} {F2:Option Addr} {n2 d2:Nat} {F3:Option Addr} {n3 d3:Nat} {F4:Option Addr} {n4 d4:Nat} (h:Bx11 w w1 T b r s' v1 v2 v3 v4) (hs:St11 w1 s (.slice F1 n1 d1) (.slice F2 n2 d2) (.slice F3 n3 d3) (.slice F4 n4 d4)):Bx11 w (w1.alloc (.cells (l11C s.c s.p (.slice F1 n1 d1) (.slice F2 n2 d2) (.slice F3 n3 d3) (.slice F4 n4 d4)) T)) T w1.heap.size r s (.slice F1 n1 d1) (.slice F2 n2 d2) (.slice F3 n3 d3) (.slice F4 n4 d4) :=
 ⟨h.bo.alloc _ rfl,hs.below (low_one w1 _)⟩
end
structure Bs11 (w w1:World) (T:TypeId) (b:Nat) (s:L11) (u1 u2 u3 u4:Value):Prop where
 low:Below w.heap.size w w1
 box:w1.heap[b]? = some (.cells (l11C s.c s.p u1 u2 u3 u4) T (0,0))
 ge:w.heap.size<=b
 ty:T≠56
 st:St11 w1 s u1 u2 u3 u4
section
variable {w w1 w2:World} {T:TypeId} {b:Nat} {s:L11} {u1 u2 u3 u4:Value}
theorem Bs11.step (h:Bs11 w w1 T b s u1 u2 u3 u4) (hb:Below w1.heap.size w1 w2):Bs11 w w2 T b s u1 u2 u3 u4:=⟨h.low.trans (hb.mono h.low.size),(hb.block b (head_row h.box).lt).trans h.box,h.ge,h.ty,h.st.below hb⟩
theorem Bs11.new {F1:Option Addr} {n1 d1:Nat} {F2:Option Addr} {n2 d2:Nat} {F3:Option Addr} {n3 d3:Nat} {F4:Option Addr} {n4 d4:Nat} (hT:T≠56) (hb:Below w.heap.size w w1) (hs:St11 w1 s (.slice F1 n1 d1) (.slice F2 n2 d2) (.slice F3 n3 d3) (.slice F4 n4 d4)):Bs11 w (w1.alloc (.cells (l11C s.c s.p (.slice F1 n1 d1) (.slice F2 n2 d2) (.slice F3 n3 d3) (.slice F4 n4 d4)) T)) T w1.heap.size s (.slice F1 n1 d1) (.slice F2 n2 d2) (.slice F3 n3 d3) (.slice F4 n4 d4):=⟨hb.alloc hb.size _,heap_alloc_new w1 _,hb.size,hT,hs.below (low_one w1 _)⟩
theorem Bs11.put {s':L11} {F1:Option Addr} {n1 d1:Nat} {F2:Option Addr} {n2 d2:Nat} {F3:Option Addr} {n3 d3:Nat} {F4:Option Addr} {n4 d4:Nat} (h:Bs11 w w1 T b s u1 u2 u3 u4) (hs:St11 w1 s' (.slice F1 n1 d1) (.slice F2 n2 d2) (.slice F3 n3 d3) (.slice F4 n4 d4)):Bs11 w ((((((w1.setCell ⟨b,0,none⟩ (.int .i64 (s'.c:Nat))).setCell ⟨b,1,none⟩ (.int .i64 (s'.p:Nat))).setCell ⟨b,2,none⟩ (.slice F1 n1 d1)).setCell ⟨b,3,none⟩ (.slice F2 n2 d2)).setCell ⟨b,4,none⟩ (.slice F3 n3 d3)).setCell ⟨b,5,none⟩ (.slice F4 n4 d4)) T b s' (.slice F1 n1 d1) (.slice F2 n2 d2) (.slice F3 n3 d3) (.slice F4 n4 d4):=by
 obtain ⟨G1,m1,e1,rfl⟩:=h.st.form1
 obtain ⟨G2,m2,e2,rfl⟩:=h.st.form2
 obtain ⟨G3,m3,e3,rfl⟩:=h.st.form3
 obtain ⟨G4,m4,e4,rfl⟩:=h.st.form4
 obtain ⟨h1,h2⟩:=c6_set h.box (.int .i64 (s'.c:Nat)) (.int .i64 (s'.p:Nat)) (.slice F1 n1 d1) (.slice F2 n2 d2) (.slice F3 n3 d3) (.slice F4 n4 d4)
 have hbx:∀ g∈[b],Bx w1 g:=fun g hg=>by
  rw [List.mem_singleton] at hg
  subst hg
  exact ⟨_,_,h.box,rfl,h.ty⟩
 exact ⟨h.low.trans (h2.below (by simp;exact h.ge) h.low.size),h1,h.ge,h.ty,hs.g1.only h2 hbx,hs.g2.only h2 hbx,hs.g3.only h2 hbx,hs.g4.only h2 hbx⟩
theorem Bs11.kv {v:Value} {ks:List Nat} {s':L11} {v1 v2 v3 v4:Value} (h:Bs11 w w1 T b s u1 u2 u3 u4) (hk:KV w1 v ks):KV ((((((w1.setCell ⟨b,0,none⟩ (.int .i64 (s'.c:Nat))).setCell ⟨b,1,none⟩ (.int .i64 (s'.p:Nat))).setCell ⟨b,2,none⟩ v1).setCell ⟨b,3,none⟩ v2).setCell ⟨b,4,none⟩ v3).setCell ⟨b,5,none⟩ v4) v ks:=by
 obtain ⟨G1,m1,e1,rfl⟩:=h.st.form1
 obtain ⟨G2,m2,e2,rfl⟩:=h.st.form2
 obtain ⟨G3,m3,e3,rfl⟩:=h.st.form3
 obtain ⟨G4,m4,e4,rfl⟩:=h.st.form4
 have hbx:∀ g∈[b],Bx w1 g:=fun g hg=>by
  rw [List.mem_singleton] at hg
  subst hg
  exact ⟨_,_,h.box,rfl,h.ty⟩
 exact hk.only (((((((Only.refl [b] _).setCell (by simp) _).setCell (by simp) _).setCell (by simp) _).setCell (by simp) _).setCell (by simp) _).setCell (by simp) _) hbx
end
section
variable {w:World} {u1 u2 u3 u4:Value} {s:L11}
set_option maxHeartbeats 2000000 in
theorem r11new_walk (n:Int) (hn1 : -9223372036854775808<=n) (hn2:n<=9223372036854775807):Calls Tryz.prog 52 #[.int .i64 n] w (P11 w (L11.new n)):=by
 have KK:=Lib.hid (rcap_walk (w:=w.alloc (.cells z11 48)) n hn1 hn2)
 obtain ⟨c,hc⟩:∃ c,capI n=c:=⟨_,rfl⟩
 have HC:Hid (P11 w (L11.new n)=P11 w ⟨c,0,[],[],[],[]⟩):=Lib.hid (by rw [<- hc];rfl)
 rw [hc] at KK
 rw [HC.out]
 clear hc HC
 go_enter Tryz.func52,Tryz.ntmps52
 go_wp2_with fail
 refine KK.out.mono ?_
 rintro e w1 ⟨rfl,rfl⟩
 go_wp2
 exact bodyPost_ret (v := .agg (l11C c 0 (.slice none 0 0) (.slice none 0 0) (.slice none 0 0) (.slice none 0 0))) (by simp [results,Tryz.results52,go_sem]) rfl ⟨_,_,_,_,rfl,(Below.refl _ _).alloc (Nat.le_refl _) _,⟨KV.nil _,KV.nil _,KV.nil _,KV.nil _⟩⟩
end
end Go.Proofs.YtcpggonengkgiaaGreatDoor
