/- Words and walks: McS McK McT McUA McQR McBw McAz. -/
import Derived.Test.YtcpggonengkgiaaGreatDoorG0
import Derived.Test.YtcpggonengkgiaaGreatDoorG29
import Derived.Test.YtcpggonengkgiaaGreatDoorG30
import Derived.Test.YtcpggonengkgiaaGreatDoorG32
import Derived.Deep.MidRow
namespace Go.Proofs.YtcpggonengkgiaaGreatDoor
open Go Go.RowKit Go.Deep
set_option maxRecDepth 8000
section
variable {p:PolF} {t:Nat} {gs:List Nat} {Inv:World->Prop} {w:World} {b:Nat} {m:M13} {x:V13}
theorem ErrT.only {W W':World} {S:List Nat} (h:ErrT W) (ho:Only S W W') (hS:0∉S):ErrT W':=by
 unfold ErrT at *
 exact (World.cell?_of_block (w:=W) (ho.block 0 (lt_of_cell h) hS)).trans h
theorem ErrT.ne (h:ErrT w) (hs:S13 w PT13 b m x):b≠0:=fun e=>by
 obtain ⟨p0,-⟩:=box_cells hs.box
 unfold ErrT at h
 rw [e,h] at p0
 cases p0
theorem PolIn.tag {s:PS} (h:PolIn w x s):1<=x.p/\x.p<=5:=by
 cases s <;> (have h1:=h.1;omega)
set_option maxHeartbeats 4000000 in
theorem resize_ok (PVV:PolV p t gs Inv) (hi:Inv w) (hs:S13 w PT13 b m x) (ht:m.ps.tag=t) (ok:m.Ok) (hlow:m.Low 100000000) {gp:Nat} (hgp:gp < w.heap.size) (n:Nat) (hn1:1<=n) (hnm:n<=1048576) :
  Calls Tryz.prog 112 #[.agg p.C,.pointer (some ⟨b,0,none⟩),.int .i64 (n:Nat)] w (GpA w b gp ⟨m.ps.resize (n:Nat),stayP m.prs (m.ps.resizeOut (n:Nat)),m.hits,m.misses,m.ev⟩ false 0 0 0 (wentP m.prs (m.ps.resizeOut (n:Nat)))):=by
 have HP:=Lib.hid PVV
 have HM:=Lib.hid ok
 have h0:=Fm.start PVV hi hs hgp
 have HF0:=Lib.hid h0
 have E5:=Lib.hid PVV.e5
 have HT:=Lib.hid ht
 have hh:=hlow.hi
 have hmi:=hlow.mi
 have hlen:m.prs.length<=10000000:=by have:=ok.lenCap;have:=ok.ps.capLe;omega
 have hbw:=hs.lt
 have hne1:b≠w.heap.size:=by omega
 have hne2:w.heap.size≠b:=by omega
 have hne3:b≠w.heap.size+1:=by omega
 have hne4:w.heap.size+1≠b:=by omega
 obtain ⟨-,-,hin2,hond,holen⟩:=ok.ps.resizeI (n:Nat)
 have hcp:=ok.ps.capLe
 have hcl:=ok.ps.len
 rw [syP_is,lvP_is hond]
 obtain ⟨out,hout⟩:∃ out,m.ps.resizeOut (n:Nat)=out:=⟨_,rfl⟩
 rw [hout] at hin2 hond holen ⊢
 have HOND:=Lib.hid hond
 have HOB:Hid (∀ a∈out,a < 18446744073709551616):=Lib.hid (fun a ha=>keys_lt ok (hin2 a ha))
 have hol:out.length<=10000000:=by omega
 have HOUT:=Lib.hid hout
 obtain ⟨ht1,ht5⟩:=hs.st.pol.tag
 have KM:=Lib.hid (may_ok ((w.alloc (.cells p.C PolT)).alloc (.cells zA AnsT)) x.p (n:Nat) ht1 ht5 (by omega) (by omega))
 obtain ⟨⟨b0,-,-,-⟩,-,-,-⟩:=h0.bcells
 clear h0 hi hs ht hlow hgp PVV ok hin2 hond holen hout hcp hcl
 go_enter Tryz.func112,Tryz.ntmps112
 go_wp2_with fail
 refine KM.out.mono ?_
 rintro e w1 ⟨rfl,hb1⟩
 have HF1:=Lib.hid (HF0.out.below HP.out hb1)
 have KT:=Lib.hid (HP.out.rsz HF1.out.inv HF1.out.st HT.out HM.out.ps (n:Nat) (by omega) (by omega))
 clear hb1 HF0 KM b0
 obtain ⟨-,-,-,-,pc5,-⟩:=HF1.out.pcells
 go_wp2_with fail
 rw [E5.out,Oper.upon_enter]
 refine KT.out.mono ?_
 rintro e w2 ⟨v2,rfl,⟨ho2,x2,-,hs2⟩,hkv2⟩
 rw [HOUT.out] at hkv2
 have HF2:=Lib.hid (HF1.out.chg HP.out ho2 hs2)
 obtain ⟨F2,n2,d2,rfl⟩:=hkv2.form
 have KL:=Lib.hid (leave_walk HF2.out.st hkv2 HOND.out HOB.out hol HM.out.nd HM.out.bd hlen)
 clear ho2 hs2 HF1 KT pc5 hkv2
 go_wp2_with fail
 refine KL.out.mono ?_
 rintro e w3 ⟨v3,rfl,hl3⟩
 obtain ⟨x3,hf3,-,-⟩:=HF2.out.leave HP.out hl3
 have HF3:=Lib.hid hf3
 have HLF:=Lib.hid hl3.left
 obtain ⟨F3,n3,d3,rfl⟩:=hl3.left.form
 clear hl3 hf3 KL HF2
 obtain ⟨⟨r0,r1,r2,r3,r4⟩,rf0,rf1,rf2,rf3,rf4⟩:=HF3.out.rcells
 go_wp2
 exact bodyPost_ret (v := .agg (an13C false 0 0 0 F3 n3 d3)) (by simp [results,Tryz.results112,go_sem,r0,r1,r2,r3,r4]) rfl (HF3.out.fin HLF.out false 0 0 0)
set_option maxHeartbeats 4000000 in
theorem resize_bad (PVV:PolV p t gs Inv) (hi:Inv w) (hs:S13 w PT13 b m x) (ht:m.ps.tag=t) (ok:m.Ok) (hlow:m.Low 100000000) {gp:Nat} (hgp:gp < w.heap.size) (hE:ErrT w) (n:Int) (hn:n < 1∨1048576 < n) :
  Calls Tryz.prog 112 #[.agg p.C,.pointer (some ⟨b,0,none⟩),.int .i64 n] w (GpA w b gp ⟨m.ps,m.prs,m.hits,m.misses,m.ev⟩ false 0 0 1 []):=by
 have HP:=Lib.hid PVV
 have HM:=Lib.hid ok
 have h0:=Fm.start PVV hi hs hgp
 have HF0:=Lib.hid h0
 have E1:=Lib.hid PVV.e1
 have HT:=Lib.hid ht
 have hh:=hlow.hi
 have hmi:=hlow.mi
 have hlen:m.prs.length<=10000000:=by have:=ok.lenCap;have:=ok.ps.capLe;omega
 have hbw:=hs.lt
 have hne1:b≠w.heap.size:=by omega
 have hne2:w.heap.size≠b:=by omega
 have hne3:b≠w.heap.size+1:=by omega
 have hne4:w.heap.size+1≠b:=by omega
 obtain ⟨ht1,ht5⟩:=hs.st.pol.tag
 have hb0:=hE.ne hs
 have HE0:=Lib.hid (hE.below (low_two w (.cells p.C PolT) (.cells zA AnsT)) hE.lt)
 have KM:=Lib.hid (may_capacity ((w.alloc (.cells p.C PolT)).alloc (.cells zA AnsT)) x.p n ht1 ht5 hn)
 obtain ⟨⟨b0,-,-,-⟩,-,-,-⟩:=h0.bcells
 clear h0 hi hs ht hlow hgp PVV ok hE
 go_enter Tryz.func112,Tryz.ntmps112
 go_wp2_with fail
 refine KM.out.mono ?_
 rintro e w1 ⟨rfl,hbad,hb1,hsz1⟩
 have HF1:=Lib.hid (HF0.out.below HP.out hb1)
 have HE1:=Lib.hid (HE0.out.below hb1 HE0.out.lt)
 have HBD:=Lib.hid hbad
 have KT:=Lib.hid (HP.out.own HF1.out.inv HF1.out.st HT.out HM.out.ps)
 clear hb1 HF0 KM b0 hbad hsz1 HE0
 obtain ⟨pc1,-,-,-,-,-⟩:=HF1.out.pcells
 go_wp2_with fail
 rw [E1.out,Oper.upon_enter]
 refine KT.out.mono ?_
 rintro e w2 ⟨rfl,ho2,x2,-,hs2⟩
 have HF2:=Lib.hid (HF1.out.chg HP.out ho2 hs2)
 have HE2:=Lib.hid (HE1.out.only ho2 (by simpa using hb0.symm))
 have HC2:Hid (Chain w2 1 1 (.iface 212 (.pointer (some ⟨((w.alloc (.cells p.C PolT)).alloc (.cells zA AnsT)).heap.size+1,0,none⟩)))):=Lib.hid ⟨_,_,_,_,rfl,(show BadAt w2 _ _ _ _ from by
  unfold BadAt
  have h5:=HBD.out
  unfold BadAt at h5
  exact (ho2.block _ (head_row h5).lt (by simp;omega)).trans h5),rfl⟩
 have KC:=Lib.hid (code_chain w2 1 _ 1 HC2.out HE2.out)
 clear ho2 hs2 HF1 KT pc1 HE1 HBD
 go_wp2_with fail
 simp only [World.size_alloc] at KC
 refine KC.out.mono ?_
 rintro e w3 ⟨rfl,hb3⟩
 have HF3:=Lib.hid (HF2.out.below HP.out hb3)
 clear hb3 KC HF2 HC2 HE2
 obtain ⟨⟨r0,r1,r2,r3,r4⟩,rf0,rf1,rf2,rf3,rf4⟩:=HF3.out.rcells
 go_wp2
 exact bodyPost_ret (v := .agg (an13C false 0 0 1 none 0 0)) (by simp [results,Tryz.results112,go_sem,r0,r1,r2,r3,r4]) rfl (HF3.out.fin (PV.nil _) false 0 0 1)
end
set_option maxRecDepth 8000
section
variable {p:PolF} {t:Nat} {gs:List Nat} {Inv:World->Prop} {w:World} {b:Nat} {m:M13} {x:V13}
set_option maxHeartbeats 400000 in
theorem get_in (PVV:PolV p t gs Inv) (hi:Inv w) (hs:S13 w PT13 b m x) (ht:m.ps.tag=t) (ok:m.Ok) (hlow:m.Low 100000000) {gp:Nat} (hgp:gp < w.heap.size) (k:Nat) (hk:k < 18446744073709551616) (hin:k∈m.ps.keys) :
  Calls Tryz.prog 109 #[.agg p.C,.pointer (some ⟨b,0,none⟩),.int .u64 (k:Nat)] w (GpA w b gp ⟨m.ps.touch k,m.prs,m.hits+1,m.misses,m.ev⟩ true (valP k m.prs) 0 0 []):=by
 obtain ⟨q1,hq1⟩:∃ q1,m.hits+1=q1:=⟨_,rfl⟩
 rw [hq1]
 have hhI:(m.hits:Int)+1=(q1:Int):=by omega
 have HP:=Lib.hid PVV
 have HM:=Lib.hid ok
 have h0:=Fm.start PVV hi hs hgp
 have HF0:=Lib.hid h0
 have E2:=Lib.hid PVV.e2
 have E6:=Lib.hid PVV.e6
 have HT:=Lib.hid ht
 have hh:=hlow.hi
 have hmi:=hlow.mi
 have hlen:m.prs.length<=10000000:=by have:=ok.lenCap;have:=ok.ps.capLe;omega
 have hbw:=hs.lt
 have hne1:b≠w.heap.size:=by omega
 have hne2:w.heap.size≠b:=by omega
 have hne3:b≠w.heap.size+1:=by omega
 have hne4:w.heap.size+1≠b:=by omega
 have KH:=Lib.hid (PVV.has h0.inv h0.st ht ok.ps k hk)
 rw [decide_eq_true hin] at KH
 have HK:=Lib.hid hk
 have HIN:=Lib.hid hin
 obtain ⟨pc1,pc2,-,-,-,pc6⟩:=h0.pcells
 clear h0 hi hs ht hlow hgp PVV ok hin hq1
 go_enter Tryz.func109,Tryz.ntmps109
 go_wp2_with fail
 rw [E6.out,Oper.upon_enter]
 refine KH.out.mono ?_
 rintro e w1 ⟨rfl,hb1⟩
 have HF1:=Lib.hid (HF0.out.below HP.out hb1)
 have KT:=Lib.hid (HP.out.touch HF1.out.inv HF1.out.st HT.out HM.out.ps k HK.out)
 clear hb1 HF0 KH pc1 pc2 pc6
 obtain ⟨-,pc2,-,-,-,-⟩:=HF1.out.pcells
 go_wp2_with fail
 rw [E2.out,Oper.upon_enter]
 refine KT.out.mono ?_
 rintro e w2 ⟨rfl,ho2,x2,-,hs2⟩
 have HF2:=Lib.hid (HF1.out.chg HP.out ho2 hs2)
 clear ho2 hs2 HF1 KT pc2
 have HF3:Hid (Fm p Inv w (w2.setCell ⟨b,21,none⟩ (.int .i64 (q1:Nat))) b gp ⟨m.ps.touch k,m.prs,q1,m.misses,m.ev⟩ { x2 with hi:=(q1:Nat) }):=Lib.hid (by
  obtain ⟨h1,h2⟩:=box_seth HF2.out.st.box (q1:Nat)
  have h3:=HF2.out.st.st.only h2 HF2.out.st.bx
  exact HF2.out.chg HP.out h2 ⟨h1,HF2.out.st.ty,⟨h3.pol,h3.prs,rfl,h3.mi,h3.ev⟩⟩)
 obtain ⟨⟨-,b20,b21,b22⟩,-,bf21,bf22⟩:=HF2.out.bcells
 have hh1:(m.hits:Int)<=100000000:=by omega
 go_wp2_with fail
 try rw [hhI]
 have KV1:Hid (Calls Tryz.prog 225 #[.slice x2.pr.F x2.pr.n x2.pr.c,.int .u64 (k:Nat)] (w2.setCell ⟨b,21,none⟩ (.int .i64 (q1:Nat))) fun e w'=>e = .returned (.int .u64 (valP k m.prs:Nat))/\Below (w2.setCell ⟨b,21,none⟩ (.int .i64 (q1:Nat))).heap.size (w2.setCell ⟨b,21,none⟩ (.int .i64 (q1:Nat))) w'):=Lib.hid (value_walk HF3.out.st.st.prs (by show m.prs.length<=_;omega) k)
 clear b20 b21 b22 bf21 bf22 HF2
 refine KV1.out.mono ?_
 rintro e w4 ⟨rfl,hb4⟩
 have HF4:=Lib.hid (HF3.out.below HP.out hb4)
 clear hb4 KV1 HF3
 obtain ⟨⟨r0,r1,r2,r3,r4⟩,rf0,rf1,rf2,rf3,rf4⟩:=HF4.out.rcells
 go_wp2
 exact bodyPost_ret (v := .agg (an13C true (valP k m.prs) 0 0 none 0 0)) (by simp [results,Tryz.results109,go_sem,r0,r1,r2,r3,r4]) rfl (HF4.out.fin (PV.nil _) true (valP k m.prs) 0 0)
set_option maxHeartbeats 400000 in
theorem get_out (PVV:PolV p t gs Inv) (hi:Inv w) (hs:S13 w PT13 b m x) (ht:m.ps.tag=t) (ok:m.Ok) (hlow:m.Low 100000000) {gp:Nat} (hgp:gp < w.heap.size) (k:Nat) (hk:k < 18446744073709551616) (hin:k∉m.ps.keys) :
  Calls Tryz.prog 109 #[.agg p.C,.pointer (some ⟨b,0,none⟩),.int .u64 (k:Nat)] w (GpA w b gp ⟨m.ps,m.prs,m.hits,m.misses+1,m.ev⟩ false 0 0 0 []):=by
 obtain ⟨q1,hq1⟩:∃ q1,m.misses+1=q1:=⟨_,rfl⟩
 rw [hq1]
 have hhI:(m.misses:Int)+1=(q1:Int):=by omega
 have HP:=Lib.hid PVV
 have HM:=Lib.hid ok
 have h0:=Fm.start PVV hi hs hgp
 have HF0:=Lib.hid h0
 have E2:=Lib.hid PVV.e2
 have E6:=Lib.hid PVV.e6
 have HT:=Lib.hid ht
 have hh:=hlow.hi
 have hmi:=hlow.mi
 have hlen:m.prs.length<=10000000:=by have:=ok.lenCap;have:=ok.ps.capLe;omega
 have hbw:=hs.lt
 have hne1:b≠w.heap.size:=by omega
 have hne2:w.heap.size≠b:=by omega
 have hne3:b≠w.heap.size+1:=by omega
 have hne4:w.heap.size+1≠b:=by omega
 have KH:=Lib.hid (PVV.has h0.inv h0.st ht ok.ps k hk)
 rw [decide_eq_false hin] at KH
 have HK:=Lib.hid hk
 have HIN:=Lib.hid hin
 obtain ⟨pc1,pc2,-,-,-,pc6⟩:=h0.pcells
 clear h0 hi hs ht hlow hgp PVV ok hin hq1
 go_enter Tryz.func109,Tryz.ntmps109
 go_wp2_with fail
 rw [E6.out,Oper.upon_enter]
 refine KH.out.mono ?_
 rintro e w1 ⟨rfl,hb1⟩
 have HF1:=Lib.hid (HF0.out.below HP.out hb1)
 have KT:=Lib.hid (HP.out.touch HF1.out.inv HF1.out.st HT.out HM.out.ps k HK.out)
 clear hb1 HF0 KH pc1 pc2 pc6
 obtain ⟨-,pc2,-,-,-,-⟩:=HF1.out.pcells
 go_wp2_with fail
 rw [E2.out,Oper.upon_enter]
 refine KT.out.mono ?_
 rintro e w2 ⟨rfl,ho2,x2,-,hs2⟩
 have hs2':S13 w2 PT13 b ⟨m.ps,m.prs,m.hits,m.misses,m.ev⟩ x2:=by
  have h5:=hs2
  rw [PS.touch_out HIN.out] at h5
  exact h5
 have HF2:=Lib.hid (HF1.out.chg HP.out ho2 hs2')
 clear ho2 hs2 hs2' HF1 KT pc2
 have HF3:Hid (Fm p Inv w (w2.setCell ⟨b,22,none⟩ (.int .i64 (q1:Nat))) b gp ⟨m.ps,m.prs,m.hits,q1,m.ev⟩ { x2 with mi:=(q1:Nat) }):=Lib.hid (by
  obtain ⟨h1,h2⟩:=box_setm HF2.out.st.box (q1:Nat)
  have h3:=HF2.out.st.st.only h2 HF2.out.st.bx
  exact HF2.out.chg HP.out h2 ⟨h1,HF2.out.st.ty,⟨h3.pol,h3.prs,h3.hi,rfl,h3.ev⟩⟩)
 obtain ⟨⟨-,b20,b21,b22⟩,-,bf21,bf22⟩:=HF2.out.bcells
 have hh1:(m.misses:Int)<=100000000:=by omega
 obtain ⟨⟨r0,r1,r2,r3,r4⟩,rf0,rf1,rf2,rf3,rf4⟩:=HF2.out.rcells
 go_wp2
 try rw [hhI]
 exact bodyPost_ret (v := .agg (an13C false 0 0 0 none 0 0)) (by simp [results,Tryz.results109,go_sem,r0,r1,r2,r3,r4]) rfl (HF3.out.fin (PV.nil _) false 0 0 0)
end
set_option maxRecDepth 8000
section
variable {p:PolF} {t:Nat} {gs:List Nat} {Inv:World->Prop} {w:World} {b:Nat} {m:M13} {x:V13}
theorem GpA.put {W W':World} {gp r:Nat} {m':M13} {hit:Bool} {v n er:Nat} {out:Prs} {x':V13} {F:Option Addr} {k d:Nat} (hb:b < w.heap.size) (hgp:gp < w.heap.size) (hr:w.heap.size<=r) (hW:Below w.heap.size w W) (hrW:W.heap[r]? = some (.cells zA AnsT (0,0))) (ho:Only [b,gp] W W') (hs:S13 W' PT13 b m' x') (hp:PV W' (.slice F k d) out) :
  (W'.heap[r]? = some (.cells zA AnsT (0,0)))/\GpA w b gp m' hit v n er out (.returned (.agg (an13C hit v n er F k d))) (((((W'.setCell ⟨r,0,none⟩ (.bool hit)).setCell ⟨r,1,none⟩ (.int .u64 (v:Nat))).setCell ⟨r,2,none⟩ (.int .i64 (n:Nat))).setCell ⟨r,3,none⟩ (.slice F k d)).setCell ⟨r,4,none⟩ (.int .i64 (er:Nat))):=by
 have h1:W'.heap[r]? = some (.cells zA AnsT (0,0)):=(ho.block r (head_row hrW).lt (by simp;omega)).trans hrW
 obtain ⟨h2,h3⟩:=c5_set h1 (.bool hit) (.int .u64 (v:Nat)) (.int .i64 (n:Nat)) (.slice F k d) (.int .i64 (er:Nat))
 exact ⟨h1,x',F,k,d,rfl,((Only.of_below hW).trans ho (by simp)).trans h3 (by simp;omega),hs.onlyA h3 h1 rfl,hp.onlyA h3 (fun j hj=>by
  rw [List.mem_singleton] at hj
  subst hj
  exact ⟨_,_,h1,rfl⟩)⟩
abbrev doW (w:World) (p:PolF) (o:Op13):World:=((w.alloc (.cells p.C PolT)).alloc (.cells (op13C o) OpT)).alloc (.cells zA AnsT)
theorem doW_low (w:World) (p:PolF) (o:Op13):Below w.heap.size w (doW w p o):=(low_two w _ _).alloc (by simp;omega) _
theorem doW_at (w:World) (p:PolF) (o:Op13):(doW w p o).heap[w.heap.size]? = some (.cells p.C PolT (0,0))/\(doW w p o).heap[w.heap.size+1]? = some (.cells (op13C o) OpT (0,0))/\(doW w p o).heap[w.heap.size+1+1]? = some (.cells zA AnsT (0,0)):=by
 refine ⟨?_,?_,?_⟩
 ·rw [Below.heap_alloc _ _ _ (by simp;omega),Below.heap_alloc _ _ _ (by simp)]
  exact heap_alloc_new w _
 ·rw [Below.heap_alloc _ _ _ (by simp)]
  have:=heap_alloc_new (w.alloc (.cells p.C PolT)) (.cells (op13C o) OpT)
  rwa [World.size_alloc] at this
 ·have:=heap_alloc_new ((w.alloc (.cells p.C PolT)).alloc (.cells (op13C o) OpT)) (.cells zA AnsT)
  simpa using this
set_option maxHeartbeats 2000000 in
theorem do_get {gp:Nat} {m':M13} {hit:Bool} {v an er:Nat} {out:Prs} {key val:Nat} {n:Int} (hb:b < w.heap.size) (hgp:gp < w.heap.size)
  (KG:Calls Tryz.prog 109 #[.agg p.C,.pointer (some ⟨b,0,none⟩),.int .u64 (key:Nat)] (doW w p ⟨1,key,val,n⟩) (GpA (doW w p ⟨1,key,val,n⟩) b gp m' hit v an er out)) :
  Calls Tryz.prog 29 #[.agg p.C,.pointer (some ⟨b,0,none⟩),.agg (op13C ⟨1,key,val,n⟩)] w (GpA w b gp m' hit v an er out):=by
 have HK:=Lib.hid KG
 have hr:=(doW_at w p ⟨1,key,val,n⟩).2.2
 have HR:=Lib.hid hr
 have hne:b≠w.heap.size+1+1:=by omega
 have hne2:w.heap.size+1+1≠b:=by omega
 clear KG hr
 go_enter Tryz.func29,Tryz.ntmps29
 go_wp2_with fail
 refine HK.out.mono ?_
 rintro e w2 ⟨x2,F2,k2,d2,rfl,ho2,hs2,hp2⟩
 obtain ⟨h5,h6⟩:=GpA.put (hit:=hit) (v:=v) (n:=an) (er:=er) hb hgp (by omega) (doW_low w p ⟨1,key,val,n⟩) HR.out ho2 hs2 hp2
 have H6:=Lib.hid h6
 obtain ⟨⟨r0,r1,r2,r3,r4⟩,rf0,rf1,rf2,rf3,rf4⟩:=c5_at h5
 clear ho2 hs2 hp2 HR HK h5 h6
 go_wp2
 exact bodyPost_ret (v := .agg (an13C hit v an er F2 k2 d2)) (by simp [results,Tryz.results29,go_sem,r0,r1,r2,r3,r4]) rfl H6.out
set_option maxHeartbeats 2000000 in
theorem do_put {gp:Nat} {m':M13} {hit:Bool} {v an er:Nat} {out:Prs} {key val:Nat} {n:Int} (hb:b < w.heap.size) (hgp:gp < w.heap.size)
  (KG:Calls Tryz.prog 110 #[.agg p.C,.pointer (some ⟨b,0,none⟩),.int .u64 (key:Nat),.int .u64 (val:Nat)] (doW w p ⟨2,key,val,n⟩) (GpA (doW w p ⟨2,key,val,n⟩) b gp m' hit v an er out)) :
  Calls Tryz.prog 29 #[.agg p.C,.pointer (some ⟨b,0,none⟩),.agg (op13C ⟨2,key,val,n⟩)] w (GpA w b gp m' hit v an er out):=by
 have HK:=Lib.hid KG
 have hr:=(doW_at w p ⟨2,key,val,n⟩).2.2
 have HR:=Lib.hid hr
 have hne:b≠w.heap.size+1+1:=by omega
 have hne2:w.heap.size+1+1≠b:=by omega
 clear KG hr
 go_enter Tryz.func29,Tryz.ntmps29
 go_wp2_with fail
 refine HK.out.mono ?_
 rintro e w2 ⟨x2,F2,k2,d2,rfl,ho2,hs2,hp2⟩
 obtain ⟨h5,h6⟩:=GpA.put (hit:=hit) (v:=v) (n:=an) (er:=er) hb hgp (by omega) (doW_low w p ⟨2,key,val,n⟩) HR.out ho2 hs2 hp2
 have H6:=Lib.hid h6
 obtain ⟨⟨r0,r1,r2,r3,r4⟩,rf0,rf1,rf2,rf3,rf4⟩:=c5_at h5
 clear ho2 hs2 hp2 HR HK h5 h6
 go_wp2
 exact bodyPost_ret (v := .agg (an13C hit v an er F2 k2 d2)) (by simp [results,Tryz.results29,go_sem,r0,r1,r2,r3,r4]) rfl H6.out
set_option maxHeartbeats 2000000 in
theorem do_remove {gp:Nat} {m':M13} {hit:Bool} {v an er:Nat} {out:Prs} {key val:Nat} {n:Int} (hb:b < w.heap.size) (hgp:gp < w.heap.size)
  (KG:Calls Tryz.prog 111 #[.agg p.C,.pointer (some ⟨b,0,none⟩),.int .u64 (key:Nat)] (doW w p ⟨3,key,val,n⟩) (GpA (doW w p ⟨3,key,val,n⟩) b gp m' hit v an er out)) :
  Calls Tryz.prog 29 #[.agg p.C,.pointer (some ⟨b,0,none⟩),.agg (op13C ⟨3,key,val,n⟩)] w (GpA w b gp m' hit v an er out):=by
 have HK:=Lib.hid KG
 have hr:=(doW_at w p ⟨3,key,val,n⟩).2.2
 have HR:=Lib.hid hr
 have hne:b≠w.heap.size+1+1:=by omega
 have hne2:w.heap.size+1+1≠b:=by omega
 clear KG hr
 go_enter Tryz.func29,Tryz.ntmps29
 go_wp2_with fail
 refine HK.out.mono ?_
 rintro e w2 ⟨x2,F2,k2,d2,rfl,ho2,hs2,hp2⟩
 obtain ⟨h5,h6⟩:=GpA.put (hit:=hit) (v:=v) (n:=an) (er:=er) hb hgp (by omega) (doW_low w p ⟨3,key,val,n⟩) HR.out ho2 hs2 hp2
 have H6:=Lib.hid h6
 obtain ⟨⟨r0,r1,r2,r3,r4⟩,rf0,rf1,rf2,rf3,rf4⟩:=c5_at h5
 clear ho2 hs2 hp2 HR HK h5 h6
 go_wp2
 exact bodyPost_ret (v := .agg (an13C hit v an er F2 k2 d2)) (by simp [results,Tryz.results29,go_sem,r0,r1,r2,r3,r4]) rfl H6.out
set_option maxHeartbeats 2000000 in
theorem do_resize {gp:Nat} {m':M13} {hit:Bool} {v an er:Nat} {out:Prs} {key val:Nat} {n:Int} (hb:b < w.heap.size) (hgp:gp < w.heap.size)
  (KG:Calls Tryz.prog 112 #[.agg p.C,.pointer (some ⟨b,0,none⟩),.int .i64 n] (doW w p ⟨4,key,val,n⟩) (GpA (doW w p ⟨4,key,val,n⟩) b gp m' hit v an er out)) :
  Calls Tryz.prog 29 #[.agg p.C,.pointer (some ⟨b,0,none⟩),.agg (op13C ⟨4,key,val,n⟩)] w (GpA w b gp m' hit v an er out):=by
 have HK:=Lib.hid KG
 have hr:=(doW_at w p ⟨4,key,val,n⟩).2.2
 have HR:=Lib.hid hr
 have hne:b≠w.heap.size+1+1:=by omega
 have hne2:w.heap.size+1+1≠b:=by omega
 clear KG hr
 go_enter Tryz.func29,Tryz.ntmps29
 go_wp2_with fail
 refine HK.out.mono ?_
 rintro e w2 ⟨x2,F2,k2,d2,rfl,ho2,hs2,hp2⟩
 obtain ⟨h5,h6⟩:=GpA.put (hit:=hit) (v:=v) (n:=an) (er:=er) hb hgp (by omega) (doW_low w p ⟨4,key,val,n⟩) HR.out ho2 hs2 hp2
 have H6:=Lib.hid h6
 obtain ⟨⟨r0,r1,r2,r3,r4⟩,rf0,rf1,rf2,rf3,rf4⟩:=c5_at h5
 clear ho2 hs2 hp2 HR HK h5 h6
 go_wp2
 exact bodyPost_ret (v := .agg (an13C hit v an er F2 k2 d2)) (by simp [results,Tryz.results29,go_sem,r0,r1,r2,r3,r4]) rfl H6.out
set_option maxHeartbeats 2000000 in
theorem do_len (PVV:PolV p t gs Inv) (hi:Inv w) (hs:S13 w PT13 b m x) (ht:m.ps.tag=t) (ok:m.Ok) {gp:Nat} (hgp:gp < w.heap.size) {key val:Nat} {n:Int} :
  Calls Tryz.prog 29 #[.agg p.C,.pointer (some ⟨b,0,none⟩),.agg (op13C ⟨5,key,val,n⟩)] w (GpA w b gp ⟨m.ps,m.prs,m.hits,m.misses,m.ev⟩ false 0 m.prs.length 0 []):=by
 have hbl:=hs.lt
 have hlo:=doW_low w p ⟨5,key,val,n⟩
 obtain ⟨hpb,hopb,hr⟩:=doW_at w p ⟨5,key,val,n⟩
 have E1:=Lib.hid PVV.e1
 have KO:=Lib.hid (PVV.own (PVV.below hi hlo) (hs.below hlo) ht ok.ps)
 have HR:=Lib.hid hr
 have hne:b≠w.heap.size+1+1:=by omega
 have hne2:w.heap.size+1+1≠b:=by omega
 have hlen:m.prs.length<=10000000:=by have:=ok.lenCap;have:=ok.ps.capLe;omega
 have pc1:(doW w p ⟨5,key,val,n⟩).cell? ⟨w.heap.size,1,none⟩=some (.func (.func p.f1) #[] p.c1):=(head_row hpb).cell (i:=1) (by simp)
 clear hi hs ht ok hlo hpb hopb hr PVV
 go_enter Tryz.func29,Tryz.ntmps29
 go_wp2_with fail
 rw [E1.out,Oper.upon_enter]
 refine KO.out.mono ?_
 rintro e w2 ⟨rfl,ho2,x2,-,hs2⟩
 have ho3:Only [b,gp] (doW w p ⟨5,key,val,n⟩) w2:=ho2.mono (by simp)
 obtain ⟨h5',h6⟩:=GpA.put (hit:=false) (v:=0) (n:=m.prs.length) (er:=0) hbl hgp (by omega) (doW_low w p ⟨5,key,val,n⟩) HR.out ho3 hs2 (PV.nil w2)
 have H6:=Lib.hid h6
 obtain ⟨⟨r0,r1,r2,r3,r4⟩,rf0,rf1,rf2,rf3,rf4⟩:=c5_at h5'
 have hpn:x2.pr.n=m.prs.length:=by
  obtain ⟨F',c',e,_⟩:=hs2.st.prs.mem
  injection e
 obtain ⟨-,-,-,-,-,-,-,-,-,-,-,-,-,-,-,-,-,-,-,-,p20,-⟩:=box_cells hs2.box
 rw [hpn] at p20
 clear hpn
 clear ho2 ho3 hs2 HR KO h5' h6 pc1
 go_wp2
 exact bodyPost_ret (v := .agg (an13C false 0 (m.prs.length) 0 none 0 0)) (by simp [results,Tryz.results29,go_sem,r0,r1,r2,r3,r4]) rfl H6.out
set_option maxHeartbeats 2000000 in
theorem do_none (PVV:PolV p t gs Inv) (hi:Inv w) (hs:S13 w PT13 b m x) (ht:m.ps.tag=t) (ok:m.Ok) {gp:Nat} (hgp:gp < w.heap.size) {key val:Nat} {n kind:Int} (h1:kind≠1) (h2:kind≠2) (h3:kind≠3) (h4:kind≠4) (h5:kind≠5) :
  Calls Tryz.prog 29 #[.agg p.C,.pointer (some ⟨b,0,none⟩),.agg (op13C ⟨kind,key,val,n⟩)] w (GpA w b gp ⟨m.ps,m.prs,m.hits,m.misses,m.ev⟩ false 0 0 2 []):=by
 have hbl:=hs.lt
 have hlo:=doW_low w p ⟨kind,key,val,n⟩
 obtain ⟨hpb,hopb,hr⟩:=doW_at w p ⟨kind,key,val,n⟩
 have E1:=Lib.hid PVV.e1
 have KO:=Lib.hid (PVV.own (PVV.below hi hlo) (hs.below hlo) ht ok.ps)
 have HR:=Lib.hid hr
 have hne:b≠w.heap.size+1+1:=by omega
 have hne2:w.heap.size+1+1≠b:=by omega
 have hlen:m.prs.length<=10000000:=by have:=ok.lenCap;have:=ok.ps.capLe;omega
 have pc1:(doW w p ⟨kind,key,val,n⟩).cell? ⟨w.heap.size,1,none⟩=some (.func (.func p.f1) #[] p.c1):=(head_row hpb).cell (i:=1) (by simp)
 have e1:(kind == 1)=false:=by rw [beq_eq_false_iff_ne];exact h1
 have e2:(kind == 2)=false:=by rw [beq_eq_false_iff_ne];exact h2
 have e3:(kind == 3)=false:=by rw [beq_eq_false_iff_ne];exact h3
 have e4:(kind == 4)=false:=by rw [beq_eq_false_iff_ne];exact h4
 have e5:(kind == 5)=false:=by rw [beq_eq_false_iff_ne];exact h5
 clear hi hs ht ok hlo hpb hopb hr PVV
 go_enter Tryz.func29,Tryz.ntmps29
 go_wp2_with fail
 rw [E1.out,Oper.upon_enter]
 refine KO.out.mono ?_
 rintro e w2 ⟨rfl,ho2,x2,-,hs2⟩
 have ho3:Only [b,gp] (doW w p ⟨kind,key,val,n⟩) w2:=ho2.mono (by simp)
 obtain ⟨h5',h6⟩:=GpA.put (hit:=false) (v:=0) (n:=0) (er:=2) hbl hgp (by omega) (doW_low w p ⟨kind,key,val,n⟩) HR.out ho3 hs2 (PV.nil w2)
 have H6:=Lib.hid h6
 obtain ⟨⟨r0,r1,r2,r3,r4⟩,rf0,rf1,rf2,rf3,rf4⟩:=c5_at h5'
 clear ho2 ho3 hs2 HR KO h5' h6 pc1
 go_wp2
 exact bodyPost_ret (v := .agg (an13C false 0 (0) 2 none 0 0)) (by simp [results,Tryz.results29,go_sem,r0,r1,r2,r3,r4]) rfl H6.out
theorem do_walk (PVV:PolV p t gs Inv) (hi:Inv w) (hs:S13 w PT13 b m x) (ht:m.ps.tag=t) (ok:m.Ok) (hlow:m.Low 100000000) {gp:Nat} (hgp:gp < w.heap.size) {o:Op13} (hE:ErrT w) (ho:o.Ok) {g c:Nat} (hpr:m.prs=[]∨gp=g/\(Value.slice x.pr.F x.pr.n x.pr.c) = .slice (some ⟨g,0,none⟩) m.prs.length c/\m.prs.length<=c/\PairsAt w g m.prs) :
  Calls Tryz.prog 29 #[.agg p.C,.pointer (some ⟨b,0,none⟩),.agg (op13C o)] w (GpA w b gp ⟨(m.step o).ps,(m.step o).prs,(m.step o).hits,(m.step o).misses,m.ev⟩ (m.ans o).hit (m.ans o).val (m.ans o).n (m.ans o).err (m.ans o).out):=by
 have hlo:=doW_low w p o
 have hi1:=PVV.below hi hlo
 have hs1:=hs.below hlo
 have hb:=hs.lt
 have hg1:gp < (doW w p o).heap.size:=Nat.lt_of_lt_of_le hgp hlo.size
 have hk:=ho.key
 obtain ⟨kind,key,val,n⟩:=o
 unfold M13.step M13.ans
 dsimp only at *
 by_cases h1:kind=1
 ·subst h1
  simp only [if_true]
  by_cases hin:key∈m.ps.keys
  ·have hin':key∈m.keys:=hin
   rw [if_pos hin',if_pos hin']
   exact do_get hb hgp (get_in PVV hi1 hs1 ht ok hlow hg1 key hk hin)
  ·have hin':key∉m.keys:=hin
   rw [if_neg hin',if_neg hin']
   exact do_get hb hgp (get_out PVV hi1 hs1 ht ok hlow hg1 key hk hin)
 rw [if_neg h1,if_neg h1]
 by_cases h2:kind=2
 ·subst h2
  simp only [if_true]
  by_cases hin:key∈m.ps.keys
  ·have hin':key∈m.keys:=hin
   rw [if_pos hin',if_pos hin']
   rcases hpr with hpr | ⟨rfl,hx,hc,hpa⟩
   ·have:=(ok.same key).2 hin
    rw [hpr] at this
    simp [keysP] at this
   ·exact do_put hb hgp (put_in PVV hi1 hs1 ht ok hlow hg1 hx hc (hpa.keep (hlo.block _ hpa.lt)) key val hk hin)
  ·have hin':key∉m.keys:=hin
   rw [if_neg hin',if_neg hin']
   exact do_put hb hgp (put_out PVV hi1 hs1 ht ok hlow hg1 key val hk hin)
 rw [if_neg h2,if_neg h2]
 by_cases h3:kind=3
 ·subst h3
  simp only [if_true]
  by_cases hin:key∈m.ps.keys
  ·have hin':key∈m.keys:=hin
   rw [decide_eq_true hin']
   exact do_remove hb hgp (remove_in PVV hi1 hs1 ht ok hlow hg1 key hk hin)
  ·have hin':key∉m.keys:=hin
   rw [decide_eq_false hin',valP_none (fun h=>hin ((ok.same key).1 h))]
   exact do_remove hb hgp (remove_out PVV hi1 hs1 ht ok hlow hg1 key hk hin)
 rw [if_neg h3,if_neg h3]
 by_cases h4:kind=4
 ·subst h4
  simp only [if_true]
  by_cases hm:M13.may n
  ·rw [if_pos hm,if_pos hm]
   obtain ⟨n',hn'⟩:∃ n':Nat,n=(n':Nat):=⟨n.toNat,by have:=hm.1;omega⟩
   subst hn'
   have h14:n'<=1048576:=by have:=hm.2;omega
   have h01:1<=n':=by have:=hm.1;omega
   exact do_resize hb hgp (resize_ok PVV hi1 hs1 ht ok hlow hg1 n' h01 h14)
  ·rw [if_neg hm,if_neg hm]
   exact do_resize hb hgp (resize_bad PVV hi1 hs1 ht ok hlow hg1 (hE.below hlo hE.lt) n (by unfold M13.may at hm;omega))
 rw [if_neg h4,if_neg h4]
 by_cases h5:kind=5
 ·subst h5
  simp only [if_true]
  rw [<- ok.len]
  exact do_len PVV hi hs ht ok hgp
 ·rw [if_neg h5]
  exact do_none PVV hi hs ht ok hgp h1 h2 h3 h4 h5
end
structure PolS (p:PolF) (t:Nat) (Inv:World->Prop):Prop where
 start:∀ {W:World} {b:Nat} {x:V13},Inv W->W.heap[b]? = some (.cells x.C PT13 (0,0))->x.p=(t:Nat)->∀ n:Int,-9223372036854775808<=n->n<=9223372036854775807->Calls Tryz.prog p.f0 (#[.pointer (some ⟨b,0,none⟩),.int .i64 n] ++ p.c0) W fun e W'=>e = .returned (.tuple #[])/\Only [b] W W'/\∃ x':V13,x'.pr=x.pr/\x'.p=x.p/\x'.hi=x.hi/\x'.mi=x.mi/\x'.ev=x.ev/\W'.heap[b]? = some (.cells x'.C PT13 (0,0))/\PolIn W' x' (PS.new t n)
theorem c10_at {w:World} {g:Nat} {t:TypeId} {a0 a1 a2 a3 a4 a5 a6 a7 a8 a9:Value} (h:w.heap[g]? = some (.cells #[a0,a1,a2,a3,a4,a5,a6,a7,a8,a9] t (0,0))):(w.cell? ⟨g,0,none⟩=some a0/\w.cell? ⟨g,1,none⟩=some a1/\w.cell? ⟨g,2,none⟩=some a2/\w.cell? ⟨g,3,none⟩=some a3/\w.cell? ⟨g,4,none⟩=some a4/\w.cell? ⟨g,5,none⟩=some a5/\w.cell? ⟨g,6,none⟩=some a6/\w.cell? ⟨g,7,none⟩=some a7/\w.cell? ⟨g,8,none⟩=some a8/\w.cell? ⟨g,9,none⟩=some a9)/\∀ i,w.frozen? ⟨g,i,none⟩=false :=
 ⟨⟨(head_row h).cell (i:=0) (by simp),(head_row h).cell (i:=1) (by simp),(head_row h).cell (i:=2) (by simp),(head_row h).cell (i:=3) (by simp),(head_row h).cell (i:=4) (by simp),(head_row h).cell (i:=5) (by simp),(head_row h).cell (i:=6) (by simp),(head_row h).cell (i:=7) (by simp),(head_row h).cell (i:=8) (by simp),(head_row h).cell (i:=9) (by simp)⟩,(head_row h).frozen⟩
def R13 (w:World) (m:M13) (x:V13) (e:Ending) (w':World):Prop:=∃ x':V13,x'.pr=x.pr/\e = .returned (.agg x'.C)/\Below w.heap.size w w'/\St13 w' m x'
def R13o (w:World) (m:M13) (x:V13) (out:List Nat) (e:Ending) (w':World):Prop:=∃ (x':V13) (o:Value),x'.pr=x.pr/\e = .returned (.tuple #[.agg x'.C,o])/\Below w.heap.size w w'/\St13 w' m x'/\KV w' o out
theorem only_setCells {S:List Nat} {b:Nat} (hb:b∈S):∀ (vs:List Value) (o:Nat) (w w':World),Only S w w'->Only S w (w'.setCells b o vs)
 | [],_,_,_,h=>h
 | v :: vs,o,w,_,h=>only_setCells hb vs (o+1) w _ (h.setCell (p:=⟨b,o,none⟩) (.inl hb) v)
theorem range_of {w:World} {b:Nat} {cs:Array Value} {T:TypeId} (h:w.heap[b]? = some (.cells cs T (0,0))):w.rangeAt b 0 cs.toList:=fun j v hv=>by
 rw [Nat.zero_add,cell_of_row w b j cs T (0,0) h]
 simpa using hv
theorem there_of {w:World} {b n:Nat} {cs:Array Value} {T:TypeId} (h:w.heap[b]? = some (.cells cs T (0,0))) (hn:cs.size=n):w.there b 0 n:=fun j hj=>by
 rw [Nat.zero_add]
 exact ⟨by rw [cell_of_row w b j cs T (0,0) h];simp;omega,(head_row h).frozen j⟩
theorem V13.one (x:V13):x.C.all (·.oneCell')=true:=by simp [Value.oneCell']
theorem an_one (hit:Bool) (v n er:Nat) (F:Option Addr) (k d:Nat):(an13C hit v n er F k d).all (·.oneCell')=true:=by simp [Value.oneCell']
theorem block_setCells {b:Nat} {T:TypeId}:∀ (vs pre rest:List Value) (W:World),rest.length=vs.length->W.heap[b]? = some (.cells (pre ++ rest).toArray T (0,0))->(W.setCells b pre.length vs).heap[b]? = some (.cells (pre ++ vs).toArray T (0,0))
 | [],pre,rest,W,hl,h=>by
  have:rest=[]:=List.length_eq_zero_iff.1 (by simpa using hl)
  subst this
  exact h
 | v :: vs,pre,[],W,hl,h=>by simp at hl
 | v :: vs,pre,r :: rest,W,hl,h=>by
  have h1:=set_one (i:=pre.length) (v:=v) h
  have h2:=block_setCells (T:=T) vs (pre ++ [v]) rest (W.setCell ⟨b,pre.length,none⟩ v) (by simpa using hl) (by rw [h1];simp)
  rw [World.setCells]
  simpa using h2
theorem block_whole {b:Nat} {T:TypeId} {W:World} {cs vs:Array Value} (h:W.heap[b]? = some (.cells cs T (0,0))) (hl:cs.size=vs.size):(W.setCells b 0 vs.toList).heap[b]? = some (.cells vs T (0,0)):=by
 simpa using block_setCells (b:=b) (T:=T) vs.toList [] cs.toList W (by simpa using hl) (by simpa using h)
namespace Aw
def o1:Op13:=⟨2,1,5,0⟩
def o2:Op13:=⟨2,2,6,0⟩
def o3:Op13:=⟨1,2,0,0⟩
def o4:Op13:=⟨4,0,0,0⟩
def m0:M13:=M13.new 1 1
def m1:M13:=m0.step o1
def m2:M13:=m1.step o2
def m3:M13:=m2.step o3
theorem out2:(m1.ans o2).out=[(1,5)]:=by rfl
theorem ans3:(m2.ans o3).hit=true/\(m2.ans o3).val=6:=⟨by rfl,by rfl⟩
theorem at3:m3.hits=1/\m3.misses=0/\m3.ev=1/\m3.ps.cap=1:=⟨by rfl,by rfl,by rfl,by rfl⟩
theorem ans4:(m3.ans o4).err=1:=by rfl
theorem ok1:o1.Ok:=⟨by decide,by decide,by decide,by decide,by decide,by decide⟩
theorem ok2:o2.Ok:=⟨by decide,by decide,by decide,by decide,by decide,by decide⟩
theorem ok3:o3.Ok:=⟨by decide,by decide,by decide,by decide,by decide,by decide⟩
theorem ok4:o4.Ok:=⟨by decide,by decide,by decide,by decide,by decide,by decide⟩
theorem sm1:o1.Small:=by unfold Op13.Small;decide
theorem sm2:o2.Small:=by unfold Op13.Small;decide
theorem sm3:o3.Small:=by unfold Op13.Small;decide
theorem sm4:o4.Small:=by unfold Op13.Small;decide
theorem mk0:m0.Ok:=M13.ok_new 1 1
theorem mk1:m1.Ok:=mk0.step ok1 sm1
theorem mk2:m2.Ok:=mk1.step ok2 sm2
theorem mk3:m3.Ok:=mk2.step ok3 sm3
theorem lw0:m0.Low 1000:=(M13.low_new 1 1).mono (by decide)
theorem lw1:m1.Low 1000:=((M13.low_new 1 1).step mk0 ok1 sm1).mono (by decide)
theorem lw2:m2.Low 1000:=(((M13.low_new 1 1).step mk0 ok1 sm1).step mk1 ok2 sm2).mono (by decide)
theorem lw3:m3.Low 1000:=((((M13.low_new 1 1).step mk0 ok1 sm1).step mk1 ok2 sm2).step mk2 ok3 sm3).mono (by decide)
end Aw
end Go.Proofs.YtcpggonengkgiaaGreatDoor
