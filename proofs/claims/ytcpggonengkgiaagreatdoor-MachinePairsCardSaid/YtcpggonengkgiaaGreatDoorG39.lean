/- Words and walks: McVA11 McVB11 McVC11. -/
import Derived.Test.YtcpggonengkgiaaGreatDoorG15
import Derived.Test.YtcpggonengkgiaaGreatDoorG30
import Derived.Deep.RegionWith
import Derived.Deep.RegionHeld3
namespace Go.Proofs.YtcpggonengkgiaaGreatDoor
open Go Go.RowKit Go.Deep
set_option maxRecDepth 8000
abbrev CT11:TypeId:=176
abbrev RT13_11:TypeId:=93
abbrev cl11C:Array Value:=#[.func (.func 88) #[] #[],.func (.func 89) #[] #[],.func (.func 90) #[] #[],.func (.func 91) #[] #[],.func (.func 92) #[] #[],.func (.func 93) #[] #[],.func (.func 94) #[] #[],.func (.func 95) #[] #[],.func (.func 96) #[] #[],.func (.func 97) #[] #[]]
section
variable {w:World} {b g:Nat} {m:M13} {x:V13} {s:L11}
theorem fld11 (w:World) (b:Nat):Calls Tryz.prog 88 #[.pointer (some ⟨b,0,none⟩)] w fun e w'=>e = .returned (.pointer (some ⟨b,11,none⟩))/\w'=w:=by
 go_enter Tryz.func88,Tryz.ntmps88
 go_wp2
 go_ret
 exact ⟨rfl,rfl⟩
theorem cap11 (w:World) (s:L11) (u1 u2 u3 u4:Value) (hf:(∃ F n d,u1 = .slice F n d)/\(∃ F n d,u2 = .slice F n d)/\(∃ F n d,u3 = .slice F n d)/\(∃ F n d,u4 = .slice F n d)):Calls Tryz.prog 97 #[.agg (l11C s.c s.p u1 u2 u3 u4)] w fun e w'=>e = .returned (.int .i64 (s.c:Nat))/\Below w.heap.size w w':=by
 obtain ⟨⟨F0,n0,d0,rfl⟩,⟨F1,n1,d1,rfl⟩,⟨F2,n2,d2,rfl⟩,⟨F3,n3,d3,rfl⟩⟩:=hf
 go_enter Tryz.func97,Tryz.ntmps97
 go_wp2
 go_ret
 exact ⟨rfl,low_one w _⟩
set_option maxHeartbeats 2000000 in
theorem touch11c (PO:Pol11Ok) (hc:w.heap[g]? = some (.cells cl11C CT11 (0,0))) (h:S13 w PT13 b m x) (hps:m.ps = .arc s) (ok:s.Ok) (k:Nat) (hk:k < 18446744073709551616) :
  Calls Tryz.prog 188 #[.pointer (some ⟨b,0,none⟩),.int .u64 (k:Nat),.pointer (some ⟨g,0,none⟩)] w fun e w'=>e = .returned (.tuple #[])/\Ps w b m x (.arc (s.touch k)) w':=by
 have hb:=h.lt
 have hpol:=h.st.pol
 rw [hps] at hpol
 obtain ⟨hp,hc0,hc1,hst⟩:=hpol
 have HF:=Lib.hid (fld11 w b)
 have hcl:=(head_row hc).lt
 have HLD:Hid (∀ W:World,Below w.heap.size w W->W.cell? ⟨b,11,none⟩=some (.int .i64 (s.c:Nat))/\W.cell? ⟨b,12,none⟩=some (.int .i64 (s.p:Nat))/\W.cell? ⟨b,13,none⟩=some (.slice x.t11.F x.t11.n x.t11.c)/\W.cell? ⟨b,14,none⟩=some (.slice x.u11.F x.u11.n x.u11.c)/\W.cell? ⟨b,15,none⟩=some (.slice x.b11.F x.b11.n x.b11.c)/\W.cell? ⟨b,16,none⟩=some (.slice x.d11.F x.d11.n x.d11.c)/\W.cell? ⟨g,2,none⟩=some (.func (.func 90) #[] #[])):=Lib.hid (fun W hW=>by
  obtain ⟨-,-,-,-,-,-,-,-,-,-,-,p11,p12,p13,p14,p15,p16,-⟩:=box_cells ((hW.block b hb).trans h.box)
  rw [hc0] at p11
  rw [hc1] at p12
  exact ⟨p11,p12,p13,p14,p15,p16,(head_row ((hW.block g hcl).trans hc)).cell (i:=2) (by simp)⟩)
 have HFR:Hid (∀ W:World,Below w.heap.size w W->W.frozen? ⟨b,11,none⟩=false/\W.frozen? ⟨b,12,none⟩=false/\W.frozen? ⟨b,13,none⟩=false/\W.frozen? ⟨b,14,none⟩=false/\W.frozen? ⟨b,15,none⟩=false/\W.frozen? ⟨b,16,none⟩=false):=Lib.hid (fun W hW=>⟨box_free ((hW.block b hb).trans h.box) 11,box_free ((hW.block b hb).trans h.box) 12,box_free ((hW.block b hb).trans h.box) 13,box_free ((hW.block b hb).trans h.box) 14,box_free ((hW.block b hb).trans h.box) 15,box_free ((hW.block b hb).trans h.box) 16⟩)
 have HEND:Hid (∀ W F0 n0 d0 F1 n1 d1 F2 n2 d2 F3 n3 d3,Below w.heap.size w W->St11 W (s.touch k) (.slice F0 n0 d0) (.slice F1 n1 d1) (.slice F2 n2 d2) (.slice F3 n3 d3)->Ps w b m x (.arc (s.touch k)) ((((((W.setCell ⟨b,11,none⟩ (.int .i64 ((s.touch k).c:Nat))).setCell ⟨b,12,none⟩ (.int .i64 ((s.touch k).p:Nat))).setCell ⟨b,13,none⟩ (.slice F0 n0 d0)).setCell ⟨b,14,none⟩ (.slice F1 n1 d1)).setCell ⟨b,15,none⟩ (.slice F2 n2 d2)).setCell ⟨b,16,none⟩ (.slice F3 n3 d3))/\∀ o out,KV W o out->KV ((((((W.setCell ⟨b,11,none⟩ (.int .i64 ((s.touch k).c:Nat))).setCell ⟨b,12,none⟩ (.int .i64 ((s.touch k).p:Nat))).setCell ⟨b,13,none⟩ (.slice F0 n0 d0)).setCell ⟨b,14,none⟩ (.slice F1 n1 d1)).setCell ⟨b,15,none⟩ (.slice F2 n2 d2)).setCell ⟨b,16,none⟩ (.slice F3 n3 d3)) o out):=Lib.hid (fun W F0 n0 d0 F1 n1 d1 F2 n2 d2 F3 n3 d3 hW hs=>by
  obtain ⟨h1,h2⟩:=box_set11 ((h.below hW).box) ((s.touch k).c:Nat) ((s.touch k).p:Nat) F0 n0 d0 F1 n1 d1 F2 n2 d2 F3 n3 d3
  have h3:=(h.below hW).st.only h2 (h.below hW).bx
  exact ⟨⟨(Only.of_below hW).trans h2 (by simp),{ x with c11:=((s.touch k).c:Nat),p11:=((s.touch k).p:Nat),t11:=⟨F0,n0,d0⟩,u11:=⟨F1,n1,d1⟩,b11:=⟨F2,n2,d2⟩,d11:=⟨F3,n3,d3⟩ },rfl,⟨h1,h.ty,⟨⟨hp,rfl,rfl,⟨hs.g1.only h2 (h.below hW).bx,hs.g2.only h2 (h.below hW).bx,hs.g3.only h2 (h.below hW).bx,hs.g4.only h2 (h.below hW).bx⟩⟩,h3.prs,h3.hi,h3.mi,h3.ev⟩⟩⟩,fun o out ho=>ho.only h2 (h.below hW).bx⟩)
 have c0:w.cell? ⟨g,0,none⟩=some (.func (.func 88) #[] #[]):=(head_row hc).cell (i:=0) (by simp)
 obtain ⟨k0,k1,k2,k3,k4,k5,k6⟩:=HLD.out w (Below.refl _ _)
 have KT:Hid (∀ W,Below w.heap.size w W->Calls Tryz.prog 90 #[(.agg (l11C s.c s.p (.slice x.t11.F x.t11.n x.t11.c) (.slice x.u11.F x.u11.n x.u11.c) (.slice x.b11.F x.b11.n x.b11.c) (.slice x.d11.F x.d11.n x.d11.c))),.int .u64 (k:Nat)] W (P11 W (s.touch k))):=Lib.hid (fun W hW=>PO.touch (hst.below hW) ok k hk)
 clear hst hc0 hc1 hp h hps hc
 go_enter Tryz.func188,Tryz.ntmps188
 go_wp2_with (go_at_call 88;refine HF.out.mono ?_;rintro e w1 ⟨rfl,rfl⟩)
 go_region_with (go_at_call 90;refine (KT.out _ (below_drewn (Below.refl _ _) _)).mono ?_;rintro e w5 ⟨u50,u51,u52,u53,rfl,hb5,hk5⟩;obtain ⟨F50,n50,d50,rfl⟩:=hk5.form1;obtain ⟨F51,n51,d51,rfl⟩:=hk5.form2;obtain ⟨F52,n52,d52,rfl⟩:=hk5.form3;obtain ⟨F53,n53,d53,rfl⟩:=hk5.form4;have hbA:=(below_drewn (Below.refl w1.heap.size w1) _).trans hb5;obtain ⟨z0,z1,z2,z3,z4,z5⟩:=HFR.out w5 hbA;obtain ⟨k0,k1,k2,k3,k4,k5,k6⟩:=HLD.out w5 hbA)
 all_goals
  go_wp2
  go_end0
  exact ⟨rfl,(HEND.out _ _ _ _ _ _ _ _ _ _ _ _ _ hbA hk5).1⟩
set_option maxHeartbeats 2000000 in
theorem adm11c (PO:Pol11Ok) (hc:w.heap[g]? = some (.cells cl11C CT11 (0,0))) (h:S13 w PT13 b m x) (hps:m.ps = .arc s) (ok:s.Ok) (k:Nat) (hk:k < 18446744073709551616) :
  Calls Tryz.prog 189 #[.pointer (some ⟨b,0,none⟩),.int .u64 (k:Nat),.pointer (some ⟨g,0,none⟩)] w fun e w'=>∃ v,e = .returned v/\Ps w b m x (.arc (s.adm k)) w'/\KV w' v (s.admitOut k):=by
 have hb:=h.lt
 have hpol:=h.st.pol
 rw [hps] at hpol
 obtain ⟨hp,hc0,hc1,hst⟩:=hpol
 have HF:=Lib.hid (fld11 w b)
 have hcl:=(head_row hc).lt
 have HLD:Hid (∀ W:World,Below w.heap.size w W->W.cell? ⟨b,11,none⟩=some (.int .i64 (s.c:Nat))/\W.cell? ⟨b,12,none⟩=some (.int .i64 (s.p:Nat))/\W.cell? ⟨b,13,none⟩=some (.slice x.t11.F x.t11.n x.t11.c)/\W.cell? ⟨b,14,none⟩=some (.slice x.u11.F x.u11.n x.u11.c)/\W.cell? ⟨b,15,none⟩=some (.slice x.b11.F x.b11.n x.b11.c)/\W.cell? ⟨b,16,none⟩=some (.slice x.d11.F x.d11.n x.d11.c)/\W.cell? ⟨g,3,none⟩=some (.func (.func 91) #[] #[])):=Lib.hid (fun W hW=>by
  obtain ⟨-,-,-,-,-,-,-,-,-,-,-,p11,p12,p13,p14,p15,p16,-⟩:=box_cells ((hW.block b hb).trans h.box)
  rw [hc0] at p11
  rw [hc1] at p12
  exact ⟨p11,p12,p13,p14,p15,p16,(head_row ((hW.block g hcl).trans hc)).cell (i:=3) (by simp)⟩)
 have HFR:Hid (∀ W:World,Below w.heap.size w W->W.frozen? ⟨b,11,none⟩=false/\W.frozen? ⟨b,12,none⟩=false/\W.frozen? ⟨b,13,none⟩=false/\W.frozen? ⟨b,14,none⟩=false/\W.frozen? ⟨b,15,none⟩=false/\W.frozen? ⟨b,16,none⟩=false):=Lib.hid (fun W hW=>⟨box_free ((hW.block b hb).trans h.box) 11,box_free ((hW.block b hb).trans h.box) 12,box_free ((hW.block b hb).trans h.box) 13,box_free ((hW.block b hb).trans h.box) 14,box_free ((hW.block b hb).trans h.box) 15,box_free ((hW.block b hb).trans h.box) 16⟩)
 have HEND:Hid (∀ W F0 n0 d0 F1 n1 d1 F2 n2 d2 F3 n3 d3,Below w.heap.size w W->St11 W (s.adm k) (.slice F0 n0 d0) (.slice F1 n1 d1) (.slice F2 n2 d2) (.slice F3 n3 d3)->Ps w b m x (.arc (s.adm k)) ((((((W.setCell ⟨b,11,none⟩ (.int .i64 ((s.adm k).c:Nat))).setCell ⟨b,12,none⟩ (.int .i64 ((s.adm k).p:Nat))).setCell ⟨b,13,none⟩ (.slice F0 n0 d0)).setCell ⟨b,14,none⟩ (.slice F1 n1 d1)).setCell ⟨b,15,none⟩ (.slice F2 n2 d2)).setCell ⟨b,16,none⟩ (.slice F3 n3 d3))/\∀ o out,KV W o out->KV ((((((W.setCell ⟨b,11,none⟩ (.int .i64 ((s.adm k).c:Nat))).setCell ⟨b,12,none⟩ (.int .i64 ((s.adm k).p:Nat))).setCell ⟨b,13,none⟩ (.slice F0 n0 d0)).setCell ⟨b,14,none⟩ (.slice F1 n1 d1)).setCell ⟨b,15,none⟩ (.slice F2 n2 d2)).setCell ⟨b,16,none⟩ (.slice F3 n3 d3)) o out):=Lib.hid (fun W F0 n0 d0 F1 n1 d1 F2 n2 d2 F3 n3 d3 hW hs=>by
  obtain ⟨h1,h2⟩:=box_set11 ((h.below hW).box) ((s.adm k).c:Nat) ((s.adm k).p:Nat) F0 n0 d0 F1 n1 d1 F2 n2 d2 F3 n3 d3
  have h3:=(h.below hW).st.only h2 (h.below hW).bx
  exact ⟨⟨(Only.of_below hW).trans h2 (by simp),{ x with c11:=((s.adm k).c:Nat),p11:=((s.adm k).p:Nat),t11:=⟨F0,n0,d0⟩,u11:=⟨F1,n1,d1⟩,b11:=⟨F2,n2,d2⟩,d11:=⟨F3,n3,d3⟩ },rfl,⟨h1,h.ty,⟨⟨hp,rfl,rfl,⟨hs.g1.only h2 (h.below hW).bx,hs.g2.only h2 (h.below hW).bx,hs.g3.only h2 (h.below hW).bx,hs.g4.only h2 (h.below hW).bx⟩⟩,h3.prs,h3.hi,h3.mi,h3.ev⟩⟩⟩,fun o out ho=>ho.only h2 (h.below hW).bx⟩)
 have c0:w.cell? ⟨g,0,none⟩=some (.func (.func 88) #[] #[]):=(head_row hc).cell (i:=0) (by simp)
 obtain ⟨k0,k1,k2,k3,k4,k5,k6⟩:=HLD.out w (Below.refl _ _)
 have KT:Hid (∀ W,Below w.heap.size w W->Calls Tryz.prog 91 #[(.agg (l11C s.c s.p (.slice x.t11.F x.t11.n x.t11.c) (.slice x.u11.F x.u11.n x.u11.c) (.slice x.b11.F x.b11.n x.b11.c) (.slice x.d11.F x.d11.n x.d11.c))),.int .u64 (k:Nat)] W (P11o W (s.adm k) (s.admitOut k))):=Lib.hid (fun W hW=>PO.adm (hst.below hW) ok k hk)
 clear hst hc0 hc1 hp h hps hc
 go_enter Tryz.func189,Tryz.ntmps189
 go_wp2_with (go_at_call 88;refine HF.out.mono ?_;rintro e w1 ⟨rfl,rfl⟩)
 go_region_with (go_at_call 91;refine (KT.out _ (below_drewn (Below.refl _ _) _)).mono ?_;rintro e w5 ⟨u50,u51,u52,u53,o5,he,hb5,hk5,ho5⟩;obtain ⟨F50,n50,d50,rfl⟩:=hk5.form1;obtain ⟨F51,n51,d51,rfl⟩:=hk5.form2;obtain ⟨F52,n52,d52,rfl⟩:=hk5.form3;obtain ⟨F53,n53,d53,rfl⟩:=hk5.form4;subst he;have hbA:=(below_drewn (Below.refl w1.heap.size w1) _).trans hb5;obtain ⟨z0,z1,z2,z3,z4,z5⟩:=HFR.out w5 hbA;obtain ⟨k0,k1,k2,k3,k4,k5,k6⟩:=HLD.out w5 hbA)
 all_goals
  go_wp2
  go_ret
  exact ⟨_,rfl,(HEND.out _ _ _ _ _ _ _ _ _ _ _ _ _ hbA hk5).1,(HEND.out _ _ _ _ _ _ _ _ _ _ _ _ _ hbA hk5).2 _ _ ho5⟩
set_option maxHeartbeats 2000000 in
theorem drop11c (PO:Pol11Ok) (hc:w.heap[g]? = some (.cells cl11C CT11 (0,0))) (h:S13 w PT13 b m x) (hps:m.ps = .arc s) (ok:s.Ok) (k:Nat) (hk:k < 18446744073709551616) :
  Calls Tryz.prog 190 #[.pointer (some ⟨b,0,none⟩),.int .u64 (k:Nat),.pointer (some ⟨g,0,none⟩)] w fun e w'=>e = .returned (.tuple #[])/\Ps w b m x (.arc (s.drop k)) w':=by
 have hb:=h.lt
 have hpol:=h.st.pol
 rw [hps] at hpol
 obtain ⟨hp,hc0,hc1,hst⟩:=hpol
 have HF:=Lib.hid (fld11 w b)
 have hcl:=(head_row hc).lt
 have HLD:Hid (∀ W:World,Below w.heap.size w W->W.cell? ⟨b,11,none⟩=some (.int .i64 (s.c:Nat))/\W.cell? ⟨b,12,none⟩=some (.int .i64 (s.p:Nat))/\W.cell? ⟨b,13,none⟩=some (.slice x.t11.F x.t11.n x.t11.c)/\W.cell? ⟨b,14,none⟩=some (.slice x.u11.F x.u11.n x.u11.c)/\W.cell? ⟨b,15,none⟩=some (.slice x.b11.F x.b11.n x.b11.c)/\W.cell? ⟨b,16,none⟩=some (.slice x.d11.F x.d11.n x.d11.c)/\W.cell? ⟨g,4,none⟩=some (.func (.func 92) #[] #[])):=Lib.hid (fun W hW=>by
  obtain ⟨-,-,-,-,-,-,-,-,-,-,-,p11,p12,p13,p14,p15,p16,-⟩:=box_cells ((hW.block b hb).trans h.box)
  rw [hc0] at p11
  rw [hc1] at p12
  exact ⟨p11,p12,p13,p14,p15,p16,(head_row ((hW.block g hcl).trans hc)).cell (i:=4) (by simp)⟩)
 have HFR:Hid (∀ W:World,Below w.heap.size w W->W.frozen? ⟨b,11,none⟩=false/\W.frozen? ⟨b,12,none⟩=false/\W.frozen? ⟨b,13,none⟩=false/\W.frozen? ⟨b,14,none⟩=false/\W.frozen? ⟨b,15,none⟩=false/\W.frozen? ⟨b,16,none⟩=false):=Lib.hid (fun W hW=>⟨box_free ((hW.block b hb).trans h.box) 11,box_free ((hW.block b hb).trans h.box) 12,box_free ((hW.block b hb).trans h.box) 13,box_free ((hW.block b hb).trans h.box) 14,box_free ((hW.block b hb).trans h.box) 15,box_free ((hW.block b hb).trans h.box) 16⟩)
 have HEND:Hid (∀ W F0 n0 d0 F1 n1 d1 F2 n2 d2 F3 n3 d3,Below w.heap.size w W->St11 W (s.drop k) (.slice F0 n0 d0) (.slice F1 n1 d1) (.slice F2 n2 d2) (.slice F3 n3 d3)->Ps w b m x (.arc (s.drop k)) ((((((W.setCell ⟨b,11,none⟩ (.int .i64 ((s.drop k).c:Nat))).setCell ⟨b,12,none⟩ (.int .i64 ((s.drop k).p:Nat))).setCell ⟨b,13,none⟩ (.slice F0 n0 d0)).setCell ⟨b,14,none⟩ (.slice F1 n1 d1)).setCell ⟨b,15,none⟩ (.slice F2 n2 d2)).setCell ⟨b,16,none⟩ (.slice F3 n3 d3))/\∀ o out,KV W o out->KV ((((((W.setCell ⟨b,11,none⟩ (.int .i64 ((s.drop k).c:Nat))).setCell ⟨b,12,none⟩ (.int .i64 ((s.drop k).p:Nat))).setCell ⟨b,13,none⟩ (.slice F0 n0 d0)).setCell ⟨b,14,none⟩ (.slice F1 n1 d1)).setCell ⟨b,15,none⟩ (.slice F2 n2 d2)).setCell ⟨b,16,none⟩ (.slice F3 n3 d3)) o out):=Lib.hid (fun W F0 n0 d0 F1 n1 d1 F2 n2 d2 F3 n3 d3 hW hs=>by
  obtain ⟨h1,h2⟩:=box_set11 ((h.below hW).box) ((s.drop k).c:Nat) ((s.drop k).p:Nat) F0 n0 d0 F1 n1 d1 F2 n2 d2 F3 n3 d3
  have h3:=(h.below hW).st.only h2 (h.below hW).bx
  exact ⟨⟨(Only.of_below hW).trans h2 (by simp),{ x with c11:=((s.drop k).c:Nat),p11:=((s.drop k).p:Nat),t11:=⟨F0,n0,d0⟩,u11:=⟨F1,n1,d1⟩,b11:=⟨F2,n2,d2⟩,d11:=⟨F3,n3,d3⟩ },rfl,⟨h1,h.ty,⟨⟨hp,rfl,rfl,⟨hs.g1.only h2 (h.below hW).bx,hs.g2.only h2 (h.below hW).bx,hs.g3.only h2 (h.below hW).bx,hs.g4.only h2 (h.below hW).bx⟩⟩,h3.prs,h3.hi,h3.mi,h3.ev⟩⟩⟩,fun o out ho=>ho.only h2 (h.below hW).bx⟩)
 have c0:w.cell? ⟨g,0,none⟩=some (.func (.func 88) #[] #[]):=(head_row hc).cell (i:=0) (by simp)
 obtain ⟨k0,k1,k2,k3,k4,k5,k6⟩:=HLD.out w (Below.refl _ _)
 have KT:Hid (∀ W,Below w.heap.size w W->Calls Tryz.prog 92 #[(.agg (l11C s.c s.p (.slice x.t11.F x.t11.n x.t11.c) (.slice x.u11.F x.u11.n x.u11.c) (.slice x.b11.F x.b11.n x.b11.c) (.slice x.d11.F x.d11.n x.d11.c))),.int .u64 (k:Nat)] W (P11 W (s.drop k))):=Lib.hid (fun W hW=>PO.drop (hst.below hW) ok k hk)
 clear hst hc0 hc1 hp h hps hc
 go_enter Tryz.func190,Tryz.ntmps190
 go_wp2_with (go_at_call 88;refine HF.out.mono ?_;rintro e w1 ⟨rfl,rfl⟩)
 go_region_with (go_at_call 92;refine (KT.out _ (below_drewn (Below.refl _ _) _)).mono ?_;rintro e w5 ⟨u50,u51,u52,u53,rfl,hb5,hk5⟩;obtain ⟨F50,n50,d50,rfl⟩:=hk5.form1;obtain ⟨F51,n51,d51,rfl⟩:=hk5.form2;obtain ⟨F52,n52,d52,rfl⟩:=hk5.form3;obtain ⟨F53,n53,d53,rfl⟩:=hk5.form4;have hbA:=(below_drewn (Below.refl w1.heap.size w1) _).trans hb5;obtain ⟨z0,z1,z2,z3,z4,z5⟩:=HFR.out w5 hbA;obtain ⟨k0,k1,k2,k3,k4,k5,k6⟩:=HLD.out w5 hbA)
 all_goals
  go_wp2
  go_end0
  exact ⟨rfl,(HEND.out _ _ _ _ _ _ _ _ _ _ _ _ _ hbA hk5).1⟩
set_option maxHeartbeats 2000000 in
theorem resize11c (PO:Pol11Ok) (hc:w.heap[g]? = some (.cells cl11C CT11 (0,0))) (h:S13 w PT13 b m x) (hps:m.ps = .arc s) (ok:s.Ok) (n:Int) (hn1 : -9223372036854775808<=n) (hn2:n<=9223372036854775807) :
  Calls Tryz.prog 185 #[.pointer (some ⟨b,0,none⟩),.int .i64 n,.pointer (some ⟨g,0,none⟩)] w fun e w'=>∃ v,e = .returned v/\Ps w b m x (.arc (s.resize n)) w'/\KV w' v (s.resizeOut n):=by
 have hb:=h.lt
 have hpol:=h.st.pol
 rw [hps] at hpol
 obtain ⟨hp,hc0,hc1,hst⟩:=hpol
 have HF:=Lib.hid (fld11 w b)
 have hcl:=(head_row hc).lt
 have HLD:Hid (∀ W:World,Below w.heap.size w W->W.cell? ⟨b,11,none⟩=some (.int .i64 (s.c:Nat))/\W.cell? ⟨b,12,none⟩=some (.int .i64 (s.p:Nat))/\W.cell? ⟨b,13,none⟩=some (.slice x.t11.F x.t11.n x.t11.c)/\W.cell? ⟨b,14,none⟩=some (.slice x.u11.F x.u11.n x.u11.c)/\W.cell? ⟨b,15,none⟩=some (.slice x.b11.F x.b11.n x.b11.c)/\W.cell? ⟨b,16,none⟩=some (.slice x.d11.F x.d11.n x.d11.c)/\W.cell? ⟨g,5,none⟩=some (.func (.func 93) #[] #[])):=Lib.hid (fun W hW=>by
  obtain ⟨-,-,-,-,-,-,-,-,-,-,-,p11,p12,p13,p14,p15,p16,-⟩:=box_cells ((hW.block b hb).trans h.box)
  rw [hc0] at p11
  rw [hc1] at p12
  exact ⟨p11,p12,p13,p14,p15,p16,(head_row ((hW.block g hcl).trans hc)).cell (i:=5) (by simp)⟩)
 have HFR:Hid (∀ W:World,Below w.heap.size w W->W.frozen? ⟨b,11,none⟩=false/\W.frozen? ⟨b,12,none⟩=false/\W.frozen? ⟨b,13,none⟩=false/\W.frozen? ⟨b,14,none⟩=false/\W.frozen? ⟨b,15,none⟩=false/\W.frozen? ⟨b,16,none⟩=false):=Lib.hid (fun W hW=>⟨box_free ((hW.block b hb).trans h.box) 11,box_free ((hW.block b hb).trans h.box) 12,box_free ((hW.block b hb).trans h.box) 13,box_free ((hW.block b hb).trans h.box) 14,box_free ((hW.block b hb).trans h.box) 15,box_free ((hW.block b hb).trans h.box) 16⟩)
 have HEND:Hid (∀ W F0 n0 d0 F1 n1 d1 F2 n2 d2 F3 n3 d3,Below w.heap.size w W->St11 W (s.resize n) (.slice F0 n0 d0) (.slice F1 n1 d1) (.slice F2 n2 d2) (.slice F3 n3 d3)->Ps w b m x (.arc (s.resize n)) ((((((W.setCell ⟨b,11,none⟩ (.int .i64 ((s.resize n).c:Nat))).setCell ⟨b,12,none⟩ (.int .i64 ((s.resize n).p:Nat))).setCell ⟨b,13,none⟩ (.slice F0 n0 d0)).setCell ⟨b,14,none⟩ (.slice F1 n1 d1)).setCell ⟨b,15,none⟩ (.slice F2 n2 d2)).setCell ⟨b,16,none⟩ (.slice F3 n3 d3))/\∀ o out,KV W o out->KV ((((((W.setCell ⟨b,11,none⟩ (.int .i64 ((s.resize n).c:Nat))).setCell ⟨b,12,none⟩ (.int .i64 ((s.resize n).p:Nat))).setCell ⟨b,13,none⟩ (.slice F0 n0 d0)).setCell ⟨b,14,none⟩ (.slice F1 n1 d1)).setCell ⟨b,15,none⟩ (.slice F2 n2 d2)).setCell ⟨b,16,none⟩ (.slice F3 n3 d3)) o out):=Lib.hid (fun W F0 n0 d0 F1 n1 d1 F2 n2 d2 F3 n3 d3 hW hs=>by
  obtain ⟨h1,h2⟩:=box_set11 ((h.below hW).box) ((s.resize n).c:Nat) ((s.resize n).p:Nat) F0 n0 d0 F1 n1 d1 F2 n2 d2 F3 n3 d3
  have h3:=(h.below hW).st.only h2 (h.below hW).bx
  exact ⟨⟨(Only.of_below hW).trans h2 (by simp),{ x with c11:=((s.resize n).c:Nat),p11:=((s.resize n).p:Nat),t11:=⟨F0,n0,d0⟩,u11:=⟨F1,n1,d1⟩,b11:=⟨F2,n2,d2⟩,d11:=⟨F3,n3,d3⟩ },rfl,⟨h1,h.ty,⟨⟨hp,rfl,rfl,⟨hs.g1.only h2 (h.below hW).bx,hs.g2.only h2 (h.below hW).bx,hs.g3.only h2 (h.below hW).bx,hs.g4.only h2 (h.below hW).bx⟩⟩,h3.prs,h3.hi,h3.mi,h3.ev⟩⟩⟩,fun o out ho=>ho.only h2 (h.below hW).bx⟩)
 have c0:w.cell? ⟨g,0,none⟩=some (.func (.func 88) #[] #[]):=(head_row hc).cell (i:=0) (by simp)
 obtain ⟨k0,k1,k2,k3,k4,k5,k6⟩:=HLD.out w (Below.refl _ _)
 have KT:Hid (∀ W,Below w.heap.size w W->Calls Tryz.prog 93 #[(.agg (l11C s.c s.p (.slice x.t11.F x.t11.n x.t11.c) (.slice x.u11.F x.u11.n x.u11.c) (.slice x.b11.F x.b11.n x.b11.c) (.slice x.d11.F x.d11.n x.d11.c))),.int .i64 n] W (P11o W (s.resize n) (s.resizeOut n))):=Lib.hid (fun W hW=>PO.resize (hst.below hW) ok n hn1 hn2)
 clear hst hc0 hc1 hp h hps hc
 go_enter Tryz.func185,Tryz.ntmps185
 go_wp2_with (go_at_call 88;refine HF.out.mono ?_;rintro e w1 ⟨rfl,rfl⟩)
 go_region_with (go_at_call 93;refine (KT.out _ (below_drewn (Below.refl _ _) _)).mono ?_;rintro e w5 ⟨u50,u51,u52,u53,o5,he,hb5,hk5,ho5⟩;obtain ⟨F50,n50,d50,rfl⟩:=hk5.form1;obtain ⟨F51,n51,d51,rfl⟩:=hk5.form2;obtain ⟨F52,n52,d52,rfl⟩:=hk5.form3;obtain ⟨F53,n53,d53,rfl⟩:=hk5.form4;subst he;have hbA:=(below_drewn (Below.refl w1.heap.size w1) _).trans hb5;obtain ⟨z0,z1,z2,z3,z4,z5⟩:=HFR.out w5 hbA;obtain ⟨k0,k1,k2,k3,k4,k5,k6⟩:=HLD.out w5 hbA)
 all_goals
  go_wp2
  go_ret
  exact ⟨_,rfl,(HEND.out _ _ _ _ _ _ _ _ _ _ _ _ _ hbA hk5).1,(HEND.out _ _ _ _ _ _ _ _ _ _ _ _ _ hbA hk5).2 _ _ ho5⟩
end
set_option maxRecDepth 8000
section
variable {w:World} {b g:Nat} {m:M13} {x:V13} {s:L11}
set_option maxHeartbeats 2000000 in
theorem has11c (PO:Pol11Ok) (hc:w.heap[g]? = some (.cells cl11C CT11 (0,0))) (h:S13 w PT13 b m x) (hps:m.ps = .arc s) (ok:s.Ok) (k:Nat) (hk:k < 18446744073709551616) :
  Calls Tryz.prog 191 #[.pointer (some ⟨b,0,none⟩),.int .u64 (k:Nat),.pointer (some ⟨g,0,none⟩)] w (RetB w (decide (k∈s.keys))):=by
 have hb:=h.lt
 have hpol:=h.st.pol
 rw [hps] at hpol
 obtain ⟨hp,hc0,hc1,hst⟩:=hpol
 have HF:=Lib.hid (fld11 w b)
 have hcl:=(head_row hc).lt
 have HLD:Hid (∀ W:World,Below w.heap.size w W->W.cell? ⟨b,11,none⟩=some (.int .i64 (s.c:Nat))/\W.cell? ⟨b,12,none⟩=some (.int .i64 (s.p:Nat))/\W.cell? ⟨b,13,none⟩=some (.slice x.t11.F x.t11.n x.t11.c)/\W.cell? ⟨b,14,none⟩=some (.slice x.u11.F x.u11.n x.u11.c)/\W.cell? ⟨b,15,none⟩=some (.slice x.b11.F x.b11.n x.b11.c)/\W.cell? ⟨b,16,none⟩=some (.slice x.d11.F x.d11.n x.d11.c)/\W.cell? ⟨g,6,none⟩=some (.func (.func 94) #[] #[])):=Lib.hid (fun W hW=>by
  obtain ⟨-,-,-,-,-,-,-,-,-,-,-,p11,p12,p13,p14,p15,p16,-⟩:=box_cells ((hW.block b hb).trans h.box)
  rw [hc0] at p11
  rw [hc1] at p12
  exact ⟨p11,p12,p13,p14,p15,p16,(head_row ((hW.block g hcl).trans hc)).cell (i:=6) (by simp)⟩)
 have c0:w.cell? ⟨g,0,none⟩=some (.func (.func 88) #[] #[]):=(head_row hc).cell (i:=0) (by simp)
 obtain ⟨k0,k1,k2,k3,k4,k5,k6⟩:=HLD.out w (Below.refl _ _)
 have KT:Hid (∀ W,Below w.heap.size w W->Calls Tryz.prog 94 #[(.agg (l11C s.c s.p (.slice x.t11.F x.t11.n x.t11.c) (.slice x.u11.F x.u11.n x.u11.c) (.slice x.b11.F x.b11.n x.b11.c) (.slice x.d11.F x.d11.n x.d11.c))),.int .u64 (k:Nat)] W (RetB W (decide (k∈s.keys)))):=Lib.hid (fun W hW=>PO.has (hst.below hW) ok k hk)
 have HL5:Hid (∀ W:World,Below w.heap.size w W->W.cell? ⟨b,11,none⟩=some (.int .i64 (s.c:Nat))/\W.cell? ⟨b,12,none⟩=some (.int .i64 (s.p:Nat))/\W.cell? ⟨b,13,none⟩=some (.slice x.t11.F x.t11.n x.t11.c)/\W.cell? ⟨b,14,none⟩=some (.slice x.u11.F x.u11.n x.u11.c)/\W.cell? ⟨b,15,none⟩=some (.slice x.b11.F x.b11.n x.b11.c)/\W.cell? ⟨b,16,none⟩=some (.slice x.d11.F x.d11.n x.d11.c)/\W.cell? ⟨g,6,none⟩=some (.func (.func 94) #[] #[])/\W.cell? ⟨g,0,none⟩=some (.func (.func 88) #[] #[])):=Lib.hid (fun W hW=>by
  obtain ⟨j0,j1,j2,j3,j4,j5,j6⟩:=HLD.out W hW
  exact ⟨j0,j1,j2,j3,j4,j5,j6,(head_row ((hW.block g hcl).trans hc)).cell (i:=0) (by simp)⟩)
 clear hst hc0 hc1 hp h hps hc
 go_enter Tryz.func191,Tryz.ntmps191
 go_wp2_with fail
 go_region_held3 (fun w'=>w'.cell? ⟨b,11,none⟩=some (.int .i64 (s.c:Nat))/\w'.cell? ⟨b,12,none⟩=some (.int .i64 (s.p:Nat))/\w'.cell? ⟨b,13,none⟩=some (.slice x.t11.F x.t11.n x.t11.c)/\w'.cell? ⟨b,14,none⟩=some (.slice x.u11.F x.u11.n x.u11.c)/\w'.cell? ⟨b,15,none⟩=some (.slice x.b11.F x.b11.n x.b11.c)/\w'.cell? ⟨b,16,none⟩=some (.slice x.d11.F x.d11.n x.d11.c)/\w'.cell? ⟨g,6,none⟩=some (.func (.func 94) #[] #[])/\w'.cell? ⟨g,0,none⟩=some (.func (.func 88) #[] #[]))
  (first | with_reducible exact kk5 | go_keep)
  (first
  | (go_at_call 88;refine (fld11 _ b).mono ?_;rintro e w1 ⟨rfl,rfl⟩)
  | (go_at_call 94;refine (KT.out _ (below_drewn (Below.refl _ _) _)).mono ?_;rintro e w5 ⟨rfl,hb5⟩;have hbA:=(below_drewn (Below.refl w.heap.size w) _).trans hb5;have kk5:=HL5.out w5 hbA))
 all_goals
  go_wp2
  go_ret
  exact ⟨rfl,hbA⟩
set_option maxHeartbeats 2000000 in
theorem keys11c (PO:Pol11Ok) (hc:w.heap[g]? = some (.cells cl11C CT11 (0,0))) (h:S13 w PT13 b m x) (hps:m.ps = .arc s) (ok:s.Ok)  :
  Calls Tryz.prog 192 #[.pointer (some ⟨b,0,none⟩),.pointer (some ⟨g,0,none⟩)] w (RetK w s.keys):=by
 have hb:=h.lt
 have hpol:=h.st.pol
 rw [hps] at hpol
 obtain ⟨hp,hc0,hc1,hst⟩:=hpol
 have HF:=Lib.hid (fld11 w b)
 have hcl:=(head_row hc).lt
 have HLD:Hid (∀ W:World,Below w.heap.size w W->W.cell? ⟨b,11,none⟩=some (.int .i64 (s.c:Nat))/\W.cell? ⟨b,12,none⟩=some (.int .i64 (s.p:Nat))/\W.cell? ⟨b,13,none⟩=some (.slice x.t11.F x.t11.n x.t11.c)/\W.cell? ⟨b,14,none⟩=some (.slice x.u11.F x.u11.n x.u11.c)/\W.cell? ⟨b,15,none⟩=some (.slice x.b11.F x.b11.n x.b11.c)/\W.cell? ⟨b,16,none⟩=some (.slice x.d11.F x.d11.n x.d11.c)/\W.cell? ⟨g,7,none⟩=some (.func (.func 95) #[] #[])):=Lib.hid (fun W hW=>by
  obtain ⟨-,-,-,-,-,-,-,-,-,-,-,p11,p12,p13,p14,p15,p16,-⟩:=box_cells ((hW.block b hb).trans h.box)
  rw [hc0] at p11
  rw [hc1] at p12
  exact ⟨p11,p12,p13,p14,p15,p16,(head_row ((hW.block g hcl).trans hc)).cell (i:=7) (by simp)⟩)
 have c0:w.cell? ⟨g,0,none⟩=some (.func (.func 88) #[] #[]):=(head_row hc).cell (i:=0) (by simp)
 obtain ⟨k0,k1,k2,k3,k4,k5,k6⟩:=HLD.out w (Below.refl _ _)
 have KT:Hid (∀ W,Below w.heap.size w W->Calls Tryz.prog 95 #[(.agg (l11C s.c s.p (.slice x.t11.F x.t11.n x.t11.c) (.slice x.u11.F x.u11.n x.u11.c) (.slice x.b11.F x.b11.n x.b11.c) (.slice x.d11.F x.d11.n x.d11.c)))] W (RetK W s.keys)):=Lib.hid (fun W hW=>PO.keys (hst.below hW) ok)
 have HL5:Hid (∀ W:World,Below w.heap.size w W->W.cell? ⟨b,11,none⟩=some (.int .i64 (s.c:Nat))/\W.cell? ⟨b,12,none⟩=some (.int .i64 (s.p:Nat))/\W.cell? ⟨b,13,none⟩=some (.slice x.t11.F x.t11.n x.t11.c)/\W.cell? ⟨b,14,none⟩=some (.slice x.u11.F x.u11.n x.u11.c)/\W.cell? ⟨b,15,none⟩=some (.slice x.b11.F x.b11.n x.b11.c)/\W.cell? ⟨b,16,none⟩=some (.slice x.d11.F x.d11.n x.d11.c)/\W.cell? ⟨g,7,none⟩=some (.func (.func 95) #[] #[])/\W.cell? ⟨g,0,none⟩=some (.func (.func 88) #[] #[])):=Lib.hid (fun W hW=>by
  obtain ⟨j0,j1,j2,j3,j4,j5,j6⟩:=HLD.out W hW
  exact ⟨j0,j1,j2,j3,j4,j5,j6,(head_row ((hW.block g hcl).trans hc)).cell (i:=0) (by simp)⟩)
 clear hst hc0 hc1 hp h hps hc
 go_enter Tryz.func192,Tryz.ntmps192
 go_wp2_with fail
 go_region_held3 (fun w'=>w'.cell? ⟨b,11,none⟩=some (.int .i64 (s.c:Nat))/\w'.cell? ⟨b,12,none⟩=some (.int .i64 (s.p:Nat))/\w'.cell? ⟨b,13,none⟩=some (.slice x.t11.F x.t11.n x.t11.c)/\w'.cell? ⟨b,14,none⟩=some (.slice x.u11.F x.u11.n x.u11.c)/\w'.cell? ⟨b,15,none⟩=some (.slice x.b11.F x.b11.n x.b11.c)/\w'.cell? ⟨b,16,none⟩=some (.slice x.d11.F x.d11.n x.d11.c)/\w'.cell? ⟨g,7,none⟩=some (.func (.func 95) #[] #[])/\w'.cell? ⟨g,0,none⟩=some (.func (.func 88) #[] #[]))
  (first | with_reducible exact kk5 | go_keep)
  (first
  | (go_at_call 88;refine (fld11 _ b).mono ?_;rintro e w1 ⟨rfl,rfl⟩)
  | (go_at_call 95;refine (KT.out _ (below_drewn (Below.refl _ _) _)).mono ?_;rintro e w5 ⟨v5,rfl,hb5,hk5⟩;have hbA:=(below_drewn (Below.refl w.heap.size w) _).trans hb5;have kk5:=HL5.out w5 hbA))
 all_goals
  go_wp2
  go_ret
  exact ⟨_,rfl,hbA,hk5⟩
set_option maxHeartbeats 2000000 in
theorem ghosts11c (PO:Pol11Ok) (hc:w.heap[g]? = some (.cells cl11C CT11 (0,0))) (h:S13 w PT13 b m x) (hps:m.ps = .arc s) (ok:s.Ok)  :
  Calls Tryz.prog 193 #[.pointer (some ⟨b,0,none⟩),.pointer (some ⟨g,0,none⟩)] w (fun e w'=>e = .returned (.int .i64 (s.ghosts:Nat))/\Below w.heap.size w w'):=by
 have hb:=h.lt
 have hpol:=h.st.pol
 rw [hps] at hpol
 obtain ⟨hp,hc0,hc1,hst⟩:=hpol
 have HF:=Lib.hid (fld11 w b)
 have hcl:=(head_row hc).lt
 have HLD:Hid (∀ W:World,Below w.heap.size w W->W.cell? ⟨b,11,none⟩=some (.int .i64 (s.c:Nat))/\W.cell? ⟨b,12,none⟩=some (.int .i64 (s.p:Nat))/\W.cell? ⟨b,13,none⟩=some (.slice x.t11.F x.t11.n x.t11.c)/\W.cell? ⟨b,14,none⟩=some (.slice x.u11.F x.u11.n x.u11.c)/\W.cell? ⟨b,15,none⟩=some (.slice x.b11.F x.b11.n x.b11.c)/\W.cell? ⟨b,16,none⟩=some (.slice x.d11.F x.d11.n x.d11.c)/\W.cell? ⟨g,8,none⟩=some (.func (.func 96) #[] #[])):=Lib.hid (fun W hW=>by
  obtain ⟨-,-,-,-,-,-,-,-,-,-,-,p11,p12,p13,p14,p15,p16,-⟩:=box_cells ((hW.block b hb).trans h.box)
  rw [hc0] at p11
  rw [hc1] at p12
  exact ⟨p11,p12,p13,p14,p15,p16,(head_row ((hW.block g hcl).trans hc)).cell (i:=8) (by simp)⟩)
 have c0:w.cell? ⟨g,0,none⟩=some (.func (.func 88) #[] #[]):=(head_row hc).cell (i:=0) (by simp)
 obtain ⟨k0,k1,k2,k3,k4,k5,k6⟩:=HLD.out w (Below.refl _ _)
 have KT:Hid (∀ W,Below w.heap.size w W->Calls Tryz.prog 96 #[(.agg (l11C s.c s.p (.slice x.t11.F x.t11.n x.t11.c) (.slice x.u11.F x.u11.n x.u11.c) (.slice x.b11.F x.b11.n x.b11.c) (.slice x.d11.F x.d11.n x.d11.c)))] W (fun e w'=>e = .returned (.int .i64 (s.ghosts:Nat))/\Below W.heap.size W w')):=Lib.hid (fun W hW=>PO.ghosts (hst.below hW) ok)
 have HL5:Hid (∀ W:World,Below w.heap.size w W->W.cell? ⟨b,11,none⟩=some (.int .i64 (s.c:Nat))/\W.cell? ⟨b,12,none⟩=some (.int .i64 (s.p:Nat))/\W.cell? ⟨b,13,none⟩=some (.slice x.t11.F x.t11.n x.t11.c)/\W.cell? ⟨b,14,none⟩=some (.slice x.u11.F x.u11.n x.u11.c)/\W.cell? ⟨b,15,none⟩=some (.slice x.b11.F x.b11.n x.b11.c)/\W.cell? ⟨b,16,none⟩=some (.slice x.d11.F x.d11.n x.d11.c)/\W.cell? ⟨g,8,none⟩=some (.func (.func 96) #[] #[])/\W.cell? ⟨g,0,none⟩=some (.func (.func 88) #[] #[])):=Lib.hid (fun W hW=>by
  obtain ⟨j0,j1,j2,j3,j4,j5,j6⟩:=HLD.out W hW
  exact ⟨j0,j1,j2,j3,j4,j5,j6,(head_row ((hW.block g hcl).trans hc)).cell (i:=0) (by simp)⟩)
 clear hst hc0 hc1 hp h hps hc
 go_enter Tryz.func193,Tryz.ntmps193
 go_wp2_with fail
 go_region_held3 (fun w'=>w'.cell? ⟨b,11,none⟩=some (.int .i64 (s.c:Nat))/\w'.cell? ⟨b,12,none⟩=some (.int .i64 (s.p:Nat))/\w'.cell? ⟨b,13,none⟩=some (.slice x.t11.F x.t11.n x.t11.c)/\w'.cell? ⟨b,14,none⟩=some (.slice x.u11.F x.u11.n x.u11.c)/\w'.cell? ⟨b,15,none⟩=some (.slice x.b11.F x.b11.n x.b11.c)/\w'.cell? ⟨b,16,none⟩=some (.slice x.d11.F x.d11.n x.d11.c)/\w'.cell? ⟨g,8,none⟩=some (.func (.func 96) #[] #[])/\w'.cell? ⟨g,0,none⟩=some (.func (.func 88) #[] #[]))
  (first | with_reducible exact kk5 | go_keep)
  (first
  | (go_at_call 88;refine (fld11 _ b).mono ?_;rintro e w1 ⟨rfl,rfl⟩)
  | (go_at_call 96;refine (KT.out _ (below_drewn (Below.refl _ _) _)).mono ?_;rintro e w5 ⟨rfl,hb5⟩;have hbA:=(below_drewn (Below.refl w.heap.size w) _).trans hb5;have kk5:=HL5.out w5 hbA))
 all_goals
  go_wp2
  go_ret
  exact ⟨rfl,hbA⟩
set_option maxHeartbeats 2000000 in
theorem caps11c (hc:w.heap[g]? = some (.cells cl11C CT11 (0,0))) (h:S13 w PT13 b m x) (hps:m.ps = .arc s)  :
  Calls Tryz.prog 194 #[.pointer (some ⟨b,0,none⟩),.pointer (some ⟨g,0,none⟩)] w (fun e w'=>e = .returned (.int .i64 (s.c:Nat))/\Below w.heap.size w w'):=by
 have hb:=h.lt
 have hpol:=h.st.pol
 rw [hps] at hpol
 obtain ⟨hp,hc0,hc1,hst⟩:=hpol
 have HF:=Lib.hid (fld11 w b)
 have hcl:=(head_row hc).lt
 have HLD:Hid (∀ W:World,Below w.heap.size w W->W.cell? ⟨b,11,none⟩=some (.int .i64 (s.c:Nat))/\W.cell? ⟨b,12,none⟩=some (.int .i64 (s.p:Nat))/\W.cell? ⟨b,13,none⟩=some (.slice x.t11.F x.t11.n x.t11.c)/\W.cell? ⟨b,14,none⟩=some (.slice x.u11.F x.u11.n x.u11.c)/\W.cell? ⟨b,15,none⟩=some (.slice x.b11.F x.b11.n x.b11.c)/\W.cell? ⟨b,16,none⟩=some (.slice x.d11.F x.d11.n x.d11.c)/\W.cell? ⟨g,9,none⟩=some (.func (.func 97) #[] #[])):=Lib.hid (fun W hW=>by
  obtain ⟨-,-,-,-,-,-,-,-,-,-,-,p11,p12,p13,p14,p15,p16,-⟩:=box_cells ((hW.block b hb).trans h.box)
  rw [hc0] at p11
  rw [hc1] at p12
  exact ⟨p11,p12,p13,p14,p15,p16,(head_row ((hW.block g hcl).trans hc)).cell (i:=9) (by simp)⟩)
 have c0:w.cell? ⟨g,0,none⟩=some (.func (.func 88) #[] #[]):=(head_row hc).cell (i:=0) (by simp)
 obtain ⟨k0,k1,k2,k3,k4,k5,k6⟩:=HLD.out w (Below.refl _ _)
 have KT:Hid (∀ W,Below w.heap.size w W->Calls Tryz.prog 97 #[(.agg (l11C s.c s.p (.slice x.t11.F x.t11.n x.t11.c) (.slice x.u11.F x.u11.n x.u11.c) (.slice x.b11.F x.b11.n x.b11.c) (.slice x.d11.F x.d11.n x.d11.c)))] W (fun e w'=>e = .returned (.int .i64 (s.c:Nat))/\Below W.heap.size W w')):=Lib.hid (fun W hW=>cap11 W s _ _ _ _ (⟨(hst.below hW).form1,(hst.below hW).form2,(hst.below hW).form3,(hst.below hW).form4⟩))
 have HL5:Hid (∀ W:World,Below w.heap.size w W->W.cell? ⟨b,11,none⟩=some (.int .i64 (s.c:Nat))/\W.cell? ⟨b,12,none⟩=some (.int .i64 (s.p:Nat))/\W.cell? ⟨b,13,none⟩=some (.slice x.t11.F x.t11.n x.t11.c)/\W.cell? ⟨b,14,none⟩=some (.slice x.u11.F x.u11.n x.u11.c)/\W.cell? ⟨b,15,none⟩=some (.slice x.b11.F x.b11.n x.b11.c)/\W.cell? ⟨b,16,none⟩=some (.slice x.d11.F x.d11.n x.d11.c)/\W.cell? ⟨g,9,none⟩=some (.func (.func 97) #[] #[])/\W.cell? ⟨g,0,none⟩=some (.func (.func 88) #[] #[])):=Lib.hid (fun W hW=>by
  obtain ⟨j0,j1,j2,j3,j4,j5,j6⟩:=HLD.out W hW
  exact ⟨j0,j1,j2,j3,j4,j5,j6,(head_row ((hW.block g hcl).trans hc)).cell (i:=0) (by simp)⟩)
 clear hst hc0 hc1 hp h hps hc
 go_enter Tryz.func194,Tryz.ntmps194
 go_wp2_with fail
 go_region_held3 (fun w'=>w'.cell? ⟨b,11,none⟩=some (.int .i64 (s.c:Nat))/\w'.cell? ⟨b,12,none⟩=some (.int .i64 (s.p:Nat))/\w'.cell? ⟨b,13,none⟩=some (.slice x.t11.F x.t11.n x.t11.c)/\w'.cell? ⟨b,14,none⟩=some (.slice x.u11.F x.u11.n x.u11.c)/\w'.cell? ⟨b,15,none⟩=some (.slice x.b11.F x.b11.n x.b11.c)/\w'.cell? ⟨b,16,none⟩=some (.slice x.d11.F x.d11.n x.d11.c)/\w'.cell? ⟨g,9,none⟩=some (.func (.func 97) #[] #[])/\w'.cell? ⟨g,0,none⟩=some (.func (.func 88) #[] #[]))
  (first | with_reducible exact kk5 | go_keep)
  (first
  | (go_at_call 88;refine (fld11 _ b).mono ?_;rintro e w1 ⟨rfl,rfl⟩)
  | (go_at_call 97;refine (KT.out _ (below_drewn (Below.refl _ _) _)).mono ?_;rintro e w5 ⟨rfl,hb5⟩;have hbA:=(below_drewn (Below.refl w.heap.size w) _).trans hb5;have kk5:=HL5.out w5 hbA))
 all_goals
  go_wp2
  go_ret
  exact ⟨rfl,hbA⟩
end
set_option maxRecDepth 8000
section
variable {w:World} {b g:Nat} {m:M13} {x:V13} {s:L11}
set_option maxHeartbeats 4000000 in
theorem own11c (PO:Pol11Ok) (hc:w.heap[g]? = some (.cells cl11C CT11 (0,0))) (h:S13 w PT13 b m x) (hps:m.ps = .arc s) (ok:s.Ok) {g2:Nat} (hr:w.heap[g2]? = some (.cells #[.func (.func 185) #[] #[.pointer (some ⟨g,0,none⟩)]] RT13_11 (0,0))) :
  Calls Tryz.prog 187 #[.pointer (some ⟨b,0,none⟩),.pointer (some ⟨g2,0,none⟩),.pointer (some ⟨g,0,none⟩)] w fun e w'=>e = .returned (.tuple #[])/\Ps w b m x (.arc s) w':=by
 have hb:=h.lt
 have hpol:=h.st.pol
 rw [hps] at hpol
 obtain ⟨hp,hc0,hc1,hst⟩:=hpol
 have hcl:=(head_row hc).lt
 have hrl:=(head_row hr).lt
 have HSS:Hid (∀ W:World,Below w.heap.size w W->W.cell? ⟨g2,0,none⟩=some (.func (.func 185) #[] #[.pointer (some ⟨g,0,none⟩)])/\W.cell? ⟨g,0,none⟩=some (.func (.func 88) #[] #[])/\W.cell? ⟨g,9,none⟩=some (.func (.func 97) #[] #[])):=Lib.hid (fun W hW=>by
  exact ⟨(head_row ((hW.block g2 hrl).trans hr)).cell (i:=0) (by simp),(head_row ((hW.block g hcl).trans hc)).cell (i:=0) (by simp),(head_row ((hW.block g hcl).trans hc)).cell (i:=9) (by simp)⟩)
 have KC:Hid (∀ W F0 n0 d0 F1 n1 d1 F2 n2 d2 F3 n3 d3,Calls Tryz.prog 97 #[.agg (l11C s.c s.p (.slice F0 n0 d0) (.slice F1 n1 d1) (.slice F2 n2 d2) (.slice F3 n3 d3))] W (fun e w'=>e = .returned (.int .i64 (s.c:Nat))/\Below W.heap.size W w')):=Lib.hid (fun W F0 n0 d0 F1 n1 d1 F2 n2 d2 F3 n3 d3=>cap11 W s _ _ _ _ (⟨⟨F0,n0,d0,rfl⟩,⟨F1,n1,d1,rfl⟩,⟨F2,n2,d2,rfl⟩,⟨F3,n3,d3,rfl⟩⟩))
 have hcap:=ok.cap
 have KR:Hid (∀ W,Below w.heap.size w W->Calls Tryz.prog 185 #[.pointer (some ⟨b,0,none⟩),.int .i64 (s.c:Nat),.pointer (some ⟨g,0,none⟩)] W (fun e w'=>∃ v,e = .returned v/\Ps w b m x (.arc s) w')):=Lib.hid (fun W hW=>by
  refine (resize11c PO ((hW.block g hcl).trans hc) (h.below hW) hps ok (s.c:Nat) (by omega) (by omega)).mono ?_
  rintro e w' ⟨v,rfl,⟨h1,x',h2,h3⟩,_⟩
  rw [(L11.own ok).1] at h3
  exact ⟨v,rfl,⟨(Only.of_below hW).trans h1 (by simp),x',h2,h3⟩⟩)
 obtain ⟨k0,k1,k2⟩:=HSS.out w (Below.refl _ _)
 obtain ⟨-,-,-,-,-,-,-,-,-,-,-,p11,p12,p13,p14,p15,p16,-⟩:=box_cells h.box
 rw [hc0] at p11
 rw [hc1] at p12
 clear hst hc0 hc1 hp h hps hc hr hcap
 go_enter Tryz.func187,Tryz.ntmps187
 go_wp2_with fail
 go_region_with (first | (go_at_call 88;refine (fld11 _ b).mono ?_;rintro e w1 ⟨rfl,rfl⟩) | (go_at_call 97;refine (KC.out _ _ _ _ _ _ _ _ _ _ _ _ _).mono ?_;rintro e w5 ⟨rfl,hb5⟩;have hbA:=(below_drewn (Below.refl w.heap.size w) _).trans hb5;obtain ⟨k0,k1,k2⟩:=HSS.out w5 hbA) | (go_at_call 185;refine (KR.out _ hbA).mono ?_;rintro e w6 ⟨v6,rfl,hp6⟩))
 all_goals
  go_wp2
  go_end0
  exact ⟨rfl,hp6⟩
end
end Go.Proofs.YtcpggonengkgiaaGreatDoor
