/- Words and walks: McVA9 McVB9 McVC9 McVD9. -/
import Derived.Test.YtcpggonengkgiaaGreatDoorG30
import Derived.Test.YtcpggonengkgiaaGreatDoorG5
import Derived.Deep.RegionWith
import Derived.Deep.RegionHeld3
namespace Go.Proofs.YtcpggonengkgiaaGreatDoor
open Go Go.RowKit Go.Deep
set_option maxRecDepth 8000
abbrev CT9:TypeId:=152
abbrev RT13_9:TypeId:=93
abbrev cl9C:Array Value:=#[.func (.func 66) #[] #[],.func (.func 67) #[] #[],.func (.func 68) #[] #[],.func (.func 69) #[] #[],.func (.func 70) #[] #[],.func (.func 71) #[] #[],.func (.func 72) #[] #[],.func (.func 73) #[] #[],.func (.func 74) #[] #[],.func (.func 75) #[] #[]]
section
variable {w:World} {b g:Nat} {m:M13} {x:V13} {s:L9}
theorem fld9 (w:World) (b:Nat):Calls Tryz.prog 66 #[.pointer (some ⟨b,0,none⟩)] w fun e w'=>e = .returned (.pointer (some ⟨b,3,none⟩))/\w'=w:=by
 go_enter Tryz.func66,Tryz.ntmps66
 go_wp2
 go_ret
 exact ⟨rfl,rfl⟩
theorem cap9 (w:World) (s:L9) (u1 u2 u3:Value) (hf:(∃ F n d,u1 = .slice F n d)/\(∃ F n d,u2 = .slice F n d)/\(∃ F n d,u3 = .slice F n d)):Calls Tryz.prog 75 #[.agg (l9C s.c u1 u2 u3)] w fun e w'=>e = .returned (.int .i64 (s.c:Nat))/\Below w.heap.size w w':=by
 obtain ⟨⟨F0,n0,d0,rfl⟩,⟨F1,n1,d1,rfl⟩,⟨F2,n2,d2,rfl⟩⟩:=hf
 go_enter Tryz.func75,Tryz.ntmps75
 go_wp2
 go_ret
 exact ⟨rfl,low_one w _⟩
set_option maxHeartbeats 2000000 in
theorem touch9c (PO:Pol9Ok) (hc:w.heap[g]? = some (.cells cl9C CT9 (0,0))) (h:S13 w PT13 b m x) (hps:m.ps = .twoq s) (ok:s.Ok) (k:Nat) (hk:k < 18446744073709551616) :
  Calls Tryz.prog 152 #[.pointer (some ⟨b,0,none⟩),.int .u64 (k:Nat),.pointer (some ⟨g,0,none⟩)] w fun e w'=>e = .returned (.tuple #[])/\Ps w b m x (.twoq (s.touch k)) w':=by
 have hb:=h.lt
 have hpol:=h.st.pol
 rw [hps] at hpol
 obtain ⟨hp,hc0,hst⟩:=hpol
 have HF:=Lib.hid (fld9 w b)
 have hcl:=(head_row hc).lt
 have HLD:Hid (∀ W:World,Below w.heap.size w W->W.cell? ⟨b,3,none⟩=some (.int .i64 (s.c:Nat))/\W.cell? ⟨b,4,none⟩=some (.slice x.i9.F x.i9.n x.i9.c)/\W.cell? ⟨b,5,none⟩=some (.slice x.o9.F x.o9.n x.o9.c)/\W.cell? ⟨b,6,none⟩=some (.slice x.m9.F x.m9.n x.m9.c)/\W.cell? ⟨g,2,none⟩=some (.func (.func 68) #[] #[])):=Lib.hid (fun W hW=>by
  obtain ⟨-,-,-,p3,p4,p5,p6,-⟩:=box_cells ((hW.block b hb).trans h.box)
  rw [hc0] at p3
  exact ⟨p3,p4,p5,p6,(head_row ((hW.block g hcl).trans hc)).cell (i:=2) (by simp)⟩)
 have HFR:Hid (∀ W:World,Below w.heap.size w W->W.frozen? ⟨b,3,none⟩=false/\W.frozen? ⟨b,4,none⟩=false/\W.frozen? ⟨b,5,none⟩=false/\W.frozen? ⟨b,6,none⟩=false):=Lib.hid (fun W hW=>⟨box_free ((hW.block b hb).trans h.box) 3,box_free ((hW.block b hb).trans h.box) 4,box_free ((hW.block b hb).trans h.box) 5,box_free ((hW.block b hb).trans h.box) 6⟩)
 have HEND:Hid (∀ W F0 n0 d0 F1 n1 d1 F2 n2 d2,Below w.heap.size w W->St9 W (s.touch k) (.slice F0 n0 d0) (.slice F1 n1 d1) (.slice F2 n2 d2)->Ps w b m x (.twoq (s.touch k)) ((((W.setCell ⟨b,3,none⟩ (.int .i64 ((s.touch k).c:Nat))).setCell ⟨b,4,none⟩ (.slice F0 n0 d0)).setCell ⟨b,5,none⟩ (.slice F1 n1 d1)).setCell ⟨b,6,none⟩ (.slice F2 n2 d2))/\∀ o out,KV W o out->KV ((((W.setCell ⟨b,3,none⟩ (.int .i64 ((s.touch k).c:Nat))).setCell ⟨b,4,none⟩ (.slice F0 n0 d0)).setCell ⟨b,5,none⟩ (.slice F1 n1 d1)).setCell ⟨b,6,none⟩ (.slice F2 n2 d2)) o out):=Lib.hid (fun W F0 n0 d0 F1 n1 d1 F2 n2 d2 hW hs=>by
  obtain ⟨h1,h2⟩:=box_set9 ((h.below hW).box) ((s.touch k).c:Nat) F0 n0 d0 F1 n1 d1 F2 n2 d2
  have h3:=(h.below hW).st.only h2 (h.below hW).bx
  exact ⟨⟨(Only.of_below hW).trans h2 (by simp),{ x with c9:=((s.touch k).c:Nat),i9:=⟨F0,n0,d0⟩,o9:=⟨F1,n1,d1⟩,m9:=⟨F2,n2,d2⟩ },rfl,⟨h1,h.ty,⟨⟨hp,rfl,⟨hs.g1.only h2 (h.below hW).bx,hs.g2.only h2 (h.below hW).bx,hs.g3.only h2 (h.below hW).bx⟩⟩,h3.prs,h3.hi,h3.mi,h3.ev⟩⟩⟩,fun o out ho=>ho.only h2 (h.below hW).bx⟩)
 have c0:w.cell? ⟨g,0,none⟩=some (.func (.func 66) #[] #[]):=(head_row hc).cell (i:=0) (by simp)
 obtain ⟨k0,k1,k2,k3,k4⟩:=HLD.out w (Below.refl _ _)
 have KT:Hid (∀ W,Below w.heap.size w W->Calls Tryz.prog 68 #[(.agg (l9C s.c (.slice x.i9.F x.i9.n x.i9.c) (.slice x.o9.F x.o9.n x.o9.c) (.slice x.m9.F x.m9.n x.m9.c))),.int .u64 (k:Nat)] W (P9 W (s.touch k))):=Lib.hid (fun W hW=>PO.touch (hst.below hW) ok k hk)
 clear hst hc0 hp h hps hc
 go_enter Tryz.func152,Tryz.ntmps152
 go_wp2_with (go_at_call 66;refine HF.out.mono ?_;rintro e w1 ⟨rfl,rfl⟩)
 go_region_with (go_at_call 68;refine (KT.out _ (below_drewn (Below.refl _ _) _)).mono ?_;rintro e w5 ⟨u50,u51,u52,rfl,hb5,hk5⟩;obtain ⟨F50,n50,d50,rfl⟩:=hk5.form1;obtain ⟨F51,n51,d51,rfl⟩:=hk5.form2;obtain ⟨F52,n52,d52,rfl⟩:=hk5.form3;have hbA:=(below_drewn (Below.refl w1.heap.size w1) _).trans hb5;obtain ⟨z0,z1,z2,z3⟩:=HFR.out w5 hbA;obtain ⟨k0,k1,k2,k3,k4⟩:=HLD.out w5 hbA)
 all_goals
  go_wp2
  go_end0
  exact ⟨rfl,(HEND.out _ _ _ _ _ _ _ _ _ _ hbA hk5).1⟩
set_option maxHeartbeats 2000000 in
theorem adm9c (PO:Pol9Ok) (hc:w.heap[g]? = some (.cells cl9C CT9 (0,0))) (h:S13 w PT13 b m x) (hps:m.ps = .twoq s) (ok:s.Ok) (k:Nat) (hk:k < 18446744073709551616) :
  Calls Tryz.prog 153 #[.pointer (some ⟨b,0,none⟩),.int .u64 (k:Nat),.pointer (some ⟨g,0,none⟩)] w fun e w'=>∃ v,e = .returned v/\Ps w b m x (.twoq (s.adm k)) w'/\KV w' v (s.admitOut k):=by
 have hb:=h.lt
 have hpol:=h.st.pol
 rw [hps] at hpol
 obtain ⟨hp,hc0,hst⟩:=hpol
 have HF:=Lib.hid (fld9 w b)
 have hcl:=(head_row hc).lt
 have HLD:Hid (∀ W:World,Below w.heap.size w W->W.cell? ⟨b,3,none⟩=some (.int .i64 (s.c:Nat))/\W.cell? ⟨b,4,none⟩=some (.slice x.i9.F x.i9.n x.i9.c)/\W.cell? ⟨b,5,none⟩=some (.slice x.o9.F x.o9.n x.o9.c)/\W.cell? ⟨b,6,none⟩=some (.slice x.m9.F x.m9.n x.m9.c)/\W.cell? ⟨g,3,none⟩=some (.func (.func 69) #[] #[])):=Lib.hid (fun W hW=>by
  obtain ⟨-,-,-,p3,p4,p5,p6,-⟩:=box_cells ((hW.block b hb).trans h.box)
  rw [hc0] at p3
  exact ⟨p3,p4,p5,p6,(head_row ((hW.block g hcl).trans hc)).cell (i:=3) (by simp)⟩)
 have HFR:Hid (∀ W:World,Below w.heap.size w W->W.frozen? ⟨b,3,none⟩=false/\W.frozen? ⟨b,4,none⟩=false/\W.frozen? ⟨b,5,none⟩=false/\W.frozen? ⟨b,6,none⟩=false):=Lib.hid (fun W hW=>⟨box_free ((hW.block b hb).trans h.box) 3,box_free ((hW.block b hb).trans h.box) 4,box_free ((hW.block b hb).trans h.box) 5,box_free ((hW.block b hb).trans h.box) 6⟩)
 have HEND:Hid (∀ W F0 n0 d0 F1 n1 d1 F2 n2 d2,Below w.heap.size w W->St9 W (s.adm k) (.slice F0 n0 d0) (.slice F1 n1 d1) (.slice F2 n2 d2)->Ps w b m x (.twoq (s.adm k)) ((((W.setCell ⟨b,3,none⟩ (.int .i64 ((s.adm k).c:Nat))).setCell ⟨b,4,none⟩ (.slice F0 n0 d0)).setCell ⟨b,5,none⟩ (.slice F1 n1 d1)).setCell ⟨b,6,none⟩ (.slice F2 n2 d2))/\∀ o out,KV W o out->KV ((((W.setCell ⟨b,3,none⟩ (.int .i64 ((s.adm k).c:Nat))).setCell ⟨b,4,none⟩ (.slice F0 n0 d0)).setCell ⟨b,5,none⟩ (.slice F1 n1 d1)).setCell ⟨b,6,none⟩ (.slice F2 n2 d2)) o out):=Lib.hid (fun W F0 n0 d0 F1 n1 d1 F2 n2 d2 hW hs=>by
  obtain ⟨h1,h2⟩:=box_set9 ((h.below hW).box) ((s.adm k).c:Nat) F0 n0 d0 F1 n1 d1 F2 n2 d2
  have h3:=(h.below hW).st.only h2 (h.below hW).bx
  exact ⟨⟨(Only.of_below hW).trans h2 (by simp),{ x with c9:=((s.adm k).c:Nat),i9:=⟨F0,n0,d0⟩,o9:=⟨F1,n1,d1⟩,m9:=⟨F2,n2,d2⟩ },rfl,⟨h1,h.ty,⟨⟨hp,rfl,⟨hs.g1.only h2 (h.below hW).bx,hs.g2.only h2 (h.below hW).bx,hs.g3.only h2 (h.below hW).bx⟩⟩,h3.prs,h3.hi,h3.mi,h3.ev⟩⟩⟩,fun o out ho=>ho.only h2 (h.below hW).bx⟩)
 have c0:w.cell? ⟨g,0,none⟩=some (.func (.func 66) #[] #[]):=(head_row hc).cell (i:=0) (by simp)
 obtain ⟨k0,k1,k2,k3,k4⟩:=HLD.out w (Below.refl _ _)
 have KT:Hid (∀ W,Below w.heap.size w W->Calls Tryz.prog 69 #[(.agg (l9C s.c (.slice x.i9.F x.i9.n x.i9.c) (.slice x.o9.F x.o9.n x.o9.c) (.slice x.m9.F x.m9.n x.m9.c))),.int .u64 (k:Nat)] W (P9o W (s.adm k) (s.admitOut k))):=Lib.hid (fun W hW=>PO.adm (hst.below hW) ok k hk)
 clear hst hc0 hp h hps hc
 go_enter Tryz.func153,Tryz.ntmps153
 go_wp2_with (go_at_call 66;refine HF.out.mono ?_;rintro e w1 ⟨rfl,rfl⟩)
 go_region_with (go_at_call 69;refine (KT.out _ (below_drewn (Below.refl _ _) _)).mono ?_;rintro e w5 ⟨u50,u51,u52,o5,he,hb5,hk5,ho5⟩;obtain ⟨F50,n50,d50,rfl⟩:=hk5.form1;obtain ⟨F51,n51,d51,rfl⟩:=hk5.form2;obtain ⟨F52,n52,d52,rfl⟩:=hk5.form3;subst he;have hbA:=(below_drewn (Below.refl w1.heap.size w1) _).trans hb5;obtain ⟨z0,z1,z2,z3⟩:=HFR.out w5 hbA;obtain ⟨k0,k1,k2,k3,k4⟩:=HLD.out w5 hbA)
 all_goals
  go_wp2
  go_ret
  exact ⟨_,rfl,(HEND.out _ _ _ _ _ _ _ _ _ _ hbA hk5).1,(HEND.out _ _ _ _ _ _ _ _ _ _ hbA hk5).2 _ _ ho5⟩
set_option maxHeartbeats 2000000 in
theorem drop9c (PO:Pol9Ok) (hc:w.heap[g]? = some (.cells cl9C CT9 (0,0))) (h:S13 w PT13 b m x) (hps:m.ps = .twoq s) (ok:s.Ok) (k:Nat) (hk:k < 18446744073709551616) :
  Calls Tryz.prog 154 #[.pointer (some ⟨b,0,none⟩),.int .u64 (k:Nat),.pointer (some ⟨g,0,none⟩)] w fun e w'=>e = .returned (.tuple #[])/\Ps w b m x (.twoq (s.drop k)) w':=by
 have hb:=h.lt
 have hpol:=h.st.pol
 rw [hps] at hpol
 obtain ⟨hp,hc0,hst⟩:=hpol
 have HF:=Lib.hid (fld9 w b)
 have hcl:=(head_row hc).lt
 have HLD:Hid (∀ W:World,Below w.heap.size w W->W.cell? ⟨b,3,none⟩=some (.int .i64 (s.c:Nat))/\W.cell? ⟨b,4,none⟩=some (.slice x.i9.F x.i9.n x.i9.c)/\W.cell? ⟨b,5,none⟩=some (.slice x.o9.F x.o9.n x.o9.c)/\W.cell? ⟨b,6,none⟩=some (.slice x.m9.F x.m9.n x.m9.c)/\W.cell? ⟨g,4,none⟩=some (.func (.func 70) #[] #[])):=Lib.hid (fun W hW=>by
  obtain ⟨-,-,-,p3,p4,p5,p6,-⟩:=box_cells ((hW.block b hb).trans h.box)
  rw [hc0] at p3
  exact ⟨p3,p4,p5,p6,(head_row ((hW.block g hcl).trans hc)).cell (i:=4) (by simp)⟩)
 have HFR:Hid (∀ W:World,Below w.heap.size w W->W.frozen? ⟨b,3,none⟩=false/\W.frozen? ⟨b,4,none⟩=false/\W.frozen? ⟨b,5,none⟩=false/\W.frozen? ⟨b,6,none⟩=false):=Lib.hid (fun W hW=>⟨box_free ((hW.block b hb).trans h.box) 3,box_free ((hW.block b hb).trans h.box) 4,box_free ((hW.block b hb).trans h.box) 5,box_free ((hW.block b hb).trans h.box) 6⟩)
 have HEND:Hid (∀ W F0 n0 d0 F1 n1 d1 F2 n2 d2,Below w.heap.size w W->St9 W (s.drop k) (.slice F0 n0 d0) (.slice F1 n1 d1) (.slice F2 n2 d2)->Ps w b m x (.twoq (s.drop k)) ((((W.setCell ⟨b,3,none⟩ (.int .i64 ((s.drop k).c:Nat))).setCell ⟨b,4,none⟩ (.slice F0 n0 d0)).setCell ⟨b,5,none⟩ (.slice F1 n1 d1)).setCell ⟨b,6,none⟩ (.slice F2 n2 d2))/\∀ o out,KV W o out->KV ((((W.setCell ⟨b,3,none⟩ (.int .i64 ((s.drop k).c:Nat))).setCell ⟨b,4,none⟩ (.slice F0 n0 d0)).setCell ⟨b,5,none⟩ (.slice F1 n1 d1)).setCell ⟨b,6,none⟩ (.slice F2 n2 d2)) o out):=Lib.hid (fun W F0 n0 d0 F1 n1 d1 F2 n2 d2 hW hs=>by
  obtain ⟨h1,h2⟩:=box_set9 ((h.below hW).box) ((s.drop k).c:Nat) F0 n0 d0 F1 n1 d1 F2 n2 d2
  have h3:=(h.below hW).st.only h2 (h.below hW).bx
  exact ⟨⟨(Only.of_below hW).trans h2 (by simp),{ x with c9:=((s.drop k).c:Nat),i9:=⟨F0,n0,d0⟩,o9:=⟨F1,n1,d1⟩,m9:=⟨F2,n2,d2⟩ },rfl,⟨h1,h.ty,⟨⟨hp,rfl,⟨hs.g1.only h2 (h.below hW).bx,hs.g2.only h2 (h.below hW).bx,hs.g3.only h2 (h.below hW).bx⟩⟩,h3.prs,h3.hi,h3.mi,h3.ev⟩⟩⟩,fun o out ho=>ho.only h2 (h.below hW).bx⟩)
 have c0:w.cell? ⟨g,0,none⟩=some (.func (.func 66) #[] #[]):=(head_row hc).cell (i:=0) (by simp)
 obtain ⟨k0,k1,k2,k3,k4⟩:=HLD.out w (Below.refl _ _)
 have KT:Hid (∀ W,Below w.heap.size w W->Calls Tryz.prog 70 #[(.agg (l9C s.c (.slice x.i9.F x.i9.n x.i9.c) (.slice x.o9.F x.o9.n x.o9.c) (.slice x.m9.F x.m9.n x.m9.c))),.int .u64 (k:Nat)] W (P9 W (s.drop k))):=Lib.hid (fun W hW=>PO.drop (hst.below hW) ok k hk)
 clear hst hc0 hp h hps hc
 go_enter Tryz.func154,Tryz.ntmps154
 go_wp2_with (go_at_call 66;refine HF.out.mono ?_;rintro e w1 ⟨rfl,rfl⟩)
 go_region_with (go_at_call 70;refine (KT.out _ (below_drewn (Below.refl _ _) _)).mono ?_;rintro e w5 ⟨u50,u51,u52,rfl,hb5,hk5⟩;obtain ⟨F50,n50,d50,rfl⟩:=hk5.form1;obtain ⟨F51,n51,d51,rfl⟩:=hk5.form2;obtain ⟨F52,n52,d52,rfl⟩:=hk5.form3;have hbA:=(below_drewn (Below.refl w1.heap.size w1) _).trans hb5;obtain ⟨z0,z1,z2,z3⟩:=HFR.out w5 hbA;obtain ⟨k0,k1,k2,k3,k4⟩:=HLD.out w5 hbA)
 all_goals
  go_wp2
  go_end0
  exact ⟨rfl,(HEND.out _ _ _ _ _ _ _ _ _ _ hbA hk5).1⟩
set_option maxHeartbeats 2000000 in
theorem resize9c (PO:Pol9Ok) (hc:w.heap[g]? = some (.cells cl9C CT9 (0,0))) (h:S13 w PT13 b m x) (hps:m.ps = .twoq s) (ok:s.Ok) (n:Int) (hn1 : -9223372036854775808<=n) (hn2:n<=9223372036854775807) :
  Calls Tryz.prog 149 #[.pointer (some ⟨b,0,none⟩),.int .i64 n,.pointer (some ⟨g,0,none⟩)] w fun e w'=>∃ v,e = .returned v/\Ps w b m x (.twoq (s.resize n)) w'/\KV w' v (s.resizeOut n):=by
 have hb:=h.lt
 have hpol:=h.st.pol
 rw [hps] at hpol
 obtain ⟨hp,hc0,hst⟩:=hpol
 have HF:=Lib.hid (fld9 w b)
 have hcl:=(head_row hc).lt
 have HLD:Hid (∀ W:World,Below w.heap.size w W->W.cell? ⟨b,3,none⟩=some (.int .i64 (s.c:Nat))/\W.cell? ⟨b,4,none⟩=some (.slice x.i9.F x.i9.n x.i9.c)/\W.cell? ⟨b,5,none⟩=some (.slice x.o9.F x.o9.n x.o9.c)/\W.cell? ⟨b,6,none⟩=some (.slice x.m9.F x.m9.n x.m9.c)/\W.cell? ⟨g,5,none⟩=some (.func (.func 71) #[] #[])):=Lib.hid (fun W hW=>by
  obtain ⟨-,-,-,p3,p4,p5,p6,-⟩:=box_cells ((hW.block b hb).trans h.box)
  rw [hc0] at p3
  exact ⟨p3,p4,p5,p6,(head_row ((hW.block g hcl).trans hc)).cell (i:=5) (by simp)⟩)
 have HFR:Hid (∀ W:World,Below w.heap.size w W->W.frozen? ⟨b,3,none⟩=false/\W.frozen? ⟨b,4,none⟩=false/\W.frozen? ⟨b,5,none⟩=false/\W.frozen? ⟨b,6,none⟩=false):=Lib.hid (fun W hW=>⟨box_free ((hW.block b hb).trans h.box) 3,box_free ((hW.block b hb).trans h.box) 4,box_free ((hW.block b hb).trans h.box) 5,box_free ((hW.block b hb).trans h.box) 6⟩)
 have HEND:Hid (∀ W F0 n0 d0 F1 n1 d1 F2 n2 d2,Below w.heap.size w W->St9 W (s.resize n) (.slice F0 n0 d0) (.slice F1 n1 d1) (.slice F2 n2 d2)->Ps w b m x (.twoq (s.resize n)) ((((W.setCell ⟨b,3,none⟩ (.int .i64 ((s.resize n).c:Nat))).setCell ⟨b,4,none⟩ (.slice F0 n0 d0)).setCell ⟨b,5,none⟩ (.slice F1 n1 d1)).setCell ⟨b,6,none⟩ (.slice F2 n2 d2))/\∀ o out,KV W o out->KV ((((W.setCell ⟨b,3,none⟩ (.int .i64 ((s.resize n).c:Nat))).setCell ⟨b,4,none⟩ (.slice F0 n0 d0)).setCell ⟨b,5,none⟩ (.slice F1 n1 d1)).setCell ⟨b,6,none⟩ (.slice F2 n2 d2)) o out):=Lib.hid (fun W F0 n0 d0 F1 n1 d1 F2 n2 d2 hW hs=>by
  obtain ⟨h1,h2⟩:=box_set9 ((h.below hW).box) ((s.resize n).c:Nat) F0 n0 d0 F1 n1 d1 F2 n2 d2
  have h3:=(h.below hW).st.only h2 (h.below hW).bx
  exact ⟨⟨(Only.of_below hW).trans h2 (by simp),{ x with c9:=((s.resize n).c:Nat),i9:=⟨F0,n0,d0⟩,o9:=⟨F1,n1,d1⟩,m9:=⟨F2,n2,d2⟩ },rfl,⟨h1,h.ty,⟨⟨hp,rfl,⟨hs.g1.only h2 (h.below hW).bx,hs.g2.only h2 (h.below hW).bx,hs.g3.only h2 (h.below hW).bx⟩⟩,h3.prs,h3.hi,h3.mi,h3.ev⟩⟩⟩,fun o out ho=>ho.only h2 (h.below hW).bx⟩)
 have c0:w.cell? ⟨g,0,none⟩=some (.func (.func 66) #[] #[]):=(head_row hc).cell (i:=0) (by simp)
 obtain ⟨k0,k1,k2,k3,k4⟩:=HLD.out w (Below.refl _ _)
 have KT:Hid (∀ W,Below w.heap.size w W->Calls Tryz.prog 71 #[(.agg (l9C s.c (.slice x.i9.F x.i9.n x.i9.c) (.slice x.o9.F x.o9.n x.o9.c) (.slice x.m9.F x.m9.n x.m9.c))),.int .i64 n] W (P9o W (s.resize n) (s.resizeOut n))):=Lib.hid (fun W hW=>PO.resize (hst.below hW) ok n hn1 hn2)
 clear hst hc0 hp h hps hc
 go_enter Tryz.func149,Tryz.ntmps149
 go_wp2_with (go_at_call 66;refine HF.out.mono ?_;rintro e w1 ⟨rfl,rfl⟩)
 go_region_with (go_at_call 71;refine (KT.out _ (below_drewn (Below.refl _ _) _)).mono ?_;rintro e w5 ⟨u50,u51,u52,o5,he,hb5,hk5,ho5⟩;obtain ⟨F50,n50,d50,rfl⟩:=hk5.form1;obtain ⟨F51,n51,d51,rfl⟩:=hk5.form2;obtain ⟨F52,n52,d52,rfl⟩:=hk5.form3;subst he;have hbA:=(below_drewn (Below.refl w1.heap.size w1) _).trans hb5;obtain ⟨z0,z1,z2,z3⟩:=HFR.out w5 hbA;obtain ⟨k0,k1,k2,k3,k4⟩:=HLD.out w5 hbA)
 all_goals
  go_wp2
  go_ret
  exact ⟨_,rfl,(HEND.out _ _ _ _ _ _ _ _ _ _ hbA hk5).1,(HEND.out _ _ _ _ _ _ _ _ _ _ hbA hk5).2 _ _ ho5⟩
end
set_option maxRecDepth 8000
section
variable {w:World} {b g:Nat} {m:M13} {x:V13} {s:L9}
set_option maxHeartbeats 2000000 in
theorem has9c (PO:Pol9Ok) (hc:w.heap[g]? = some (.cells cl9C CT9 (0,0))) (h:S13 w PT13 b m x) (hps:m.ps = .twoq s) (ok:s.Ok) (k:Nat) (hk:k < 18446744073709551616) :
  Calls Tryz.prog 155 #[.pointer (some ⟨b,0,none⟩),.int .u64 (k:Nat),.pointer (some ⟨g,0,none⟩)] w (RetB w (decide (k∈s.keys))):=by
 have hb:=h.lt
 have hpol:=h.st.pol
 rw [hps] at hpol
 obtain ⟨hp,hc0,hst⟩:=hpol
 have HF:=Lib.hid (fld9 w b)
 have hcl:=(head_row hc).lt
 have HLD:Hid (∀ W:World,Below w.heap.size w W->W.cell? ⟨b,3,none⟩=some (.int .i64 (s.c:Nat))/\W.cell? ⟨b,4,none⟩=some (.slice x.i9.F x.i9.n x.i9.c)/\W.cell? ⟨b,5,none⟩=some (.slice x.o9.F x.o9.n x.o9.c)/\W.cell? ⟨b,6,none⟩=some (.slice x.m9.F x.m9.n x.m9.c)/\W.cell? ⟨g,6,none⟩=some (.func (.func 72) #[] #[])):=Lib.hid (fun W hW=>by
  obtain ⟨-,-,-,p3,p4,p5,p6,-⟩:=box_cells ((hW.block b hb).trans h.box)
  rw [hc0] at p3
  exact ⟨p3,p4,p5,p6,(head_row ((hW.block g hcl).trans hc)).cell (i:=6) (by simp)⟩)
 have c0:w.cell? ⟨g,0,none⟩=some (.func (.func 66) #[] #[]):=(head_row hc).cell (i:=0) (by simp)
 obtain ⟨k0,k1,k2,k3,k4⟩:=HLD.out w (Below.refl _ _)
 have KT:Hid (∀ W,Below w.heap.size w W->Calls Tryz.prog 72 #[(.agg (l9C s.c (.slice x.i9.F x.i9.n x.i9.c) (.slice x.o9.F x.o9.n x.o9.c) (.slice x.m9.F x.m9.n x.m9.c))),.int .u64 (k:Nat)] W (RetB W (decide (k∈s.keys)))):=Lib.hid (fun W hW=>PO.has (hst.below hW) ok k hk)
 have HL5:Hid (∀ W:World,Below w.heap.size w W->W.cell? ⟨b,3,none⟩=some (.int .i64 (s.c:Nat))/\W.cell? ⟨b,4,none⟩=some (.slice x.i9.F x.i9.n x.i9.c)/\W.cell? ⟨b,5,none⟩=some (.slice x.o9.F x.o9.n x.o9.c)/\W.cell? ⟨b,6,none⟩=some (.slice x.m9.F x.m9.n x.m9.c)/\W.cell? ⟨g,6,none⟩=some (.func (.func 72) #[] #[])/\W.cell? ⟨g,0,none⟩=some (.func (.func 66) #[] #[])):=Lib.hid (fun W hW=>by
  obtain ⟨j0,j1,j2,j3,j4⟩:=HLD.out W hW
  exact ⟨j0,j1,j2,j3,j4,(head_row ((hW.block g hcl).trans hc)).cell (i:=0) (by simp)⟩)
 clear hst hc0 hp h hps hc
 go_enter Tryz.func155,Tryz.ntmps155
 go_wp2_with fail
 go_region_held3 (fun w'=>w'.cell? ⟨b,3,none⟩=some (.int .i64 (s.c:Nat))/\w'.cell? ⟨b,4,none⟩=some (.slice x.i9.F x.i9.n x.i9.c)/\w'.cell? ⟨b,5,none⟩=some (.slice x.o9.F x.o9.n x.o9.c)/\w'.cell? ⟨b,6,none⟩=some (.slice x.m9.F x.m9.n x.m9.c)/\w'.cell? ⟨g,6,none⟩=some (.func (.func 72) #[] #[])/\w'.cell? ⟨g,0,none⟩=some (.func (.func 66) #[] #[]))
  (first | with_reducible exact kk5 | go_keep)
  (first
  | (go_at_call 66;refine (fld9 _ b).mono ?_;rintro e w1 ⟨rfl,rfl⟩)
  | (go_at_call 72;refine (KT.out _ (below_drewn (Below.refl _ _) _)).mono ?_;rintro e w5 ⟨rfl,hb5⟩;have hbA:=(below_drewn (Below.refl w.heap.size w) _).trans hb5;have kk5:=HL5.out w5 hbA))
 all_goals
  go_wp2
  go_ret
  exact ⟨rfl,hbA⟩
set_option maxHeartbeats 2000000 in
theorem keys9c (PO:Pol9Ok) (hc:w.heap[g]? = some (.cells cl9C CT9 (0,0))) (h:S13 w PT13 b m x) (hps:m.ps = .twoq s) (ok:s.Ok)  :
  Calls Tryz.prog 156 #[.pointer (some ⟨b,0,none⟩),.pointer (some ⟨g,0,none⟩)] w (RetK w s.keys):=by
 have hb:=h.lt
 have hpol:=h.st.pol
 rw [hps] at hpol
 obtain ⟨hp,hc0,hst⟩:=hpol
 have HF:=Lib.hid (fld9 w b)
 have hcl:=(head_row hc).lt
 have HLD:Hid (∀ W:World,Below w.heap.size w W->W.cell? ⟨b,3,none⟩=some (.int .i64 (s.c:Nat))/\W.cell? ⟨b,4,none⟩=some (.slice x.i9.F x.i9.n x.i9.c)/\W.cell? ⟨b,5,none⟩=some (.slice x.o9.F x.o9.n x.o9.c)/\W.cell? ⟨b,6,none⟩=some (.slice x.m9.F x.m9.n x.m9.c)/\W.cell? ⟨g,7,none⟩=some (.func (.func 73) #[] #[])):=Lib.hid (fun W hW=>by
  obtain ⟨-,-,-,p3,p4,p5,p6,-⟩:=box_cells ((hW.block b hb).trans h.box)
  rw [hc0] at p3
  exact ⟨p3,p4,p5,p6,(head_row ((hW.block g hcl).trans hc)).cell (i:=7) (by simp)⟩)
 have c0:w.cell? ⟨g,0,none⟩=some (.func (.func 66) #[] #[]):=(head_row hc).cell (i:=0) (by simp)
 obtain ⟨k0,k1,k2,k3,k4⟩:=HLD.out w (Below.refl _ _)
 have KT:Hid (∀ W,Below w.heap.size w W->Calls Tryz.prog 73 #[(.agg (l9C s.c (.slice x.i9.F x.i9.n x.i9.c) (.slice x.o9.F x.o9.n x.o9.c) (.slice x.m9.F x.m9.n x.m9.c)))] W (RetK W s.keys)):=Lib.hid (fun W hW=>PO.keys (hst.below hW) ok)
 have HL5:Hid (∀ W:World,Below w.heap.size w W->W.cell? ⟨b,3,none⟩=some (.int .i64 (s.c:Nat))/\W.cell? ⟨b,4,none⟩=some (.slice x.i9.F x.i9.n x.i9.c)/\W.cell? ⟨b,5,none⟩=some (.slice x.o9.F x.o9.n x.o9.c)/\W.cell? ⟨b,6,none⟩=some (.slice x.m9.F x.m9.n x.m9.c)/\W.cell? ⟨g,7,none⟩=some (.func (.func 73) #[] #[])/\W.cell? ⟨g,0,none⟩=some (.func (.func 66) #[] #[])):=Lib.hid (fun W hW=>by
  obtain ⟨j0,j1,j2,j3,j4⟩:=HLD.out W hW
  exact ⟨j0,j1,j2,j3,j4,(head_row ((hW.block g hcl).trans hc)).cell (i:=0) (by simp)⟩)
 clear hst hc0 hp h hps hc
 go_enter Tryz.func156,Tryz.ntmps156
 go_wp2_with fail
 go_region_held3 (fun w'=>w'.cell? ⟨b,3,none⟩=some (.int .i64 (s.c:Nat))/\w'.cell? ⟨b,4,none⟩=some (.slice x.i9.F x.i9.n x.i9.c)/\w'.cell? ⟨b,5,none⟩=some (.slice x.o9.F x.o9.n x.o9.c)/\w'.cell? ⟨b,6,none⟩=some (.slice x.m9.F x.m9.n x.m9.c)/\w'.cell? ⟨g,7,none⟩=some (.func (.func 73) #[] #[])/\w'.cell? ⟨g,0,none⟩=some (.func (.func 66) #[] #[]))
  (first | with_reducible exact kk5 | go_keep)
  (first
  | (go_at_call 66;refine (fld9 _ b).mono ?_;rintro e w1 ⟨rfl,rfl⟩)
  | (go_at_call 73;refine (KT.out _ (below_drewn (Below.refl _ _) _)).mono ?_;rintro e w5 ⟨v5,rfl,hb5,hk5⟩;have hbA:=(below_drewn (Below.refl w.heap.size w) _).trans hb5;have kk5:=HL5.out w5 hbA))
 all_goals
  go_wp2
  go_ret
  exact ⟨_,rfl,hbA,hk5⟩
set_option maxHeartbeats 2000000 in
theorem ghosts9c (PO:Pol9Ok) (hc:w.heap[g]? = some (.cells cl9C CT9 (0,0))) (h:S13 w PT13 b m x) (hps:m.ps = .twoq s) (ok:s.Ok)  :
  Calls Tryz.prog 157 #[.pointer (some ⟨b,0,none⟩),.pointer (some ⟨g,0,none⟩)] w (fun e w'=>e = .returned (.int .i64 (s.ghosts:Nat))/\Below w.heap.size w w'):=by
 have hb:=h.lt
 have hpol:=h.st.pol
 rw [hps] at hpol
 obtain ⟨hp,hc0,hst⟩:=hpol
 have HF:=Lib.hid (fld9 w b)
 have hcl:=(head_row hc).lt
 have HLD:Hid (∀ W:World,Below w.heap.size w W->W.cell? ⟨b,3,none⟩=some (.int .i64 (s.c:Nat))/\W.cell? ⟨b,4,none⟩=some (.slice x.i9.F x.i9.n x.i9.c)/\W.cell? ⟨b,5,none⟩=some (.slice x.o9.F x.o9.n x.o9.c)/\W.cell? ⟨b,6,none⟩=some (.slice x.m9.F x.m9.n x.m9.c)/\W.cell? ⟨g,8,none⟩=some (.func (.func 74) #[] #[])):=Lib.hid (fun W hW=>by
  obtain ⟨-,-,-,p3,p4,p5,p6,-⟩:=box_cells ((hW.block b hb).trans h.box)
  rw [hc0] at p3
  exact ⟨p3,p4,p5,p6,(head_row ((hW.block g hcl).trans hc)).cell (i:=8) (by simp)⟩)
 have c0:w.cell? ⟨g,0,none⟩=some (.func (.func 66) #[] #[]):=(head_row hc).cell (i:=0) (by simp)
 obtain ⟨k0,k1,k2,k3,k4⟩:=HLD.out w (Below.refl _ _)
 have KT:Hid (∀ W,Below w.heap.size w W->Calls Tryz.prog 74 #[(.agg (l9C s.c (.slice x.i9.F x.i9.n x.i9.c) (.slice x.o9.F x.o9.n x.o9.c) (.slice x.m9.F x.m9.n x.m9.c)))] W (fun e w'=>e = .returned (.int .i64 (s.ghosts:Nat))/\Below W.heap.size W w')):=Lib.hid (fun W hW=>PO.ghosts (hst.below hW) ok)
 have HL5:Hid (∀ W:World,Below w.heap.size w W->W.cell? ⟨b,3,none⟩=some (.int .i64 (s.c:Nat))/\W.cell? ⟨b,4,none⟩=some (.slice x.i9.F x.i9.n x.i9.c)/\W.cell? ⟨b,5,none⟩=some (.slice x.o9.F x.o9.n x.o9.c)/\W.cell? ⟨b,6,none⟩=some (.slice x.m9.F x.m9.n x.m9.c)/\W.cell? ⟨g,8,none⟩=some (.func (.func 74) #[] #[])/\W.cell? ⟨g,0,none⟩=some (.func (.func 66) #[] #[])):=Lib.hid (fun W hW=>by
  obtain ⟨j0,j1,j2,j3,j4⟩:=HLD.out W hW
  exact ⟨j0,j1,j2,j3,j4,(head_row ((hW.block g hcl).trans hc)).cell (i:=0) (by simp)⟩)
 clear hst hc0 hp h hps hc
 go_enter Tryz.func157,Tryz.ntmps157
 go_wp2_with fail
 go_region_held3 (fun w'=>w'.cell? ⟨b,3,none⟩=some (.int .i64 (s.c:Nat))/\w'.cell? ⟨b,4,none⟩=some (.slice x.i9.F x.i9.n x.i9.c)/\w'.cell? ⟨b,5,none⟩=some (.slice x.o9.F x.o9.n x.o9.c)/\w'.cell? ⟨b,6,none⟩=some (.slice x.m9.F x.m9.n x.m9.c)/\w'.cell? ⟨g,8,none⟩=some (.func (.func 74) #[] #[])/\w'.cell? ⟨g,0,none⟩=some (.func (.func 66) #[] #[]))
  (first | with_reducible exact kk5 | go_keep)
  (first
  | (go_at_call 66;refine (fld9 _ b).mono ?_;rintro e w1 ⟨rfl,rfl⟩)
  | (go_at_call 74;refine (KT.out _ (below_drewn (Below.refl _ _) _)).mono ?_;rintro e w5 ⟨rfl,hb5⟩;have hbA:=(below_drewn (Below.refl w.heap.size w) _).trans hb5;have kk5:=HL5.out w5 hbA))
 all_goals
  go_wp2
  go_ret
  exact ⟨rfl,hbA⟩
set_option maxHeartbeats 2000000 in
theorem caps9c (hc:w.heap[g]? = some (.cells cl9C CT9 (0,0))) (h:S13 w PT13 b m x) (hps:m.ps = .twoq s)  :
  Calls Tryz.prog 158 #[.pointer (some ⟨b,0,none⟩),.pointer (some ⟨g,0,none⟩)] w (fun e w'=>e = .returned (.int .i64 (s.c:Nat))/\Below w.heap.size w w'):=by
 have hb:=h.lt
 have hpol:=h.st.pol
 rw [hps] at hpol
 obtain ⟨hp,hc0,hst⟩:=hpol
 have HF:=Lib.hid (fld9 w b)
 have hcl:=(head_row hc).lt
 have HLD:Hid (∀ W:World,Below w.heap.size w W->W.cell? ⟨b,3,none⟩=some (.int .i64 (s.c:Nat))/\W.cell? ⟨b,4,none⟩=some (.slice x.i9.F x.i9.n x.i9.c)/\W.cell? ⟨b,5,none⟩=some (.slice x.o9.F x.o9.n x.o9.c)/\W.cell? ⟨b,6,none⟩=some (.slice x.m9.F x.m9.n x.m9.c)/\W.cell? ⟨g,9,none⟩=some (.func (.func 75) #[] #[])):=Lib.hid (fun W hW=>by
  obtain ⟨-,-,-,p3,p4,p5,p6,-⟩:=box_cells ((hW.block b hb).trans h.box)
  rw [hc0] at p3
  exact ⟨p3,p4,p5,p6,(head_row ((hW.block g hcl).trans hc)).cell (i:=9) (by simp)⟩)
 have c0:w.cell? ⟨g,0,none⟩=some (.func (.func 66) #[] #[]):=(head_row hc).cell (i:=0) (by simp)
 obtain ⟨k0,k1,k2,k3,k4⟩:=HLD.out w (Below.refl _ _)
 have KT:Hid (∀ W,Below w.heap.size w W->Calls Tryz.prog 75 #[(.agg (l9C s.c (.slice x.i9.F x.i9.n x.i9.c) (.slice x.o9.F x.o9.n x.o9.c) (.slice x.m9.F x.m9.n x.m9.c)))] W (fun e w'=>e = .returned (.int .i64 (s.c:Nat))/\Below W.heap.size W w')):=Lib.hid (fun W hW=>cap9 W s _ _ _ (⟨(hst.below hW).form1,(hst.below hW).form2,(hst.below hW).form3⟩))
 have HL5:Hid (∀ W:World,Below w.heap.size w W->W.cell? ⟨b,3,none⟩=some (.int .i64 (s.c:Nat))/\W.cell? ⟨b,4,none⟩=some (.slice x.i9.F x.i9.n x.i9.c)/\W.cell? ⟨b,5,none⟩=some (.slice x.o9.F x.o9.n x.o9.c)/\W.cell? ⟨b,6,none⟩=some (.slice x.m9.F x.m9.n x.m9.c)/\W.cell? ⟨g,9,none⟩=some (.func (.func 75) #[] #[])/\W.cell? ⟨g,0,none⟩=some (.func (.func 66) #[] #[])):=Lib.hid (fun W hW=>by
  obtain ⟨j0,j1,j2,j3,j4⟩:=HLD.out W hW
  exact ⟨j0,j1,j2,j3,j4,(head_row ((hW.block g hcl).trans hc)).cell (i:=0) (by simp)⟩)
 clear hst hc0 hp h hps hc
 go_enter Tryz.func158,Tryz.ntmps158
 go_wp2_with fail
 go_region_held3 (fun w'=>w'.cell? ⟨b,3,none⟩=some (.int .i64 (s.c:Nat))/\w'.cell? ⟨b,4,none⟩=some (.slice x.i9.F x.i9.n x.i9.c)/\w'.cell? ⟨b,5,none⟩=some (.slice x.o9.F x.o9.n x.o9.c)/\w'.cell? ⟨b,6,none⟩=some (.slice x.m9.F x.m9.n x.m9.c)/\w'.cell? ⟨g,9,none⟩=some (.func (.func 75) #[] #[])/\w'.cell? ⟨g,0,none⟩=some (.func (.func 66) #[] #[]))
  (first | with_reducible exact kk5 | go_keep)
  (first
  | (go_at_call 66;refine (fld9 _ b).mono ?_;rintro e w1 ⟨rfl,rfl⟩)
  | (go_at_call 75;refine (KT.out _ (below_drewn (Below.refl _ _) _)).mono ?_;rintro e w5 ⟨rfl,hb5⟩;have hbA:=(below_drewn (Below.refl w.heap.size w) _).trans hb5;have kk5:=HL5.out w5 hbA))
 all_goals
  go_wp2
  go_ret
  exact ⟨rfl,hbA⟩
end
set_option maxRecDepth 8000
section
variable {w:World} {b g:Nat} {m:M13} {x:V13} {s:L9}
set_option maxHeartbeats 4000000 in
theorem own9c (PO:Pol9Ok) (hc:w.heap[g]? = some (.cells cl9C CT9 (0,0))) (h:S13 w PT13 b m x) (hps:m.ps = .twoq s) (ok:s.Ok) {g2:Nat} (hr:w.heap[g2]? = some (.cells #[.func (.func 149) #[] #[.pointer (some ⟨g,0,none⟩)]] RT13_9 (0,0))) :
  Calls Tryz.prog 151 #[.pointer (some ⟨b,0,none⟩),.pointer (some ⟨g2,0,none⟩),.pointer (some ⟨g,0,none⟩)] w fun e w'=>e = .returned (.tuple #[])/\Ps w b m x (.twoq s) w':=by
 have hb:=h.lt
 have hpol:=h.st.pol
 rw [hps] at hpol
 obtain ⟨hp,hc0,hst⟩:=hpol
 have hcl:=(head_row hc).lt
 have hrl:=(head_row hr).lt
 have HSS:Hid (∀ W:World,Below w.heap.size w W->W.cell? ⟨g2,0,none⟩=some (.func (.func 149) #[] #[.pointer (some ⟨g,0,none⟩)])/\W.cell? ⟨g,0,none⟩=some (.func (.func 66) #[] #[])/\W.cell? ⟨g,9,none⟩=some (.func (.func 75) #[] #[])):=Lib.hid (fun W hW=>by
  exact ⟨(head_row ((hW.block g2 hrl).trans hr)).cell (i:=0) (by simp),(head_row ((hW.block g hcl).trans hc)).cell (i:=0) (by simp),(head_row ((hW.block g hcl).trans hc)).cell (i:=9) (by simp)⟩)
 have KC:Hid (∀ W F0 n0 d0 F1 n1 d1 F2 n2 d2,Calls Tryz.prog 75 #[.agg (l9C s.c (.slice F0 n0 d0) (.slice F1 n1 d1) (.slice F2 n2 d2))] W (fun e w'=>e = .returned (.int .i64 (s.c:Nat))/\Below W.heap.size W w')):=Lib.hid (fun W F0 n0 d0 F1 n1 d1 F2 n2 d2=>cap9 W s _ _ _ (⟨⟨F0,n0,d0,rfl⟩,⟨F1,n1,d1,rfl⟩,⟨F2,n2,d2,rfl⟩⟩))
 have hcap:=ok.cap
 have KR:Hid (∀ W,Below w.heap.size w W->Calls Tryz.prog 149 #[.pointer (some ⟨b,0,none⟩),.int .i64 (s.c:Nat),.pointer (some ⟨g,0,none⟩)] W (fun e w'=>∃ v,e = .returned v/\Ps w b m x (.twoq s) w')):=Lib.hid (fun W hW=>by
  refine (resize9c PO ((hW.block g hcl).trans hc) (h.below hW) hps ok (s.c:Nat) (by omega) (by omega)).mono ?_
  rintro e w' ⟨v,rfl,⟨h1,x',h2,h3⟩,_⟩
  rw [(L9.own ok).1] at h3
  exact ⟨v,rfl,⟨(Only.of_below hW).trans h1 (by simp),x',h2,h3⟩⟩)
 obtain ⟨k0,k1,k2⟩:=HSS.out w (Below.refl _ _)
 obtain ⟨-,-,-,p3,p4,p5,p6,-⟩:=box_cells h.box
 rw [hc0] at p3
 clear hst hc0 hp h hps hc hr hcap
 go_enter Tryz.func151,Tryz.ntmps151
 go_wp2_with fail
 go_region_with (first | (go_at_call 66;refine (fld9 _ b).mono ?_;rintro e w1 ⟨rfl,rfl⟩) | (go_at_call 75;refine (KC.out _ _ _ _ _ _ _ _ _ _).mono ?_;rintro e w5 ⟨rfl,hb5⟩;have hbA:=(below_drewn (Below.refl w.heap.size w) _).trans hb5;obtain ⟨k0,k1,k2⟩:=HSS.out w5 hbA) | (go_at_call 149;refine (KR.out _ hbA).mono ?_;rintro e w6 ⟨v6,rfl,hp6⟩))
 all_goals
  go_wp2
  go_end0
  exact ⟨rfl,hp6⟩
end
set_option maxRecDepth 8000
section
variable {w:World} {b g:Nat} {m:M13} {x:V13} {s:L9}
set_option maxHeartbeats 4000000 in
theorem start9c (PO:Pol9Ok) (hc:w.heap[g]? = some (.cells cl9C CT9 (0,0))) (h:w.heap[b]? = some (.cells x.C PT13 (0,0))) (hp:x.p=2) (n:Int) (hn1 : -9223372036854775808<=n) (hn2:n<=9223372036854775807) :
  Calls Tryz.prog 150 #[.pointer (some ⟨b,0,none⟩),.int .i64 n,.pointer (some ⟨g,0,none⟩)] w fun e w'=>e = .returned (.tuple #[])/\Only [b] w w'/\∃ x':V13,x'.pr=x.pr/\x'.p=x.p/\x'.hi=x.hi/\x'.mi=x.mi/\x'.ev=x.ev/\w'.heap[b]? = some (.cells x'.C PT13 (0,0))/\PolIn w' x' (.twoq (L9.new n)):=by
 have hb:=(head_row h).lt
 have hcl:=(head_row hc).lt
 have KT:Hid (∀ W,Below w.heap.size w W->Calls Tryz.prog 67 #[.int .i64 n] W (P9 W (L9.new n))):=Lib.hid (fun W _=>PO.new W n hn1 hn2)
 have HLD:Hid (∀ W:World,Below w.heap.size w W->W.cell? ⟨g,0,none⟩=some (.func (.func 66) #[] #[])/\W.cell? ⟨g,1,none⟩=some (.func (.func 67) #[] #[])):=Lib.hid (fun W hW=>⟨(head_row ((hW.block g hcl).trans hc)).cell (i:=0) (by simp),(head_row ((hW.block g hcl).trans hc)).cell (i:=1) (by simp)⟩)
 have HFR:Hid (∀ W:World,Below w.heap.size w W->(W.frozen? ⟨b,3,none⟩=false/\W.frozen? ⟨b,4,none⟩=false/\W.frozen? ⟨b,5,none⟩=false/\W.frozen? ⟨b,6,none⟩=false)/\∃ v3 v4 v5 v6,W.cell? ⟨b,3,none⟩=some v3/\W.cell? ⟨b,4,none⟩=some v4/\W.cell? ⟨b,5,none⟩=some v5/\W.cell? ⟨b,6,none⟩=some v6):=Lib.hid (fun W hW=>by
  obtain ⟨-,-,-,p3,p4,p5,p6,-⟩:=box_cells ((hW.block b hb).trans h)
  exact ⟨⟨box_free ((hW.block b hb).trans h) 3,box_free ((hW.block b hb).trans h) 4,box_free ((hW.block b hb).trans h) 5,box_free ((hW.block b hb).trans h) 6⟩,_,_,_,_,p3,p4,p5,p6⟩)
 obtain ⟨k0,k1⟩:=HLD.out w (Below.refl _ _)
 have HEND:Hid (∀ W F0 n0 d0 F1 n1 d1 F2 n2 d2,Below w.heap.size w W->St9 W (L9.new n) (.slice F0 n0 d0) (.slice F1 n1 d1) (.slice F2 n2 d2)->Only [b] w ((((W.setCell ⟨b,3,none⟩ (.int .i64 ((L9.new n).c:Nat))).setCell ⟨b,4,none⟩ (.slice F0 n0 d0)).setCell ⟨b,5,none⟩ (.slice F1 n1 d1)).setCell ⟨b,6,none⟩ (.slice F2 n2 d2))/\∃ x':V13,x'.pr=x.pr/\x'.p=x.p/\x'.hi=x.hi/\x'.mi=x.mi/\x'.ev=x.ev/\(((((W.setCell ⟨b,3,none⟩ (.int .i64 ((L9.new n).c:Nat))).setCell ⟨b,4,none⟩ (.slice F0 n0 d0)).setCell ⟨b,5,none⟩ (.slice F1 n1 d1)).setCell ⟨b,6,none⟩ (.slice F2 n2 d2))).heap[b]? = some (.cells x'.C PT13 (0,0))/\PolIn ((((W.setCell ⟨b,3,none⟩ (.int .i64 ((L9.new n).c:Nat))).setCell ⟨b,4,none⟩ (.slice F0 n0 d0)).setCell ⟨b,5,none⟩ (.slice F1 n1 d1)).setCell ⟨b,6,none⟩ (.slice F2 n2 d2)) x' (.twoq (L9.new n))):=Lib.hid (fun W F0 n0 d0 F1 n1 d1 F2 n2 d2 hW hs=>by
  have hbx:∀ j∈[b],Bx W j:=fun j hj=>by
   have e:j=b:=by simpa using hj
   rw [e]
   exact ⟨_,_,(hW.block b hb).trans h,x.nou,by decide⟩
  obtain ⟨h1,h2⟩:=box_set9 ((hW.block b hb).trans h) ((L9.new n).c:Nat) F0 n0 d0 F1 n1 d1 F2 n2 d2
  exact ⟨(Only.of_below hW).trans h2 (by simp),{ x with c9:=((L9.new n).c:Nat),i9:=⟨F0,n0,d0⟩,o9:=⟨F1,n1,d1⟩,m9:=⟨F2,n2,d2⟩ },rfl,rfl,rfl,rfl,rfl,h1,⟨hp,rfl,⟨hs.g1.only h2 hbx,hs.g2.only h2 hbx,hs.g3.only h2 hbx⟩⟩⟩)
 clear h hc hp
 go_enter Tryz.func150,Tryz.ntmps150
 go_wp2_with fail
 go_region_with (first | (go_at_call 66;refine (fld9 _ b).mono ?_;rintro e w1 ⟨rfl,rfl⟩) | (go_at_call 67;refine (KT.out _ (below_drewn (Below.refl _ _) _)).mono ?_;rintro e w5 ⟨u50,u51,u52,rfl,hb5,hk5⟩;obtain ⟨F50,n50,d50,rfl⟩:=hk5.form1;obtain ⟨F51,n51,d51,rfl⟩:=hk5.form2;obtain ⟨F52,n52,d52,rfl⟩:=hk5.form3;have hbA:=(below_drewn (Below.refl w.heap.size w) _).trans hb5;obtain ⟨k0,k1⟩:=HLD.out w5 hbA;obtain ⟨⟨z0,z1,z2,z3⟩,y3,y4,y5,y6,y'3,y'4,y'5,y'6⟩:=HFR.out w5 hbA))
 all_goals
  go_wp2
  go_end0
  exact ⟨rfl,HEND.out _ _ _ _ _ _ _ _ _ _ hbA hk5⟩
end
end Go.Proofs.YtcpggonengkgiaaGreatDoor
