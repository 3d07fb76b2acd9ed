/- Words and walks: McVA10 McVB10 McVC10 McVD10. -/
import Derived.Test.YtcpggonengkgiaaGreatDoorG30
import Derived.Test.YtcpggonengkgiaaGreatDoorG8
import Derived.Deep.RegionWith
import Derived.Deep.RegionHeld3
namespace Go.Proofs.YtcpggonengkgiaaGreatDoor
open Go Go.RowKit Go.Deep
set_option maxRecDepth 8000
abbrev CT10:TypeId:=164
abbrev RT13_10:TypeId:=93
abbrev cl10C:Array Value:=#[.func (.func 77) #[] #[],.func (.func 78) #[] #[],.func (.func 79) #[] #[],.func (.func 80) #[] #[],.func (.func 81) #[] #[],.func (.func 82) #[] #[],.func (.func 83) #[] #[],.func (.func 84) #[] #[],.func (.func 85) #[] #[],.func (.func 86) #[] #[]]
section
variable {w:World} {b g:Nat} {m:M13} {x:V13} {s:L10}
theorem fld10 (w:World) (b:Nat):Calls Tryz.prog 77 #[.pointer (some ⟨b,0,none⟩)] w fun e w'=>e = .returned (.pointer (some ⟨b,7,none⟩))/\w'=w:=by
 go_enter Tryz.func77,Tryz.ntmps77
 go_wp2
 go_ret
 exact ⟨rfl,rfl⟩
theorem cap10 (w:World) (s:L10) (u1 u2 u3:Value) (hf:(∃ F n d,u1 = .slice F n d)/\(∃ F n d,u2 = .slice F n d)/\(∃ F n d,u3 = .slice F n d)):Calls Tryz.prog 86 #[.agg (l10C s.c u1 u2 u3)] w fun e w'=>e = .returned (.int .i64 (s.c:Nat))/\Below w.heap.size w w':=by
 obtain ⟨⟨F0,n0,d0,rfl⟩,⟨F1,n1,d1,rfl⟩,⟨F2,n2,d2,rfl⟩⟩:=hf
 go_enter Tryz.func86,Tryz.ntmps86
 go_wp2
 go_ret
 exact ⟨rfl,low_one w _⟩
set_option maxHeartbeats 2000000 in
theorem touch10c (PO:Pol10Ok) (hc:w.heap[g]? = some (.cells cl10C CT10 (0,0))) (h:S13 w PT13 b m x) (hps:m.ps = .sthree s) (ok:s.Ok) (k:Nat) (hk:k < 18446744073709551616) :
  Calls Tryz.prog 166 #[.pointer (some ⟨b,0,none⟩),.int .u64 (k:Nat),.pointer (some ⟨g,0,none⟩)] w fun e w'=>e = .returned (.tuple #[])/\Ps w b m x (.sthree (s.touch k)) w':=by
 have hb:=h.lt
 have hpol:=h.st.pol
 rw [hps] at hpol
 obtain ⟨hp,hc0,hst⟩:=hpol
 have HF:=Lib.hid (fld10 w b)
 have hcl:=(head_row hc).lt
 have HLD:Hid (∀ W:World,Below w.heap.size w W->W.cell? ⟨b,7,none⟩=some (.int .i64 (s.c:Nat))/\W.cell? ⟨b,8,none⟩=some (.slice x.s10.F x.s10.n x.s10.c)/\W.cell? ⟨b,9,none⟩=some (.slice x.m10.F x.m10.n x.m10.c)/\W.cell? ⟨b,10,none⟩=some (.slice x.g10.F x.g10.n x.g10.c)/\W.cell? ⟨g,2,none⟩=some (.func (.func 79) #[] #[])):=Lib.hid (fun W hW=>by
  obtain ⟨-,-,-,-,-,-,-,p7,p8,p9,p10,-⟩:=box_cells ((hW.block b hb).trans h.box)
  rw [hc0] at p7
  exact ⟨p7,p8,p9,p10,(head_row ((hW.block g hcl).trans hc)).cell (i:=2) (by simp)⟩)
 have HFR:Hid (∀ W:World,Below w.heap.size w W->W.frozen? ⟨b,7,none⟩=false/\W.frozen? ⟨b,8,none⟩=false/\W.frozen? ⟨b,9,none⟩=false/\W.frozen? ⟨b,10,none⟩=false):=Lib.hid (fun W hW=>⟨box_free ((hW.block b hb).trans h.box) 7,box_free ((hW.block b hb).trans h.box) 8,box_free ((hW.block b hb).trans h.box) 9,box_free ((hW.block b hb).trans h.box) 10⟩)
 have HEND:Hid (∀ W F0 n0 d0 F1 n1 d1 F2 n2 d2,Below w.heap.size w W->St10 W (s.touch k) (.slice F0 n0 d0) (.slice F1 n1 d1) (.slice F2 n2 d2)->Ps w b m x (.sthree (s.touch k)) ((((W.setCell ⟨b,7,none⟩ (.int .i64 ((s.touch k).c:Nat))).setCell ⟨b,8,none⟩ (.slice F0 n0 d0)).setCell ⟨b,9,none⟩ (.slice F1 n1 d1)).setCell ⟨b,10,none⟩ (.slice F2 n2 d2))/\∀ o out,KV W o out->KV ((((W.setCell ⟨b,7,none⟩ (.int .i64 ((s.touch k).c:Nat))).setCell ⟨b,8,none⟩ (.slice F0 n0 d0)).setCell ⟨b,9,none⟩ (.slice F1 n1 d1)).setCell ⟨b,10,none⟩ (.slice F2 n2 d2)) o out):=Lib.hid (fun W F0 n0 d0 F1 n1 d1 F2 n2 d2 hW hs=>by
  obtain ⟨h1,h2⟩:=box_set10 ((h.below hW).box) ((s.touch k).c:Nat) F0 n0 d0 F1 n1 d1 F2 n2 d2
  have h3:=(h.below hW).st.only h2 (h.below hW).bx
  exact ⟨⟨(Only.of_below hW).trans h2 (by simp),{ x with c10:=((s.touch k).c:Nat),s10:=⟨F0,n0,d0⟩,m10:=⟨F1,n1,d1⟩,g10:=⟨F2,n2,d2⟩ },rfl,⟨h1,h.ty,⟨⟨hp,rfl,⟨hs.g1.only h2 (h.below hW).bx,hs.g2.only h2 (h.below hW).bx,hs.g3.only h2 (h.below hW).bx⟩⟩,h3.prs,h3.hi,h3.mi,h3.ev⟩⟩⟩,fun o out ho=>ho.only h2 (h.below hW).bx⟩)
 have c0:w.cell? ⟨g,0,none⟩=some (.func (.func 77) #[] #[]):=(head_row hc).cell (i:=0) (by simp)
 obtain ⟨k0,k1,k2,k3,k4⟩:=HLD.out w (Below.refl _ _)
 have KT:Hid (∀ W,Below w.heap.size w W->Calls Tryz.prog 79 #[(.agg (l10C s.c (.slice x.s10.F x.s10.n x.s10.c) (.slice x.m10.F x.m10.n x.m10.c) (.slice x.g10.F x.g10.n x.g10.c))),.int .u64 (k:Nat)] W (P10 W (s.touch k))):=Lib.hid (fun W hW=>PO.touch (hst.below hW) ok k hk)
 clear hst hc0 hp h hps hc
 go_enter Tryz.func166,Tryz.ntmps166
 go_wp2_with (go_at_call 77;refine HF.out.mono ?_;rintro e w1 ⟨rfl,rfl⟩)
 go_region_with (go_at_call 79;refine (KT.out _ (below_drewn (Below.refl _ _) _)).mono ?_;rintro e w5 ⟨u50,u51,u52,rfl,hb5,hk5⟩;obtain ⟨F50,n50,d50,rfl⟩:=hk5.form1;obtain ⟨F51,n51,d51,rfl⟩:=hk5.form2;obtain ⟨F52,n52,d52,rfl⟩:=hk5.form3;have hbA:=(below_drewn (Below.refl w1.heap.size w1) _).trans hb5;obtain ⟨z0,z1,z2,z3⟩:=HFR.out w5 hbA;obtain ⟨k0,k1,k2,k3,k4⟩:=HLD.out w5 hbA)
 all_goals
  go_wp2
  go_end0
  exact ⟨rfl,(HEND.out _ _ _ _ _ _ _ _ _ _ hbA hk5).1⟩
set_option maxHeartbeats 2000000 in
theorem adm10c (PO:Pol10Ok) (hc:w.heap[g]? = some (.cells cl10C CT10 (0,0))) (h:S13 w PT13 b m x) (hps:m.ps = .sthree s) (ok:s.Ok) (k:Nat) (hk:k < 18446744073709551616) :
  Calls Tryz.prog 167 #[.pointer (some ⟨b,0,none⟩),.int .u64 (k:Nat),.pointer (some ⟨g,0,none⟩)] w fun e w'=>∃ v,e = .returned v/\Ps w b m x (.sthree (s.adm k)) w'/\KV w' v (s.admitOut k):=by
 have hb:=h.lt
 have hpol:=h.st.pol
 rw [hps] at hpol
 obtain ⟨hp,hc0,hst⟩:=hpol
 have HF:=Lib.hid (fld10 w b)
 have hcl:=(head_row hc).lt
 have HLD:Hid (∀ W:World,Below w.heap.size w W->W.cell? ⟨b,7,none⟩=some (.int .i64 (s.c:Nat))/\W.cell? ⟨b,8,none⟩=some (.slice x.s10.F x.s10.n x.s10.c)/\W.cell? ⟨b,9,none⟩=some (.slice x.m10.F x.m10.n x.m10.c)/\W.cell? ⟨b,10,none⟩=some (.slice x.g10.F x.g10.n x.g10.c)/\W.cell? ⟨g,3,none⟩=some (.func (.func 80) #[] #[])):=Lib.hid (fun W hW=>by
  obtain ⟨-,-,-,-,-,-,-,p7,p8,p9,p10,-⟩:=box_cells ((hW.block b hb).trans h.box)
  rw [hc0] at p7
  exact ⟨p7,p8,p9,p10,(head_row ((hW.block g hcl).trans hc)).cell (i:=3) (by simp)⟩)
 have HFR:Hid (∀ W:World,Below w.heap.size w W->W.frozen? ⟨b,7,none⟩=false/\W.frozen? ⟨b,8,none⟩=false/\W.frozen? ⟨b,9,none⟩=false/\W.frozen? ⟨b,10,none⟩=false):=Lib.hid (fun W hW=>⟨box_free ((hW.block b hb).trans h.box) 7,box_free ((hW.block b hb).trans h.box) 8,box_free ((hW.block b hb).trans h.box) 9,box_free ((hW.block b hb).trans h.box) 10⟩)
 have HEND:Hid (∀ W F0 n0 d0 F1 n1 d1 F2 n2 d2,Below w.heap.size w W->St10 W (s.adm k) (.slice F0 n0 d0) (.slice F1 n1 d1) (.slice F2 n2 d2)->Ps w b m x (.sthree (s.adm k)) ((((W.setCell ⟨b,7,none⟩ (.int .i64 ((s.adm k).c:Nat))).setCell ⟨b,8,none⟩ (.slice F0 n0 d0)).setCell ⟨b,9,none⟩ (.slice F1 n1 d1)).setCell ⟨b,10,none⟩ (.slice F2 n2 d2))/\∀ o out,KV W o out->KV ((((W.setCell ⟨b,7,none⟩ (.int .i64 ((s.adm k).c:Nat))).setCell ⟨b,8,none⟩ (.slice F0 n0 d0)).setCell ⟨b,9,none⟩ (.slice F1 n1 d1)).setCell ⟨b,10,none⟩ (.slice F2 n2 d2)) o out):=Lib.hid (fun W F0 n0 d0 F1 n1 d1 F2 n2 d2 hW hs=>by
  obtain ⟨h1,h2⟩:=box_set10 ((h.below hW).box) ((s.adm k).c:Nat) F0 n0 d0 F1 n1 d1 F2 n2 d2
  have h3:=(h.below hW).st.only h2 (h.below hW).bx
  exact ⟨⟨(Only.of_below hW).trans h2 (by simp),{ x with c10:=((s.adm k).c:Nat),s10:=⟨F0,n0,d0⟩,m10:=⟨F1,n1,d1⟩,g10:=⟨F2,n2,d2⟩ },rfl,⟨h1,h.ty,⟨⟨hp,rfl,⟨hs.g1.only h2 (h.below hW).bx,hs.g2.only h2 (h.below hW).bx,hs.g3.only h2 (h.below hW).bx⟩⟩,h3.prs,h3.hi,h3.mi,h3.ev⟩⟩⟩,fun o out ho=>ho.only h2 (h.below hW).bx⟩)
 have c0:w.cell? ⟨g,0,none⟩=some (.func (.func 77) #[] #[]):=(head_row hc).cell (i:=0) (by simp)
 obtain ⟨k0,k1,k2,k3,k4⟩:=HLD.out w (Below.refl _ _)
 have KT:Hid (∀ W,Below w.heap.size w W->Calls Tryz.prog 80 #[(.agg (l10C s.c (.slice x.s10.F x.s10.n x.s10.c) (.slice x.m10.F x.m10.n x.m10.c) (.slice x.g10.F x.g10.n x.g10.c))),.int .u64 (k:Nat)] W (P10o W (s.adm k) (s.admitOut k))):=Lib.hid (fun W hW=>PO.adm (hst.below hW) ok k hk)
 clear hst hc0 hp h hps hc
 go_enter Tryz.func167,Tryz.ntmps167
 go_wp2_with (go_at_call 77;refine HF.out.mono ?_;rintro e w1 ⟨rfl,rfl⟩)
 go_region_with (go_at_call 80;refine (KT.out _ (below_drewn (Below.refl _ _) _)).mono ?_;rintro e w5 ⟨u50,u51,u52,o5,he,hb5,hk5,ho5⟩;obtain ⟨F50,n50,d50,rfl⟩:=hk5.form1;obtain ⟨F51,n51,d51,rfl⟩:=hk5.form2;obtain ⟨F52,n52,d52,rfl⟩:=hk5.form3;subst he;have hbA:=(below_drewn (Below.refl w1.heap.size w1) _).trans hb5;obtain ⟨z0,z1,z2,z3⟩:=HFR.out w5 hbA;obtain ⟨k0,k1,k2,k3,k4⟩:=HLD.out w5 hbA)
 all_goals
  go_wp2
  go_ret
  exact ⟨_,rfl,(HEND.out _ _ _ _ _ _ _ _ _ _ hbA hk5).1,(HEND.out _ _ _ _ _ _ _ _ _ _ hbA hk5).2 _ _ ho5⟩
set_option maxHeartbeats 2000000 in
theorem drop10c (PO:Pol10Ok) (hc:w.heap[g]? = some (.cells cl10C CT10 (0,0))) (h:S13 w PT13 b m x) (hps:m.ps = .sthree s) (ok:s.Ok) (k:Nat) (hk:k < 18446744073709551616) :
  Calls Tryz.prog 168 #[.pointer (some ⟨b,0,none⟩),.int .u64 (k:Nat),.pointer (some ⟨g,0,none⟩)] w fun e w'=>e = .returned (.tuple #[])/\Ps w b m x (.sthree (s.drop k)) w':=by
 have hb:=h.lt
 have hpol:=h.st.pol
 rw [hps] at hpol
 obtain ⟨hp,hc0,hst⟩:=hpol
 have HF:=Lib.hid (fld10 w b)
 have hcl:=(head_row hc).lt
 have HLD:Hid (∀ W:World,Below w.heap.size w W->W.cell? ⟨b,7,none⟩=some (.int .i64 (s.c:Nat))/\W.cell? ⟨b,8,none⟩=some (.slice x.s10.F x.s10.n x.s10.c)/\W.cell? ⟨b,9,none⟩=some (.slice x.m10.F x.m10.n x.m10.c)/\W.cell? ⟨b,10,none⟩=some (.slice x.g10.F x.g10.n x.g10.c)/\W.cell? ⟨g,4,none⟩=some (.func (.func 81) #[] #[])):=Lib.hid (fun W hW=>by
  obtain ⟨-,-,-,-,-,-,-,p7,p8,p9,p10,-⟩:=box_cells ((hW.block b hb).trans h.box)
  rw [hc0] at p7
  exact ⟨p7,p8,p9,p10,(head_row ((hW.block g hcl).trans hc)).cell (i:=4) (by simp)⟩)
 have HFR:Hid (∀ W:World,Below w.heap.size w W->W.frozen? ⟨b,7,none⟩=false/\W.frozen? ⟨b,8,none⟩=false/\W.frozen? ⟨b,9,none⟩=false/\W.frozen? ⟨b,10,none⟩=false):=Lib.hid (fun W hW=>⟨box_free ((hW.block b hb).trans h.box) 7,box_free ((hW.block b hb).trans h.box) 8,box_free ((hW.block b hb).trans h.box) 9,box_free ((hW.block b hb).trans h.box) 10⟩)
 have HEND:Hid (∀ W F0 n0 d0 F1 n1 d1 F2 n2 d2,Below w.heap.size w W->St10 W (s.drop k) (.slice F0 n0 d0) (.slice F1 n1 d1) (.slice F2 n2 d2)->Ps w b m x (.sthree (s.drop k)) ((((W.setCell ⟨b,7,none⟩ (.int .i64 ((s.drop k).c:Nat))).setCell ⟨b,8,none⟩ (.slice F0 n0 d0)).setCell ⟨b,9,none⟩ (.slice F1 n1 d1)).setCell ⟨b,10,none⟩ (.slice F2 n2 d2))/\∀ o out,KV W o out->KV ((((W.setCell ⟨b,7,none⟩ (.int .i64 ((s.drop k).c:Nat))).setCell ⟨b,8,none⟩ (.slice F0 n0 d0)).setCell ⟨b,9,none⟩ (.slice F1 n1 d1)).setCell ⟨b,10,none⟩ (.slice F2 n2 d2)) o out):=Lib.hid (fun W F0 n0 d0 F1 n1 d1 F2 n2 d2 hW hs=>by
  obtain ⟨h1,h2⟩:=box_set10 ((h.below hW).box) ((s.drop k).c:Nat) F0 n0 d0 F1 n1 d1 F2 n2 d2
  have h3:=(h.below hW).st.only h2 (h.below hW).bx
  exact ⟨⟨(Only.of_below hW).trans h2 (by simp),{ x with c10:=((s.drop k).c:Nat),s10:=⟨F0,n0,d0⟩,m10:=⟨F1,n1,d1⟩,g10:=⟨F2,n2,d2⟩ },rfl,⟨h1,h.ty,⟨⟨hp,rfl,⟨hs.g1.only h2 (h.below hW).bx,hs.g2.only h2 (h.below hW).bx,hs.g3.only h2 (h.below hW).bx⟩⟩,h3.prs,h3.hi,h3.mi,h3.ev⟩⟩⟩,fun o out ho=>ho.only h2 (h.below hW).bx⟩)
 have c0:w.cell? ⟨g,0,none⟩=some (.func (.func 77) #[] #[]):=(head_row hc).cell (i:=0) (by simp)
 obtain ⟨k0,k1,k2,k3,k4⟩:=HLD.out w (Below.refl _ _)
 have KT:Hid (∀ W,Below w.heap.size w W->Calls Tryz.prog 81 #[(.agg (l10C s.c (.slice x.s10.F x.s10.n x.s10.c) (.slice x.m10.F x.m10.n x.m10.c) (.slice x.g10.F x.g10.n x.g10.c))),.int .u64 (k:Nat)] W (P10 W (s.drop k))):=Lib.hid (fun W hW=>PO.drop (hst.below hW) ok k hk)
 clear hst hc0 hp h hps hc
 go_enter Tryz.func168,Tryz.ntmps168
 go_wp2_with (go_at_call 77;refine HF.out.mono ?_;rintro e w1 ⟨rfl,rfl⟩)
 go_region_with (go_at_call 81;refine (KT.out _ (below_drewn (Below.refl _ _) _)).mono ?_;rintro e w5 ⟨u50,u51,u52,rfl,hb5,hk5⟩;obtain ⟨F50,n50,d50,rfl⟩:=hk5.form1;obtain ⟨F51,n51,d51,rfl⟩:=hk5.form2;obtain ⟨F52,n52,d52,rfl⟩:=hk5.form3;have hbA:=(below_drewn (Below.refl w1.heap.size w1) _).trans hb5;obtain ⟨z0,z1,z2,z3⟩:=HFR.out w5 hbA;obtain ⟨k0,k1,k2,k3,k4⟩:=HLD.out w5 hbA)
 all_goals
  go_wp2
  go_end0
  exact ⟨rfl,(HEND.out _ _ _ _ _ _ _ _ _ _ hbA hk5).1⟩
set_option maxHeartbeats 2000000 in
theorem resize10c (PO:Pol10Ok) (hc:w.heap[g]? = some (.cells cl10C CT10 (0,0))) (h:S13 w PT13 b m x) (hps:m.ps = .sthree s) (ok:s.Ok) (n:Int) (hn1 : -9223372036854775808<=n) (hn2:n<=9223372036854775807) :
  Calls Tryz.prog 163 #[.pointer (some ⟨b,0,none⟩),.int .i64 n,.pointer (some ⟨g,0,none⟩)] w fun e w'=>∃ v,e = .returned v/\Ps w b m x (.sthree (s.resize n)) w'/\KV w' v (s.resizeOut n):=by
 have hb:=h.lt
 have hpol:=h.st.pol
 rw [hps] at hpol
 obtain ⟨hp,hc0,hst⟩:=hpol
 have HF:=Lib.hid (fld10 w b)
 have hcl:=(head_row hc).lt
 have HLD:Hid (∀ W:World,Below w.heap.size w W->W.cell? ⟨b,7,none⟩=some (.int .i64 (s.c:Nat))/\W.cell? ⟨b,8,none⟩=some (.slice x.s10.F x.s10.n x.s10.c)/\W.cell? ⟨b,9,none⟩=some (.slice x.m10.F x.m10.n x.m10.c)/\W.cell? ⟨b,10,none⟩=some (.slice x.g10.F x.g10.n x.g10.c)/\W.cell? ⟨g,5,none⟩=some (.func (.func 82) #[] #[])):=Lib.hid (fun W hW=>by
  obtain ⟨-,-,-,-,-,-,-,p7,p8,p9,p10,-⟩:=box_cells ((hW.block b hb).trans h.box)
  rw [hc0] at p7
  exact ⟨p7,p8,p9,p10,(head_row ((hW.block g hcl).trans hc)).cell (i:=5) (by simp)⟩)
 have HFR:Hid (∀ W:World,Below w.heap.size w W->W.frozen? ⟨b,7,none⟩=false/\W.frozen? ⟨b,8,none⟩=false/\W.frozen? ⟨b,9,none⟩=false/\W.frozen? ⟨b,10,none⟩=false):=Lib.hid (fun W hW=>⟨box_free ((hW.block b hb).trans h.box) 7,box_free ((hW.block b hb).trans h.box) 8,box_free ((hW.block b hb).trans h.box) 9,box_free ((hW.block b hb).trans h.box) 10⟩)
 have HEND:Hid (∀ W F0 n0 d0 F1 n1 d1 F2 n2 d2,Below w.heap.size w W->St10 W (s.resize n) (.slice F0 n0 d0) (.slice F1 n1 d1) (.slice F2 n2 d2)->Ps w b m x (.sthree (s.resize n)) ((((W.setCell ⟨b,7,none⟩ (.int .i64 ((s.resize n).c:Nat))).setCell ⟨b,8,none⟩ (.slice F0 n0 d0)).setCell ⟨b,9,none⟩ (.slice F1 n1 d1)).setCell ⟨b,10,none⟩ (.slice F2 n2 d2))/\∀ o out,KV W o out->KV ((((W.setCell ⟨b,7,none⟩ (.int .i64 ((s.resize n).c:Nat))).setCell ⟨b,8,none⟩ (.slice F0 n0 d0)).setCell ⟨b,9,none⟩ (.slice F1 n1 d1)).setCell ⟨b,10,none⟩ (.slice F2 n2 d2)) o out):=Lib.hid (fun W F0 n0 d0 F1 n1 d1 F2 n2 d2 hW hs=>by
  obtain ⟨h1,h2⟩:=box_set10 ((h.below hW).box) ((s.resize n).c:Nat) F0 n0 d0 F1 n1 d1 F2 n2 d2
  have h3:=(h.below hW).st.only h2 (h.below hW).bx
  exact ⟨⟨(Only.of_below hW).trans h2 (by simp),{ x with c10:=((s.resize n).c:Nat),s10:=⟨F0,n0,d0⟩,m10:=⟨F1,n1,d1⟩,g10:=⟨F2,n2,d2⟩ },rfl,⟨h1,h.ty,⟨⟨hp,rfl,⟨hs.g1.only h2 (h.below hW).bx,hs.g2.only h2 (h.below hW).bx,hs.g3.only h2 (h.below hW).bx⟩⟩,h3.prs,h3.hi,h3.mi,h3.ev⟩⟩⟩,fun o out ho=>ho.only h2 (h.below hW).bx⟩)
 have c0:w.cell? ⟨g,0,none⟩=some (.func (.func 77) #[] #[]):=(head_row hc).cell (i:=0) (by simp)
 obtain ⟨k0,k1,k2,k3,k4⟩:=HLD.out w (Below.refl _ _)
 have KT:Hid (∀ W,Below w.heap.size w W->Calls Tryz.prog 82 #[(.agg (l10C s.c (.slice x.s10.F x.s10.n x.s10.c) (.slice x.m10.F x.m10.n x.m10.c) (.slice x.g10.F x.g10.n x.g10.c))),.int .i64 n] W (P10o W (s.resize n) (s.resizeOut n))):=Lib.hid (fun W hW=>PO.resize (hst.below hW) ok n hn1 hn2)
 clear hst hc0 hp h hps hc
 go_enter Tryz.func163,Tryz.ntmps163
 go_wp2_with (go_at_call 77;refine HF.out.mono ?_;rintro e w1 ⟨rfl,rfl⟩)
 go_region_with (go_at_call 82;refine (KT.out _ (below_drewn (Below.refl _ _) _)).mono ?_;rintro e w5 ⟨u50,u51,u52,o5,he,hb5,hk5,ho5⟩;obtain ⟨F50,n50,d50,rfl⟩:=hk5.form1;obtain ⟨F51,n51,d51,rfl⟩:=hk5.form2;obtain ⟨F52,n52,d52,rfl⟩:=hk5.form3;subst he;have hbA:=(below_drewn (Below.refl w1.heap.size w1) _).trans hb5;obtain ⟨z0,z1,z2,z3⟩:=HFR.out w5 hbA;obtain ⟨k0,k1,k2,k3,k4⟩:=HLD.out w5 hbA)
 all_goals
  go_wp2
  go_ret
  exact ⟨_,rfl,(HEND.out _ _ _ _ _ _ _ _ _ _ hbA hk5).1,(HEND.out _ _ _ _ _ _ _ _ _ _ hbA hk5).2 _ _ ho5⟩
end
set_option maxRecDepth 8000
section
variable {w:World} {b g:Nat} {m:M13} {x:V13} {s:L10}
set_option maxHeartbeats 2000000 in
theorem has10c (PO:Pol10Ok) (hc:w.heap[g]? = some (.cells cl10C CT10 (0,0))) (h:S13 w PT13 b m x) (hps:m.ps = .sthree s) (ok:s.Ok) (k:Nat) (hk:k < 18446744073709551616) :
  Calls Tryz.prog 169 #[.pointer (some ⟨b,0,none⟩),.int .u64 (k:Nat),.pointer (some ⟨g,0,none⟩)] w (RetB w (decide (k∈s.keys))):=by
 have hb:=h.lt
 have hpol:=h.st.pol
 rw [hps] at hpol
 obtain ⟨hp,hc0,hst⟩:=hpol
 have HF:=Lib.hid (fld10 w b)
 have hcl:=(head_row hc).lt
 have HLD:Hid (∀ W:World,Below w.heap.size w W->W.cell? ⟨b,7,none⟩=some (.int .i64 (s.c:Nat))/\W.cell? ⟨b,8,none⟩=some (.slice x.s10.F x.s10.n x.s10.c)/\W.cell? ⟨b,9,none⟩=some (.slice x.m10.F x.m10.n x.m10.c)/\W.cell? ⟨b,10,none⟩=some (.slice x.g10.F x.g10.n x.g10.c)/\W.cell? ⟨g,6,none⟩=some (.func (.func 83) #[] #[])):=Lib.hid (fun W hW=>by
  obtain ⟨-,-,-,-,-,-,-,p7,p8,p9,p10,-⟩:=box_cells ((hW.block b hb).trans h.box)
  rw [hc0] at p7
  exact ⟨p7,p8,p9,p10,(head_row ((hW.block g hcl).trans hc)).cell (i:=6) (by simp)⟩)
 have c0:w.cell? ⟨g,0,none⟩=some (.func (.func 77) #[] #[]):=(head_row hc).cell (i:=0) (by simp)
 obtain ⟨k0,k1,k2,k3,k4⟩:=HLD.out w (Below.refl _ _)
 have KT:Hid (∀ W,Below w.heap.size w W->Calls Tryz.prog 83 #[(.agg (l10C s.c (.slice x.s10.F x.s10.n x.s10.c) (.slice x.m10.F x.m10.n x.m10.c) (.slice x.g10.F x.g10.n x.g10.c))),.int .u64 (k:Nat)] W (RetB W (decide (k∈s.keys)))):=Lib.hid (fun W hW=>PO.has (hst.below hW) ok k hk)
 have HL5:Hid (∀ W:World,Below w.heap.size w W->W.cell? ⟨b,7,none⟩=some (.int .i64 (s.c:Nat))/\W.cell? ⟨b,8,none⟩=some (.slice x.s10.F x.s10.n x.s10.c)/\W.cell? ⟨b,9,none⟩=some (.slice x.m10.F x.m10.n x.m10.c)/\W.cell? ⟨b,10,none⟩=some (.slice x.g10.F x.g10.n x.g10.c)/\W.cell? ⟨g,6,none⟩=some (.func (.func 83) #[] #[])/\W.cell? ⟨g,0,none⟩=some (.func (.func 77) #[] #[])):=Lib.hid (fun W hW=>by
  obtain ⟨j0,j1,j2,j3,j4⟩:=HLD.out W hW
  exact ⟨j0,j1,j2,j3,j4,(head_row ((hW.block g hcl).trans hc)).cell (i:=0) (by simp)⟩)
 clear hst hc0 hp h hps hc
 go_enter Tryz.func169,Tryz.ntmps169
 go_wp2_with fail
 go_region_held3 (fun w'=>w'.cell? ⟨b,7,none⟩=some (.int .i64 (s.c:Nat))/\w'.cell? ⟨b,8,none⟩=some (.slice x.s10.F x.s10.n x.s10.c)/\w'.cell? ⟨b,9,none⟩=some (.slice x.m10.F x.m10.n x.m10.c)/\w'.cell? ⟨b,10,none⟩=some (.slice x.g10.F x.g10.n x.g10.c)/\w'.cell? ⟨g,6,none⟩=some (.func (.func 83) #[] #[])/\w'.cell? ⟨g,0,none⟩=some (.func (.func 77) #[] #[]))
  (first | with_reducible exact kk5 | go_keep)
  (first
  | (go_at_call 77;refine (fld10 _ b).mono ?_;rintro e w1 ⟨rfl,rfl⟩)
  | (go_at_call 83;refine (KT.out _ (below_drewn (Below.refl _ _) _)).mono ?_;rintro e w5 ⟨rfl,hb5⟩;have hbA:=(below_drewn (Below.refl w.heap.size w) _).trans hb5;have kk5:=HL5.out w5 hbA))
 all_goals
  go_wp2
  go_ret
  exact ⟨rfl,hbA⟩
set_option maxHeartbeats 2000000 in
theorem keys10c (PO:Pol10Ok) (hc:w.heap[g]? = some (.cells cl10C CT10 (0,0))) (h:S13 w PT13 b m x) (hps:m.ps = .sthree s) (ok:s.Ok)  :
  Calls Tryz.prog 170 #[.pointer (some ⟨b,0,none⟩),.pointer (some ⟨g,0,none⟩)] w (RetK w s.keys):=by
 have hb:=h.lt
 have hpol:=h.st.pol
 rw [hps] at hpol
 obtain ⟨hp,hc0,hst⟩:=hpol
 have HF:=Lib.hid (fld10 w b)
 have hcl:=(head_row hc).lt
 have HLD:Hid (∀ W:World,Below w.heap.size w W->W.cell? ⟨b,7,none⟩=some (.int .i64 (s.c:Nat))/\W.cell? ⟨b,8,none⟩=some (.slice x.s10.F x.s10.n x.s10.c)/\W.cell? ⟨b,9,none⟩=some (.slice x.m10.F x.m10.n x.m10.c)/\W.cell? ⟨b,10,none⟩=some (.slice x.g10.F x.g10.n x.g10.c)/\W.cell? ⟨g,7,none⟩=some (.func (.func 84) #[] #[])):=Lib.hid (fun W hW=>by
  obtain ⟨-,-,-,-,-,-,-,p7,p8,p9,p10,-⟩:=box_cells ((hW.block b hb).trans h.box)
  rw [hc0] at p7
  exact ⟨p7,p8,p9,p10,(head_row ((hW.block g hcl).trans hc)).cell (i:=7) (by simp)⟩)
 have c0:w.cell? ⟨g,0,none⟩=some (.func (.func 77) #[] #[]):=(head_row hc).cell (i:=0) (by simp)
 obtain ⟨k0,k1,k2,k3,k4⟩:=HLD.out w (Below.refl _ _)
 have KT:Hid (∀ W,Below w.heap.size w W->Calls Tryz.prog 84 #[(.agg (l10C s.c (.slice x.s10.F x.s10.n x.s10.c) (.slice x.m10.F x.m10.n x.m10.c) (.slice x.g10.F x.g10.n x.g10.c)))] W (RetK W s.keys)):=Lib.hid (fun W hW=>PO.keys (hst.below hW) ok)
 have HL5:Hid (∀ W:World,Below w.heap.size w W->W.cell? ⟨b,7,none⟩=some (.int .i64 (s.c:Nat))/\W.cell? ⟨b,8,none⟩=some (.slice x.s10.F x.s10.n x.s10.c)/\W.cell? ⟨b,9,none⟩=some (.slice x.m10.F x.m10.n x.m10.c)/\W.cell? ⟨b,10,none⟩=some (.slice x.g10.F x.g10.n x.g10.c)/\W.cell? ⟨g,7,none⟩=some (.func (.func 84) #[] #[])/\W.cell? ⟨g,0,none⟩=some (.func (.func 77) #[] #[])):=Lib.hid (fun W hW=>by
  obtain ⟨j0,j1,j2,j3,j4⟩:=HLD.out W hW
  exact ⟨j0,j1,j2,j3,j4,(head_row ((hW.block g hcl).trans hc)).cell (i:=0) (by simp)⟩)
 clear hst hc0 hp h hps hc
 go_enter Tryz.func170,Tryz.ntmps170
 go_wp2_with fail
 go_region_held3 (fun w'=>w'.cell? ⟨b,7,none⟩=some (.int .i64 (s.c:Nat))/\w'.cell? ⟨b,8,none⟩=some (.slice x.s10.F x.s10.n x.s10.c)/\w'.cell? ⟨b,9,none⟩=some (.slice x.m10.F x.m10.n x.m10.c)/\w'.cell? ⟨b,10,none⟩=some (.slice x.g10.F x.g10.n x.g10.c)/\w'.cell? ⟨g,7,none⟩=some (.func (.func 84) #[] #[])/\w'.cell? ⟨g,0,none⟩=some (.func (.func 77) #[] #[]))
  (first | with_reducible exact kk5 | go_keep)
  (first
  | (go_at_call 77;refine (fld10 _ b).mono ?_;rintro e w1 ⟨rfl,rfl⟩)
  | (go_at_call 84;refine (KT.out _ (below_drewn (Below.refl _ _) _)).mono ?_;rintro e w5 ⟨v5,rfl,hb5,hk5⟩;have hbA:=(below_drewn (Below.refl w.heap.size w) _).trans hb5;have kk5:=HL5.out w5 hbA))
 all_goals
  go_wp2
  go_ret
  exact ⟨_,rfl,hbA,hk5⟩
set_option maxHeartbeats 2000000 in
theorem ghosts10c (PO:Pol10Ok) (hc:w.heap[g]? = some (.cells cl10C CT10 (0,0))) (h:S13 w PT13 b m x) (hps:m.ps = .sthree s) (ok:s.Ok)  :
  Calls Tryz.prog 171 #[.pointer (some ⟨b,0,none⟩),.pointer (some ⟨g,0,none⟩)] w (fun e w'=>e = .returned (.int .i64 (s.ghosts:Nat))/\Below w.heap.size w w'):=by
 have hb:=h.lt
 have hpol:=h.st.pol
 rw [hps] at hpol
 obtain ⟨hp,hc0,hst⟩:=hpol
 have HF:=Lib.hid (fld10 w b)
 have hcl:=(head_row hc).lt
 have HLD:Hid (∀ W:World,Below w.heap.size w W->W.cell? ⟨b,7,none⟩=some (.int .i64 (s.c:Nat))/\W.cell? ⟨b,8,none⟩=some (.slice x.s10.F x.s10.n x.s10.c)/\W.cell? ⟨b,9,none⟩=some (.slice x.m10.F x.m10.n x.m10.c)/\W.cell? ⟨b,10,none⟩=some (.slice x.g10.F x.g10.n x.g10.c)/\W.cell? ⟨g,8,none⟩=some (.func (.func 85) #[] #[])):=Lib.hid (fun W hW=>by
  obtain ⟨-,-,-,-,-,-,-,p7,p8,p9,p10,-⟩:=box_cells ((hW.block b hb).trans h.box)
  rw [hc0] at p7
  exact ⟨p7,p8,p9,p10,(head_row ((hW.block g hcl).trans hc)).cell (i:=8) (by simp)⟩)
 have c0:w.cell? ⟨g,0,none⟩=some (.func (.func 77) #[] #[]):=(head_row hc).cell (i:=0) (by simp)
 obtain ⟨k0,k1,k2,k3,k4⟩:=HLD.out w (Below.refl _ _)
 have KT:Hid (∀ W,Below w.heap.size w W->Calls Tryz.prog 85 #[(.agg (l10C s.c (.slice x.s10.F x.s10.n x.s10.c) (.slice x.m10.F x.m10.n x.m10.c) (.slice x.g10.F x.g10.n x.g10.c)))] W (fun e w'=>e = .returned (.int .i64 (s.ghosts:Nat))/\Below W.heap.size W w')):=Lib.hid (fun W hW=>PO.ghosts (hst.below hW) ok)
 have HL5:Hid (∀ W:World,Below w.heap.size w W->W.cell? ⟨b,7,none⟩=some (.int .i64 (s.c:Nat))/\W.cell? ⟨b,8,none⟩=some (.slice x.s10.F x.s10.n x.s10.c)/\W.cell? ⟨b,9,none⟩=some (.slice x.m10.F x.m10.n x.m10.c)/\W.cell? ⟨b,10,none⟩=some (.slice x.g10.F x.g10.n x.g10.c)/\W.cell? ⟨g,8,none⟩=some (.func (.func 85) #[] #[])/\W.cell? ⟨g,0,none⟩=some (.func (.func 77) #[] #[])):=Lib.hid (fun W hW=>by
  obtain ⟨j0,j1,j2,j3,j4⟩:=HLD.out W hW
  exact ⟨j0,j1,j2,j3,j4,(head_row ((hW.block g hcl).trans hc)).cell (i:=0) (by simp)⟩)
 clear hst hc0 hp h hps hc
 go_enter Tryz.func171,Tryz.ntmps171
 go_wp2_with fail
 go_region_held3 (fun w'=>w'.cell? ⟨b,7,none⟩=some (.int .i64 (s.c:Nat))/\w'.cell? ⟨b,8,none⟩=some (.slice x.s10.F x.s10.n x.s10.c)/\w'.cell? ⟨b,9,none⟩=some (.slice x.m10.F x.m10.n x.m10.c)/\w'.cell? ⟨b,10,none⟩=some (.slice x.g10.F x.g10.n x.g10.c)/\w'.cell? ⟨g,8,none⟩=some (.func (.func 85) #[] #[])/\w'.cell? ⟨g,0,none⟩=some (.func (.func 77) #[] #[]))
  (first | with_reducible exact kk5 | go_keep)
  (first
  | (go_at_call 77;refine (fld10 _ b).mono ?_;rintro e w1 ⟨rfl,rfl⟩)
  | (go_at_call 85;refine (KT.out _ (below_drewn (Below.refl _ _) _)).mono ?_;rintro e w5 ⟨rfl,hb5⟩;have hbA:=(below_drewn (Below.refl w.heap.size w) _).trans hb5;have kk5:=HL5.out w5 hbA))
 all_goals
  go_wp2
  go_ret
  exact ⟨rfl,hbA⟩
set_option maxHeartbeats 2000000 in
theorem caps10c (hc:w.heap[g]? = some (.cells cl10C CT10 (0,0))) (h:S13 w PT13 b m x) (hps:m.ps = .sthree s)  :
  Calls Tryz.prog 172 #[.pointer (some ⟨b,0,none⟩),.pointer (some ⟨g,0,none⟩)] w (fun e w'=>e = .returned (.int .i64 (s.c:Nat))/\Below w.heap.size w w'):=by
 have hb:=h.lt
 have hpol:=h.st.pol
 rw [hps] at hpol
 obtain ⟨hp,hc0,hst⟩:=hpol
 have HF:=Lib.hid (fld10 w b)
 have hcl:=(head_row hc).lt
 have HLD:Hid (∀ W:World,Below w.heap.size w W->W.cell? ⟨b,7,none⟩=some (.int .i64 (s.c:Nat))/\W.cell? ⟨b,8,none⟩=some (.slice x.s10.F x.s10.n x.s10.c)/\W.cell? ⟨b,9,none⟩=some (.slice x.m10.F x.m10.n x.m10.c)/\W.cell? ⟨b,10,none⟩=some (.slice x.g10.F x.g10.n x.g10.c)/\W.cell? ⟨g,9,none⟩=some (.func (.func 86) #[] #[])):=Lib.hid (fun W hW=>by
  obtain ⟨-,-,-,-,-,-,-,p7,p8,p9,p10,-⟩:=box_cells ((hW.block b hb).trans h.box)
  rw [hc0] at p7
  exact ⟨p7,p8,p9,p10,(head_row ((hW.block g hcl).trans hc)).cell (i:=9) (by simp)⟩)
 have c0:w.cell? ⟨g,0,none⟩=some (.func (.func 77) #[] #[]):=(head_row hc).cell (i:=0) (by simp)
 obtain ⟨k0,k1,k2,k3,k4⟩:=HLD.out w (Below.refl _ _)
 have KT:Hid (∀ W,Below w.heap.size w W->Calls Tryz.prog 86 #[(.agg (l10C s.c (.slice x.s10.F x.s10.n x.s10.c) (.slice x.m10.F x.m10.n x.m10.c) (.slice x.g10.F x.g10.n x.g10.c)))] W (fun e w'=>e = .returned (.int .i64 (s.c:Nat))/\Below W.heap.size W w')):=Lib.hid (fun W hW=>cap10 W s _ _ _ (⟨(hst.below hW).form1,(hst.below hW).form2,(hst.below hW).form3⟩))
 have HL5:Hid (∀ W:World,Below w.heap.size w W->W.cell? ⟨b,7,none⟩=some (.int .i64 (s.c:Nat))/\W.cell? ⟨b,8,none⟩=some (.slice x.s10.F x.s10.n x.s10.c)/\W.cell? ⟨b,9,none⟩=some (.slice x.m10.F x.m10.n x.m10.c)/\W.cell? ⟨b,10,none⟩=some (.slice x.g10.F x.g10.n x.g10.c)/\W.cell? ⟨g,9,none⟩=some (.func (.func 86) #[] #[])/\W.cell? ⟨g,0,none⟩=some (.func (.func 77) #[] #[])):=Lib.hid (fun W hW=>by
  obtain ⟨j0,j1,j2,j3,j4⟩:=HLD.out W hW
  exact ⟨j0,j1,j2,j3,j4,(head_row ((hW.block g hcl).trans hc)).cell (i:=0) (by simp)⟩)
 clear hst hc0 hp h hps hc
 go_enter Tryz.func172,Tryz.ntmps172
 go_wp2_with fail
 go_region_held3 (fun w'=>w'.cell? ⟨b,7,none⟩=some (.int .i64 (s.c:Nat))/\w'.cell? ⟨b,8,none⟩=some (.slice x.s10.F x.s10.n x.s10.c)/\w'.cell? ⟨b,9,none⟩=some (.slice x.m10.F x.m10.n x.m10.c)/\w'.cell? ⟨b,10,none⟩=some (.slice x.g10.F x.g10.n x.g10.c)/\w'.cell? ⟨g,9,none⟩=some (.func (.func 86) #[] #[])/\w'.cell? ⟨g,0,none⟩=some (.func (.func 77) #[] #[]))
  (first | with_reducible exact kk5 | go_keep)
  (first
  | (go_at_call 77;refine (fld10 _ b).mono ?_;rintro e w1 ⟨rfl,rfl⟩)
  | (go_at_call 86;refine (KT.out _ (below_drewn (Below.refl _ _) _)).mono ?_;rintro e w5 ⟨rfl,hb5⟩;have hbA:=(below_drewn (Below.refl w.heap.size w) _).trans hb5;have kk5:=HL5.out w5 hbA))
 all_goals
  go_wp2
  go_ret
  exact ⟨rfl,hbA⟩
end
set_option maxRecDepth 8000
section
variable {w:World} {b g:Nat} {m:M13} {x:V13} {s:L10}
set_option maxHeartbeats 4000000 in
theorem own10c (PO:Pol10Ok) (hc:w.heap[g]? = some (.cells cl10C CT10 (0,0))) (h:S13 w PT13 b m x) (hps:m.ps = .sthree s) (ok:s.Ok) {g2:Nat} (hr:w.heap[g2]? = some (.cells #[.func (.func 163) #[] #[.pointer (some ⟨g,0,none⟩)]] RT13_10 (0,0))) :
  Calls Tryz.prog 165 #[.pointer (some ⟨b,0,none⟩),.pointer (some ⟨g2,0,none⟩),.pointer (some ⟨g,0,none⟩)] w fun e w'=>e = .returned (.tuple #[])/\Ps w b m x (.sthree s) w':=by
 have hb:=h.lt
 have hpol:=h.st.pol
 rw [hps] at hpol
 obtain ⟨hp,hc0,hst⟩:=hpol
 have hcl:=(head_row hc).lt
 have hrl:=(head_row hr).lt
 have HSS:Hid (∀ W:World,Below w.heap.size w W->W.cell? ⟨g2,0,none⟩=some (.func (.func 163) #[] #[.pointer (some ⟨g,0,none⟩)])/\W.cell? ⟨g,0,none⟩=some (.func (.func 77) #[] #[])/\W.cell? ⟨g,9,none⟩=some (.func (.func 86) #[] #[])):=Lib.hid (fun W hW=>by
  exact ⟨(head_row ((hW.block g2 hrl).trans hr)).cell (i:=0) (by simp),(head_row ((hW.block g hcl).trans hc)).cell (i:=0) (by simp),(head_row ((hW.block g hcl).trans hc)).cell (i:=9) (by simp)⟩)
 have KC:Hid (∀ W F0 n0 d0 F1 n1 d1 F2 n2 d2,Calls Tryz.prog 86 #[.agg (l10C s.c (.slice F0 n0 d0) (.slice F1 n1 d1) (.slice F2 n2 d2))] W (fun e w'=>e = .returned (.int .i64 (s.c:Nat))/\Below W.heap.size W w')):=Lib.hid (fun W F0 n0 d0 F1 n1 d1 F2 n2 d2=>cap10 W s _ _ _ (⟨⟨F0,n0,d0,rfl⟩,⟨F1,n1,d1,rfl⟩,⟨F2,n2,d2,rfl⟩⟩))
 have hcap:=ok.cap
 have KR:Hid (∀ W,Below w.heap.size w W->Calls Tryz.prog 163 #[.pointer (some ⟨b,0,none⟩),.int .i64 (s.c:Nat),.pointer (some ⟨g,0,none⟩)] W (fun e w'=>∃ v,e = .returned v/\Ps w b m x (.sthree s) w')):=Lib.hid (fun W hW=>by
  refine (resize10c PO ((hW.block g hcl).trans hc) (h.below hW) hps ok (s.c:Nat) (by omega) (by omega)).mono ?_
  rintro e w' ⟨v,rfl,⟨h1,x',h2,h3⟩,_⟩
  rw [(L10.own ok).1] at h3
  exact ⟨v,rfl,⟨(Only.of_below hW).trans h1 (by simp),x',h2,h3⟩⟩)
 obtain ⟨k0,k1,k2⟩:=HSS.out w (Below.refl _ _)
 obtain ⟨-,-,-,-,-,-,-,p7,p8,p9,p10,-⟩:=box_cells h.box
 rw [hc0] at p7
 clear hst hc0 hp h hps hc hr hcap
 go_enter Tryz.func165,Tryz.ntmps165
 go_wp2_with fail
 go_region_with (first | (go_at_call 77;refine (fld10 _ b).mono ?_;rintro e w1 ⟨rfl,rfl⟩) | (go_at_call 86;refine (KC.out _ _ _ _ _ _ _ _ _ _).mono ?_;rintro e w5 ⟨rfl,hb5⟩;have hbA:=(below_drewn (Below.refl w.heap.size w) _).trans hb5;obtain ⟨k0,k1,k2⟩:=HSS.out w5 hbA) | (go_at_call 163;refine (KR.out _ hbA).mono ?_;rintro e w6 ⟨v6,rfl,hp6⟩))
 all_goals
  go_wp2
  go_end0
  exact ⟨rfl,hp6⟩
end
set_option maxRecDepth 8000
section
variable {w:World} {b g:Nat} {m:M13} {x:V13} {s:L10}
set_option maxHeartbeats 4000000 in
theorem start10c (PO:Pol10Ok) (hc:w.heap[g]? = some (.cells cl10C CT10 (0,0))) (h:w.heap[b]? = some (.cells x.C PT13 (0,0))) (hp:x.p=3) (n:Int) (hn1 : -9223372036854775808<=n) (hn2:n<=9223372036854775807) :
  Calls Tryz.prog 164 #[.pointer (some ⟨b,0,none⟩),.int .i64 n,.pointer (some ⟨g,0,none⟩)] w fun e w'=>e = .returned (.tuple #[])/\Only [b] w w'/\∃ x':V13,x'.pr=x.pr/\x'.p=x.p/\x'.hi=x.hi/\x'.mi=x.mi/\x'.ev=x.ev/\w'.heap[b]? = some (.cells x'.C PT13 (0,0))/\PolIn w' x' (.sthree (L10.new n)):=by
 have hb:=(head_row h).lt
 have hcl:=(head_row hc).lt
 have KT:Hid (∀ W,Below w.heap.size w W->Calls Tryz.prog 78 #[.int .i64 n] W (P10 W (L10.new n))):=Lib.hid (fun W _=>PO.new W n hn1 hn2)
 have HLD:Hid (∀ W:World,Below w.heap.size w W->W.cell? ⟨g,0,none⟩=some (.func (.func 77) #[] #[])/\W.cell? ⟨g,1,none⟩=some (.func (.func 78) #[] #[])):=Lib.hid (fun W hW=>⟨(head_row ((hW.block g hcl).trans hc)).cell (i:=0) (by simp),(head_row ((hW.block g hcl).trans hc)).cell (i:=1) (by simp)⟩)
 have HFR:Hid (∀ W:World,Below w.heap.size w W->(W.frozen? ⟨b,7,none⟩=false/\W.frozen? ⟨b,8,none⟩=false/\W.frozen? ⟨b,9,none⟩=false/\W.frozen? ⟨b,10,none⟩=false)/\∃ v7 v8 v9 v10,W.cell? ⟨b,7,none⟩=some v7/\W.cell? ⟨b,8,none⟩=some v8/\W.cell? ⟨b,9,none⟩=some v9/\W.cell? ⟨b,10,none⟩=some v10):=Lib.hid (fun W hW=>by
  obtain ⟨-,-,-,-,-,-,-,p7,p8,p9,p10,-⟩:=box_cells ((hW.block b hb).trans h)
  exact ⟨⟨box_free ((hW.block b hb).trans h) 7,box_free ((hW.block b hb).trans h) 8,box_free ((hW.block b hb).trans h) 9,box_free ((hW.block b hb).trans h) 10⟩,_,_,_,_,p7,p8,p9,p10⟩)
 obtain ⟨k0,k1⟩:=HLD.out w (Below.refl _ _)
 have HEND:Hid (∀ W F0 n0 d0 F1 n1 d1 F2 n2 d2,Below w.heap.size w W->St10 W (L10.new n) (.slice F0 n0 d0) (.slice F1 n1 d1) (.slice F2 n2 d2)->Only [b] w ((((W.setCell ⟨b,7,none⟩ (.int .i64 ((L10.new n).c:Nat))).setCell ⟨b,8,none⟩ (.slice F0 n0 d0)).setCell ⟨b,9,none⟩ (.slice F1 n1 d1)).setCell ⟨b,10,none⟩ (.slice F2 n2 d2))/\∃ x':V13,x'.pr=x.pr/\x'.p=x.p/\x'.hi=x.hi/\x'.mi=x.mi/\x'.ev=x.ev/\(((((W.setCell ⟨b,7,none⟩ (.int .i64 ((L10.new n).c:Nat))).setCell ⟨b,8,none⟩ (.slice F0 n0 d0)).setCell ⟨b,9,none⟩ (.slice F1 n1 d1)).setCell ⟨b,10,none⟩ (.slice F2 n2 d2))).heap[b]? = some (.cells x'.C PT13 (0,0))/\PolIn ((((W.setCell ⟨b,7,none⟩ (.int .i64 ((L10.new n).c:Nat))).setCell ⟨b,8,none⟩ (.slice F0 n0 d0)).setCell ⟨b,9,none⟩ (.slice F1 n1 d1)).setCell ⟨b,10,none⟩ (.slice F2 n2 d2)) x' (.sthree (L10.new n))):=Lib.hid (fun W F0 n0 d0 F1 n1 d1 F2 n2 d2 hW hs=>by
  have hbx:∀ j∈[b],Bx W j:=fun j hj=>by
   have e:j=b:=by simpa using hj
   rw [e]
   exact ⟨_,_,(hW.block b hb).trans h,x.nou,by decide⟩
  obtain ⟨h1,h2⟩:=box_set10 ((hW.block b hb).trans h) ((L10.new n).c:Nat) F0 n0 d0 F1 n1 d1 F2 n2 d2
  exact ⟨(Only.of_below hW).trans h2 (by simp),{ x with c10:=((L10.new n).c:Nat),s10:=⟨F0,n0,d0⟩,m10:=⟨F1,n1,d1⟩,g10:=⟨F2,n2,d2⟩ },rfl,rfl,rfl,rfl,rfl,h1,⟨hp,rfl,⟨hs.g1.only h2 hbx,hs.g2.only h2 hbx,hs.g3.only h2 hbx⟩⟩⟩)
 clear h hc hp
 go_enter Tryz.func164,Tryz.ntmps164
 go_wp2_with fail
 go_region_with (first | (go_at_call 77;refine (fld10 _ b).mono ?_;rintro e w1 ⟨rfl,rfl⟩) | (go_at_call 78;refine (KT.out _ (below_drewn (Below.refl _ _) _)).mono ?_;rintro e w5 ⟨u50,u51,u52,rfl,hb5,hk5⟩;obtain ⟨F50,n50,d50,rfl⟩:=hk5.form1;obtain ⟨F51,n51,d51,rfl⟩:=hk5.form2;obtain ⟨F52,n52,d52,rfl⟩:=hk5.form3;have hbA:=(below_drewn (Below.refl w.heap.size w) _).trans hb5;obtain ⟨k0,k1⟩:=HLD.out w5 hbA;obtain ⟨⟨z0,z1,z2,z3⟩,y7,y8,y9,y10,y'7,y'8,y'9,y'10⟩:=HFR.out w5 hbA))
 all_goals
  go_wp2
  go_end0
  exact ⟨rfl,HEND.out _ _ _ _ _ _ _ _ _ _ hbA hk5⟩
end
end Go.Proofs.YtcpggonengkgiaaGreatDoor
