/- Words and walks: McVA12 McVB12 McVC12 McVD12. -/
import Derived.Test.YtcpggonengkgiaaGreatDoorG21
import Derived.Test.YtcpggonengkgiaaGreatDoorG30
import Derived.Deep.RegionWith
import Derived.Deep.RegionHeld3
namespace Go.Proofs.YtcpggonengkgiaaGreatDoor
open Go Go.RowKit Go.Deep
set_option maxRecDepth 8000
abbrev CT12:TypeId:=188
abbrev RT13_12:TypeId:=93
abbrev cl12C:Array Value:=#[.func (.func 99) #[] #[],.func (.func 100) #[] #[],.func (.func 101) #[] #[],.func (.func 102) #[] #[],.func (.func 103) #[] #[],.func (.func 104) #[] #[],.func (.func 105) #[] #[],.func (.func 106) #[] #[],.func (.func 107) #[] #[],.func (.func 108) #[] #[]]
section
variable {w:World} {b g:Nat} {m:M13} {x:V13} {s:L12}
theorem fld12 (w:World) (b:Nat):Calls Tryz.prog 99 #[.pointer (some ⟨b,0,none⟩)] w fun e w'=>e = .returned (.pointer (some ⟨b,17,none⟩))/\w'=w:=by
 go_enter Tryz.func99,Tryz.ntmps99
 go_wp2
 go_ret
 exact ⟨rfl,rfl⟩
theorem cap12 (w:World) (s:L12) (u1 u2:Value) (hf:(∃ F n d,u1 = .slice F n d)/\(∃ F n d,u2 = .slice F n d)):Calls Tryz.prog 108 #[.agg (l12C s.c u1 u2)] w fun e w'=>e = .returned (.int .i64 (s.c:Nat))/\Below w.heap.size w w':=by
 obtain ⟨⟨F0,n0,d0,rfl⟩,⟨F1,n1,d1,rfl⟩⟩:=hf
 go_enter Tryz.func108,Tryz.ntmps108
 go_wp2
 go_ret
 exact ⟨rfl,low_one w _⟩
set_option maxHeartbeats 2000000 in
theorem touch12c (PO:Pol12Ok) (hc:w.heap[g]? = some (.cells cl12C CT12 (0,0))) (h:S13 w PT13 b m x) (hps:m.ps = .lirs s) (ok:s.Ok) (k:Nat) (hk:k < 18446744073709551616) :
  Calls Tryz.prog 206 #[.pointer (some ⟨b,0,none⟩),.int .u64 (k:Nat),.pointer (some ⟨g,0,none⟩)] w fun e w'=>e = .returned (.tuple #[])/\Ps w b m x (.lirs (s.touch k)) w':=by
 have hb:=h.lt
 have hpol:=h.st.pol
 rw [hps] at hpol
 obtain ⟨hp,hc0,hst⟩:=hpol
 have HF:=Lib.hid (fld12 w b)
 have hcl:=(head_row hc).lt
 have HLD:Hid (∀ W:World,Below w.heap.size w W->W.cell? ⟨b,17,none⟩=some (.int .i64 (s.c:Nat))/\W.cell? ⟨b,18,none⟩=some (.slice x.s12.F x.s12.n x.s12.c)/\W.cell? ⟨b,19,none⟩=some (.slice x.q12.F x.q12.n x.q12.c)/\W.cell? ⟨g,2,none⟩=some (.func (.func 101) #[] #[])):=Lib.hid (fun W hW=>by
  obtain ⟨-,-,-,-,-,-,-,-,-,-,-,-,-,-,-,-,-,p17,p18,p19,-⟩:=box_cells ((hW.block b hb).trans h.box)
  rw [hc0] at p17
  exact ⟨p17,p18,p19,(head_row ((hW.block g hcl).trans hc)).cell (i:=2) (by simp)⟩)
 have HFR:Hid (∀ W:World,Below w.heap.size w W->W.frozen? ⟨b,17,none⟩=false/\W.frozen? ⟨b,18,none⟩=false/\W.frozen? ⟨b,19,none⟩=false):=Lib.hid (fun W hW=>⟨box_free ((hW.block b hb).trans h.box) 17,box_free ((hW.block b hb).trans h.box) 18,box_free ((hW.block b hb).trans h.box) 19⟩)
 have HEND:Hid (∀ W F0 n0 d0 F1 n1 d1,Below w.heap.size w W->St12 W (s.touch k) (.slice F0 n0 d0) (.slice F1 n1 d1)->Ps w b m x (.lirs (s.touch k)) (((W.setCell ⟨b,17,none⟩ (.int .i64 ((s.touch k).c:Nat))).setCell ⟨b,18,none⟩ (.slice F0 n0 d0)).setCell ⟨b,19,none⟩ (.slice F1 n1 d1))/\∀ o out,KV W o out->KV (((W.setCell ⟨b,17,none⟩ (.int .i64 ((s.touch k).c:Nat))).setCell ⟨b,18,none⟩ (.slice F0 n0 d0)).setCell ⟨b,19,none⟩ (.slice F1 n1 d1)) o out):=Lib.hid (fun W F0 n0 d0 F1 n1 d1 hW hs=>by
  obtain ⟨h1,h2⟩:=box_set12 ((h.below hW).box) ((s.touch k).c:Nat) F0 n0 d0 F1 n1 d1
  have h3:=(h.below hW).st.only h2 (h.below hW).bx
  exact ⟨⟨(Only.of_below hW).trans h2 (by simp),{ x with c12:=((s.touch k).c:Nat),s12:=⟨F0,n0,d0⟩,q12:=⟨F1,n1,d1⟩ },rfl,⟨h1,h.ty,⟨⟨hp,rfl,⟨hs.g1.only h2 (h.below hW).bx,hs.g2.only h2 (h.below hW).bx⟩⟩,h3.prs,h3.hi,h3.mi,h3.ev⟩⟩⟩,fun o out ho=>ho.only h2 (h.below hW).bx⟩)
 have c0:w.cell? ⟨g,0,none⟩=some (.func (.func 99) #[] #[]):=(head_row hc).cell (i:=0) (by simp)
 obtain ⟨k0,k1,k2,k3⟩:=HLD.out w (Below.refl _ _)
 have KT:Hid (∀ W,Below w.heap.size w W->Calls Tryz.prog 101 #[(.agg (l12C s.c (.slice x.s12.F x.s12.n x.s12.c) (.slice x.q12.F x.q12.n x.q12.c))),.int .u64 (k:Nat)] W (P12 W (s.touch k))):=Lib.hid (fun W hW=>PO.touch (hst.below hW) ok k hk)
 clear hst hc0 hp h hps hc
 go_enter Tryz.func206,Tryz.ntmps206
 go_wp2_with (go_at_call 99;refine HF.out.mono ?_;rintro e w1 ⟨rfl,rfl⟩)
 go_region_with (go_at_call 101;refine (KT.out _ (below_drewn (Below.refl _ _) _)).mono ?_;rintro e w5 ⟨u50,u51,rfl,hb5,hk5⟩;obtain ⟨F50,n50,d50,rfl⟩:=hk5.form1;obtain ⟨F51,n51,d51,rfl⟩:=hk5.form2;have hbA:=(below_drewn (Below.refl w1.heap.size w1) _).trans hb5;obtain ⟨z0,z1,z2⟩:=HFR.out w5 hbA;obtain ⟨k0,k1,k2,k3⟩:=HLD.out w5 hbA)
 all_goals
  go_wp2
  go_end0
  exact ⟨rfl,(HEND.out _ _ _ _ _ _ _ hbA hk5).1⟩
set_option maxHeartbeats 2000000 in
theorem adm12c (PO:Pol12Ok) (hc:w.heap[g]? = some (.cells cl12C CT12 (0,0))) (h:S13 w PT13 b m x) (hps:m.ps = .lirs s) (ok:s.Ok) (k:Nat) (hk:k < 18446744073709551616) :
  Calls Tryz.prog 207 #[.pointer (some ⟨b,0,none⟩),.int .u64 (k:Nat),.pointer (some ⟨g,0,none⟩)] w fun e w'=>∃ v,e = .returned v/\Ps w b m x (.lirs (s.adm k)) w'/\KV w' v (s.admitOut k):=by
 have hb:=h.lt
 have hpol:=h.st.pol
 rw [hps] at hpol
 obtain ⟨hp,hc0,hst⟩:=hpol
 have HF:=Lib.hid (fld12 w b)
 have hcl:=(head_row hc).lt
 have HLD:Hid (∀ W:World,Below w.heap.size w W->W.cell? ⟨b,17,none⟩=some (.int .i64 (s.c:Nat))/\W.cell? ⟨b,18,none⟩=some (.slice x.s12.F x.s12.n x.s12.c)/\W.cell? ⟨b,19,none⟩=some (.slice x.q12.F x.q12.n x.q12.c)/\W.cell? ⟨g,3,none⟩=some (.func (.func 102) #[] #[])):=Lib.hid (fun W hW=>by
  obtain ⟨-,-,-,-,-,-,-,-,-,-,-,-,-,-,-,-,-,p17,p18,p19,-⟩:=box_cells ((hW.block b hb).trans h.box)
  rw [hc0] at p17
  exact ⟨p17,p18,p19,(head_row ((hW.block g hcl).trans hc)).cell (i:=3) (by simp)⟩)
 have HFR:Hid (∀ W:World,Below w.heap.size w W->W.frozen? ⟨b,17,none⟩=false/\W.frozen? ⟨b,18,none⟩=false/\W.frozen? ⟨b,19,none⟩=false):=Lib.hid (fun W hW=>⟨box_free ((hW.block b hb).trans h.box) 17,box_free ((hW.block b hb).trans h.box) 18,box_free ((hW.block b hb).trans h.box) 19⟩)
 have HEND:Hid (∀ W F0 n0 d0 F1 n1 d1,Below w.heap.size w W->St12 W (s.adm k) (.slice F0 n0 d0) (.slice F1 n1 d1)->Ps w b m x (.lirs (s.adm k)) (((W.setCell ⟨b,17,none⟩ (.int .i64 ((s.adm k).c:Nat))).setCell ⟨b,18,none⟩ (.slice F0 n0 d0)).setCell ⟨b,19,none⟩ (.slice F1 n1 d1))/\∀ o out,KV W o out->KV (((W.setCell ⟨b,17,none⟩ (.int .i64 ((s.adm k).c:Nat))).setCell ⟨b,18,none⟩ (.slice F0 n0 d0)).setCell ⟨b,19,none⟩ (.slice F1 n1 d1)) o out):=Lib.hid (fun W F0 n0 d0 F1 n1 d1 hW hs=>by
  obtain ⟨h1,h2⟩:=box_set12 ((h.below hW).box) ((s.adm k).c:Nat) F0 n0 d0 F1 n1 d1
  have h3:=(h.below hW).st.only h2 (h.below hW).bx
  exact ⟨⟨(Only.of_below hW).trans h2 (by simp),{ x with c12:=((s.adm k).c:Nat),s12:=⟨F0,n0,d0⟩,q12:=⟨F1,n1,d1⟩ },rfl,⟨h1,h.ty,⟨⟨hp,rfl,⟨hs.g1.only h2 (h.below hW).bx,hs.g2.only h2 (h.below hW).bx⟩⟩,h3.prs,h3.hi,h3.mi,h3.ev⟩⟩⟩,fun o out ho=>ho.only h2 (h.below hW).bx⟩)
 have c0:w.cell? ⟨g,0,none⟩=some (.func (.func 99) #[] #[]):=(head_row hc).cell (i:=0) (by simp)
 obtain ⟨k0,k1,k2,k3⟩:=HLD.out w (Below.refl _ _)
 have KT:Hid (∀ W,Below w.heap.size w W->Calls Tryz.prog 102 #[(.agg (l12C s.c (.slice x.s12.F x.s12.n x.s12.c) (.slice x.q12.F x.q12.n x.q12.c))),.int .u64 (k:Nat)] W (P12o W (s.adm k) (s.admitOut k))):=Lib.hid (fun W hW=>PO.adm (hst.below hW) ok k hk)
 clear hst hc0 hp h hps hc
 go_enter Tryz.func207,Tryz.ntmps207
 go_wp2_with (go_at_call 99;refine HF.out.mono ?_;rintro e w1 ⟨rfl,rfl⟩)
 go_region_with (go_at_call 102;refine (KT.out _ (below_drewn (Below.refl _ _) _)).mono ?_;rintro e w5 ⟨u50,u51,o5,he,hb5,hk5,ho5⟩;obtain ⟨F50,n50,d50,rfl⟩:=hk5.form1;obtain ⟨F51,n51,d51,rfl⟩:=hk5.form2;subst he;have hbA:=(below_drewn (Below.refl w1.heap.size w1) _).trans hb5;obtain ⟨z0,z1,z2⟩:=HFR.out w5 hbA;obtain ⟨k0,k1,k2,k3⟩:=HLD.out w5 hbA)
 all_goals
  go_wp2
  go_ret
  exact ⟨_,rfl,(HEND.out _ _ _ _ _ _ _ hbA hk5).1,(HEND.out _ _ _ _ _ _ _ hbA hk5).2 _ _ ho5⟩
set_option maxHeartbeats 2000000 in
theorem drop12c (PO:Pol12Ok) (hc:w.heap[g]? = some (.cells cl12C CT12 (0,0))) (h:S13 w PT13 b m x) (hps:m.ps = .lirs s) (ok:s.Ok) (k:Nat) (hk:k < 18446744073709551616) :
  Calls Tryz.prog 208 #[.pointer (some ⟨b,0,none⟩),.int .u64 (k:Nat),.pointer (some ⟨g,0,none⟩)] w fun e w'=>e = .returned (.tuple #[])/\Ps w b m x (.lirs (s.drop k)) w':=by
 have hb:=h.lt
 have hpol:=h.st.pol
 rw [hps] at hpol
 obtain ⟨hp,hc0,hst⟩:=hpol
 have HF:=Lib.hid (fld12 w b)
 have hcl:=(head_row hc).lt
 have HLD:Hid (∀ W:World,Below w.heap.size w W->W.cell? ⟨b,17,none⟩=some (.int .i64 (s.c:Nat))/\W.cell? ⟨b,18,none⟩=some (.slice x.s12.F x.s12.n x.s12.c)/\W.cell? ⟨b,19,none⟩=some (.slice x.q12.F x.q12.n x.q12.c)/\W.cell? ⟨g,4,none⟩=some (.func (.func 103) #[] #[])):=Lib.hid (fun W hW=>by
  obtain ⟨-,-,-,-,-,-,-,-,-,-,-,-,-,-,-,-,-,p17,p18,p19,-⟩:=box_cells ((hW.block b hb).trans h.box)
  rw [hc0] at p17
  exact ⟨p17,p18,p19,(head_row ((hW.block g hcl).trans hc)).cell (i:=4) (by simp)⟩)
 have HFR:Hid (∀ W:World,Below w.heap.size w W->W.frozen? ⟨b,17,none⟩=false/\W.frozen? ⟨b,18,none⟩=false/\W.frozen? ⟨b,19,none⟩=false):=Lib.hid (fun W hW=>⟨box_free ((hW.block b hb).trans h.box) 17,box_free ((hW.block b hb).trans h.box) 18,box_free ((hW.block b hb).trans h.box) 19⟩)
 have HEND:Hid (∀ W F0 n0 d0 F1 n1 d1,Below w.heap.size w W->St12 W (s.drop k) (.slice F0 n0 d0) (.slice F1 n1 d1)->Ps w b m x (.lirs (s.drop k)) (((W.setCell ⟨b,17,none⟩ (.int .i64 ((s.drop k).c:Nat))).setCell ⟨b,18,none⟩ (.slice F0 n0 d0)).setCell ⟨b,19,none⟩ (.slice F1 n1 d1))/\∀ o out,KV W o out->KV (((W.setCell ⟨b,17,none⟩ (.int .i64 ((s.drop k).c:Nat))).setCell ⟨b,18,none⟩ (.slice F0 n0 d0)).setCell ⟨b,19,none⟩ (.slice F1 n1 d1)) o out):=Lib.hid (fun W F0 n0 d0 F1 n1 d1 hW hs=>by
  obtain ⟨h1,h2⟩:=box_set12 ((h.below hW).box) ((s.drop k).c:Nat) F0 n0 d0 F1 n1 d1
  have h3:=(h.below hW).st.only h2 (h.below hW).bx
  exact ⟨⟨(Only.of_below hW).trans h2 (by simp),{ x with c12:=((s.drop k).c:Nat),s12:=⟨F0,n0,d0⟩,q12:=⟨F1,n1,d1⟩ },rfl,⟨h1,h.ty,⟨⟨hp,rfl,⟨hs.g1.only h2 (h.below hW).bx,hs.g2.only h2 (h.below hW).bx⟩⟩,h3.prs,h3.hi,h3.mi,h3.ev⟩⟩⟩,fun o out ho=>ho.only h2 (h.below hW).bx⟩)
 have c0:w.cell? ⟨g,0,none⟩=some (.func (.func 99) #[] #[]):=(head_row hc).cell (i:=0) (by simp)
 obtain ⟨k0,k1,k2,k3⟩:=HLD.out w (Below.refl _ _)
 have KT:Hid (∀ W,Below w.heap.size w W->Calls Tryz.prog 103 #[(.agg (l12C s.c (.slice x.s12.F x.s12.n x.s12.c) (.slice x.q12.F x.q12.n x.q12.c))),.int .u64 (k:Nat)] W (P12 W (s.drop k))):=Lib.hid (fun W hW=>PO.drop (hst.below hW) ok k hk)
 clear hst hc0 hp h hps hc
 go_enter Tryz.func208,Tryz.ntmps208
 go_wp2_with (go_at_call 99;refine HF.out.mono ?_;rintro e w1 ⟨rfl,rfl⟩)
 go_region_with (go_at_call 103;refine (KT.out _ (below_drewn (Below.refl _ _) _)).mono ?_;rintro e w5 ⟨u50,u51,rfl,hb5,hk5⟩;obtain ⟨F50,n50,d50,rfl⟩:=hk5.form1;obtain ⟨F51,n51,d51,rfl⟩:=hk5.form2;have hbA:=(below_drewn (Below.refl w1.heap.size w1) _).trans hb5;obtain ⟨z0,z1,z2⟩:=HFR.out w5 hbA;obtain ⟨k0,k1,k2,k3⟩:=HLD.out w5 hbA)
 all_goals
  go_wp2
  go_end0
  exact ⟨rfl,(HEND.out _ _ _ _ _ _ _ hbA hk5).1⟩
set_option maxHeartbeats 2000000 in
theorem resize12c (PO:Pol12Ok) (hc:w.heap[g]? = some (.cells cl12C CT12 (0,0))) (h:S13 w PT13 b m x) (hps:m.ps = .lirs s) (ok:s.Ok) (n:Int) (hn1 : -9223372036854775808<=n) (hn2:n<=9223372036854775807) :
  Calls Tryz.prog 203 #[.pointer (some ⟨b,0,none⟩),.int .i64 n,.pointer (some ⟨g,0,none⟩)] w fun e w'=>∃ v,e = .returned v/\Ps w b m x (.lirs (s.resize n)) w'/\KV w' v (s.resizeOut n):=by
 have hb:=h.lt
 have hpol:=h.st.pol
 rw [hps] at hpol
 obtain ⟨hp,hc0,hst⟩:=hpol
 have HF:=Lib.hid (fld12 w b)
 have hcl:=(head_row hc).lt
 have HLD:Hid (∀ W:World,Below w.heap.size w W->W.cell? ⟨b,17,none⟩=some (.int .i64 (s.c:Nat))/\W.cell? ⟨b,18,none⟩=some (.slice x.s12.F x.s12.n x.s12.c)/\W.cell? ⟨b,19,none⟩=some (.slice x.q12.F x.q12.n x.q12.c)/\W.cell? ⟨g,5,none⟩=some (.func (.func 104) #[] #[])):=Lib.hid (fun W hW=>by
  obtain ⟨-,-,-,-,-,-,-,-,-,-,-,-,-,-,-,-,-,p17,p18,p19,-⟩:=box_cells ((hW.block b hb).trans h.box)
  rw [hc0] at p17
  exact ⟨p17,p18,p19,(head_row ((hW.block g hcl).trans hc)).cell (i:=5) (by simp)⟩)
 have HFR:Hid (∀ W:World,Below w.heap.size w W->W.frozen? ⟨b,17,none⟩=false/\W.frozen? ⟨b,18,none⟩=false/\W.frozen? ⟨b,19,none⟩=false):=Lib.hid (fun W hW=>⟨box_free ((hW.block b hb).trans h.box) 17,box_free ((hW.block b hb).trans h.box) 18,box_free ((hW.block b hb).trans h.box) 19⟩)
 have HEND:Hid (∀ W F0 n0 d0 F1 n1 d1,Below w.heap.size w W->St12 W (s.resize n) (.slice F0 n0 d0) (.slice F1 n1 d1)->Ps w b m x (.lirs (s.resize n)) (((W.setCell ⟨b,17,none⟩ (.int .i64 ((s.resize n).c:Nat))).setCell ⟨b,18,none⟩ (.slice F0 n0 d0)).setCell ⟨b,19,none⟩ (.slice F1 n1 d1))/\∀ o out,KV W o out->KV (((W.setCell ⟨b,17,none⟩ (.int .i64 ((s.resize n).c:Nat))).setCell ⟨b,18,none⟩ (.slice F0 n0 d0)).setCell ⟨b,19,none⟩ (.slice F1 n1 d1)) o out):=Lib.hid (fun W F0 n0 d0 F1 n1 d1 hW hs=>by
  obtain ⟨h1,h2⟩:=box_set12 ((h.below hW).box) ((s.resize n).c:Nat) F0 n0 d0 F1 n1 d1
  have h3:=(h.below hW).st.only h2 (h.below hW).bx
  exact ⟨⟨(Only.of_below hW).trans h2 (by simp),{ x with c12:=((s.resize n).c:Nat),s12:=⟨F0,n0,d0⟩,q12:=⟨F1,n1,d1⟩ },rfl,⟨h1,h.ty,⟨⟨hp,rfl,⟨hs.g1.only h2 (h.below hW).bx,hs.g2.only h2 (h.below hW).bx⟩⟩,h3.prs,h3.hi,h3.mi,h3.ev⟩⟩⟩,fun o out ho=>ho.only h2 (h.below hW).bx⟩)
 have c0:w.cell? ⟨g,0,none⟩=some (.func (.func 99) #[] #[]):=(head_row hc).cell (i:=0) (by simp)
 obtain ⟨k0,k1,k2,k3⟩:=HLD.out w (Below.refl _ _)
 have KT:Hid (∀ W,Below w.heap.size w W->Calls Tryz.prog 104 #[(.agg (l12C s.c (.slice x.s12.F x.s12.n x.s12.c) (.slice x.q12.F x.q12.n x.q12.c))),.int .i64 n] W (P12o W (s.resize n) (s.resizeOut n))):=Lib.hid (fun W hW=>PO.resize (hst.below hW) ok n hn1 hn2)
 clear hst hc0 hp h hps hc
 go_enter Tryz.func203,Tryz.ntmps203
 go_wp2_with (go_at_call 99;refine HF.out.mono ?_;rintro e w1 ⟨rfl,rfl⟩)
 go_region_with (go_at_call 104;refine (KT.out _ (below_drewn (Below.refl _ _) _)).mono ?_;rintro e w5 ⟨u50,u51,o5,he,hb5,hk5,ho5⟩;obtain ⟨F50,n50,d50,rfl⟩:=hk5.form1;obtain ⟨F51,n51,d51,rfl⟩:=hk5.form2;subst he;have hbA:=(below_drewn (Below.refl w1.heap.size w1) _).trans hb5;obtain ⟨z0,z1,z2⟩:=HFR.out w5 hbA;obtain ⟨k0,k1,k2,k3⟩:=HLD.out w5 hbA)
 all_goals
  go_wp2
  go_ret
  exact ⟨_,rfl,(HEND.out _ _ _ _ _ _ _ hbA hk5).1,(HEND.out _ _ _ _ _ _ _ hbA hk5).2 _ _ ho5⟩
end
set_option maxRecDepth 8000
section
variable {w:World} {b g:Nat} {m:M13} {x:V13} {s:L12}
set_option maxHeartbeats 2000000 in
theorem has12c (PO:Pol12Ok) (hc:w.heap[g]? = some (.cells cl12C CT12 (0,0))) (h:S13 w PT13 b m x) (hps:m.ps = .lirs s) (ok:s.Ok) (k:Nat) (hk:k < 18446744073709551616) :
  Calls Tryz.prog 209 #[.pointer (some ⟨b,0,none⟩),.int .u64 (k:Nat),.pointer (some ⟨g,0,none⟩)] w (RetB w (decide (k∈s.keys))):=by
 have hb:=h.lt
 have hpol:=h.st.pol
 rw [hps] at hpol
 obtain ⟨hp,hc0,hst⟩:=hpol
 have HF:=Lib.hid (fld12 w b)
 have hcl:=(head_row hc).lt
 have HLD:Hid (∀ W:World,Below w.heap.size w W->W.cell? ⟨b,17,none⟩=some (.int .i64 (s.c:Nat))/\W.cell? ⟨b,18,none⟩=some (.slice x.s12.F x.s12.n x.s12.c)/\W.cell? ⟨b,19,none⟩=some (.slice x.q12.F x.q12.n x.q12.c)/\W.cell? ⟨g,6,none⟩=some (.func (.func 105) #[] #[])):=Lib.hid (fun W hW=>by
  obtain ⟨-,-,-,-,-,-,-,-,-,-,-,-,-,-,-,-,-,p17,p18,p19,-⟩:=box_cells ((hW.block b hb).trans h.box)
  rw [hc0] at p17
  exact ⟨p17,p18,p19,(head_row ((hW.block g hcl).trans hc)).cell (i:=6) (by simp)⟩)
 have c0:w.cell? ⟨g,0,none⟩=some (.func (.func 99) #[] #[]):=(head_row hc).cell (i:=0) (by simp)
 obtain ⟨k0,k1,k2,k3⟩:=HLD.out w (Below.refl _ _)
 have KT:Hid (∀ W,Below w.heap.size w W->Calls Tryz.prog 105 #[(.agg (l12C s.c (.slice x.s12.F x.s12.n x.s12.c) (.slice x.q12.F x.q12.n x.q12.c))),.int .u64 (k:Nat)] W (RetB W (decide (k∈s.keys)))):=Lib.hid (fun W hW=>PO.has (hst.below hW) ok k hk)
 have HL5:Hid (∀ W:World,Below w.heap.size w W->W.cell? ⟨b,17,none⟩=some (.int .i64 (s.c:Nat))/\W.cell? ⟨b,18,none⟩=some (.slice x.s12.F x.s12.n x.s12.c)/\W.cell? ⟨b,19,none⟩=some (.slice x.q12.F x.q12.n x.q12.c)/\W.cell? ⟨g,6,none⟩=some (.func (.func 105) #[] #[])/\W.cell? ⟨g,0,none⟩=some (.func (.func 99) #[] #[])):=Lib.hid (fun W hW=>by
  obtain ⟨j0,j1,j2,j3⟩:=HLD.out W hW
  exact ⟨j0,j1,j2,j3,(head_row ((hW.block g hcl).trans hc)).cell (i:=0) (by simp)⟩)
 clear hst hc0 hp h hps hc
 go_enter Tryz.func209,Tryz.ntmps209
 go_wp2_with fail
 go_region_held3 (fun w'=>w'.cell? ⟨b,17,none⟩=some (.int .i64 (s.c:Nat))/\w'.cell? ⟨b,18,none⟩=some (.slice x.s12.F x.s12.n x.s12.c)/\w'.cell? ⟨b,19,none⟩=some (.slice x.q12.F x.q12.n x.q12.c)/\w'.cell? ⟨g,6,none⟩=some (.func (.func 105) #[] #[])/\w'.cell? ⟨g,0,none⟩=some (.func (.func 99) #[] #[]))
  (first | with_reducible exact kk5 | go_keep)
  (first
  | (go_at_call 99;refine (fld12 _ b).mono ?_;rintro e w1 ⟨rfl,rfl⟩)
  | (go_at_call 105;refine (KT.out _ (below_drewn (Below.refl _ _) _)).mono ?_;rintro e w5 ⟨rfl,hb5⟩;have hbA:=(below_drewn (Below.refl w.heap.size w) _).trans hb5;have kk5:=HL5.out w5 hbA))
 all_goals
  go_wp2
  go_ret
  exact ⟨rfl,hbA⟩
set_option maxHeartbeats 2000000 in
theorem keys12c (PO:Pol12Ok) (hc:w.heap[g]? = some (.cells cl12C CT12 (0,0))) (h:S13 w PT13 b m x) (hps:m.ps = .lirs s) (ok:s.Ok)  :
  Calls Tryz.prog 210 #[.pointer (some ⟨b,0,none⟩),.pointer (some ⟨g,0,none⟩)] w (RetK w s.keys):=by
 have hb:=h.lt
 have hpol:=h.st.pol
 rw [hps] at hpol
 obtain ⟨hp,hc0,hst⟩:=hpol
 have HF:=Lib.hid (fld12 w b)
 have hcl:=(head_row hc).lt
 have HLD:Hid (∀ W:World,Below w.heap.size w W->W.cell? ⟨b,17,none⟩=some (.int .i64 (s.c:Nat))/\W.cell? ⟨b,18,none⟩=some (.slice x.s12.F x.s12.n x.s12.c)/\W.cell? ⟨b,19,none⟩=some (.slice x.q12.F x.q12.n x.q12.c)/\W.cell? ⟨g,7,none⟩=some (.func (.func 106) #[] #[])):=Lib.hid (fun W hW=>by
  obtain ⟨-,-,-,-,-,-,-,-,-,-,-,-,-,-,-,-,-,p17,p18,p19,-⟩:=box_cells ((hW.block b hb).trans h.box)
  rw [hc0] at p17
  exact ⟨p17,p18,p19,(head_row ((hW.block g hcl).trans hc)).cell (i:=7) (by simp)⟩)
 have c0:w.cell? ⟨g,0,none⟩=some (.func (.func 99) #[] #[]):=(head_row hc).cell (i:=0) (by simp)
 obtain ⟨k0,k1,k2,k3⟩:=HLD.out w (Below.refl _ _)
 have KT:Hid (∀ W,Below w.heap.size w W->Calls Tryz.prog 106 #[(.agg (l12C s.c (.slice x.s12.F x.s12.n x.s12.c) (.slice x.q12.F x.q12.n x.q12.c)))] W (RetK W s.keys)):=Lib.hid (fun W hW=>PO.keys (hst.below hW) ok)
 have HL5:Hid (∀ W:World,Below w.heap.size w W->W.cell? ⟨b,17,none⟩=some (.int .i64 (s.c:Nat))/\W.cell? ⟨b,18,none⟩=some (.slice x.s12.F x.s12.n x.s12.c)/\W.cell? ⟨b,19,none⟩=some (.slice x.q12.F x.q12.n x.q12.c)/\W.cell? ⟨g,7,none⟩=some (.func (.func 106) #[] #[])/\W.cell? ⟨g,0,none⟩=some (.func (.func 99) #[] #[])):=Lib.hid (fun W hW=>by
  obtain ⟨j0,j1,j2,j3⟩:=HLD.out W hW
  exact ⟨j0,j1,j2,j3,(head_row ((hW.block g hcl).trans hc)).cell (i:=0) (by simp)⟩)
 clear hst hc0 hp h hps hc
 go_enter Tryz.func210,Tryz.ntmps210
 go_wp2_with fail
 go_region_held3 (fun w'=>w'.cell? ⟨b,17,none⟩=some (.int .i64 (s.c:Nat))/\w'.cell? ⟨b,18,none⟩=some (.slice x.s12.F x.s12.n x.s12.c)/\w'.cell? ⟨b,19,none⟩=some (.slice x.q12.F x.q12.n x.q12.c)/\w'.cell? ⟨g,7,none⟩=some (.func (.func 106) #[] #[])/\w'.cell? ⟨g,0,none⟩=some (.func (.func 99) #[] #[]))
  (first | with_reducible exact kk5 | go_keep)
  (first
  | (go_at_call 99;refine (fld12 _ b).mono ?_;rintro e w1 ⟨rfl,rfl⟩)
  | (go_at_call 106;refine (KT.out _ (below_drewn (Below.refl _ _) _)).mono ?_;rintro e w5 ⟨v5,rfl,hb5,hk5⟩;have hbA:=(below_drewn (Below.refl w.heap.size w) _).trans hb5;have kk5:=HL5.out w5 hbA))
 all_goals
  go_wp2
  go_ret
  exact ⟨_,rfl,hbA,hk5⟩
set_option maxHeartbeats 2000000 in
theorem ghosts12c (PO:Pol12Ok) (hc:w.heap[g]? = some (.cells cl12C CT12 (0,0))) (h:S13 w PT13 b m x) (hps:m.ps = .lirs s) (ok:s.Ok)  :
  Calls Tryz.prog 211 #[.pointer (some ⟨b,0,none⟩),.pointer (some ⟨g,0,none⟩)] w (fun e w'=>e = .returned (.int .i64 (s.ghosts:Nat))/\Below w.heap.size w w'):=by
 have hb:=h.lt
 have hpol:=h.st.pol
 rw [hps] at hpol
 obtain ⟨hp,hc0,hst⟩:=hpol
 have HF:=Lib.hid (fld12 w b)
 have hcl:=(head_row hc).lt
 have HLD:Hid (∀ W:World,Below w.heap.size w W->W.cell? ⟨b,17,none⟩=some (.int .i64 (s.c:Nat))/\W.cell? ⟨b,18,none⟩=some (.slice x.s12.F x.s12.n x.s12.c)/\W.cell? ⟨b,19,none⟩=some (.slice x.q12.F x.q12.n x.q12.c)/\W.cell? ⟨g,8,none⟩=some (.func (.func 107) #[] #[])):=Lib.hid (fun W hW=>by
  obtain ⟨-,-,-,-,-,-,-,-,-,-,-,-,-,-,-,-,-,p17,p18,p19,-⟩:=box_cells ((hW.block b hb).trans h.box)
  rw [hc0] at p17
  exact ⟨p17,p18,p19,(head_row ((hW.block g hcl).trans hc)).cell (i:=8) (by simp)⟩)
 have c0:w.cell? ⟨g,0,none⟩=some (.func (.func 99) #[] #[]):=(head_row hc).cell (i:=0) (by simp)
 obtain ⟨k0,k1,k2,k3⟩:=HLD.out w (Below.refl _ _)
 have KT:Hid (∀ W,Below w.heap.size w W->Calls Tryz.prog 107 #[(.agg (l12C s.c (.slice x.s12.F x.s12.n x.s12.c) (.slice x.q12.F x.q12.n x.q12.c)))] W (fun e w'=>e = .returned (.int .i64 (s.ghosts:Nat))/\Below W.heap.size W w')):=Lib.hid (fun W hW=>PO.ghosts (hst.below hW) ok)
 have HL5:Hid (∀ W:World,Below w.heap.size w W->W.cell? ⟨b,17,none⟩=some (.int .i64 (s.c:Nat))/\W.cell? ⟨b,18,none⟩=some (.slice x.s12.F x.s12.n x.s12.c)/\W.cell? ⟨b,19,none⟩=some (.slice x.q12.F x.q12.n x.q12.c)/\W.cell? ⟨g,8,none⟩=some (.func (.func 107) #[] #[])/\W.cell? ⟨g,0,none⟩=some (.func (.func 99) #[] #[])):=Lib.hid (fun W hW=>by
  obtain ⟨j0,j1,j2,j3⟩:=HLD.out W hW
  exact ⟨j0,j1,j2,j3,(head_row ((hW.block g hcl).trans hc)).cell (i:=0) (by simp)⟩)
 clear hst hc0 hp h hps hc
 go_enter Tryz.func211,Tryz.ntmps211
 go_wp2_with fail
 go_region_held3 (fun w'=>w'.cell? ⟨b,17,none⟩=some (.int .i64 (s.c:Nat))/\w'.cell? ⟨b,18,none⟩=some (.slice x.s12.F x.s12.n x.s12.c)/\w'.cell? ⟨b,19,none⟩=some (.slice x.q12.F x.q12.n x.q12.c)/\w'.cell? ⟨g,8,none⟩=some (.func (.func 107) #[] #[])/\w'.cell? ⟨g,0,none⟩=some (.func (.func 99) #[] #[]))
  (first | with_reducible exact kk5 | go_keep)
  (first
  | (go_at_call 99;refine (fld12 _ b).mono ?_;rintro e w1 ⟨rfl,rfl⟩)
  | (go_at_call 107;refine (KT.out _ (below_drewn (Below.refl _ _) _)).mono ?_;rintro e w5 ⟨rfl,hb5⟩;have hbA:=(below_drewn (Below.refl w.heap.size w) _).trans hb5;have kk5:=HL5.out w5 hbA))
 all_goals
  go_wp2
  go_ret
  exact ⟨rfl,hbA⟩
set_option maxHeartbeats 2000000 in
theorem caps12c (hc:w.heap[g]? = some (.cells cl12C CT12 (0,0))) (h:S13 w PT13 b m x) (hps:m.ps = .lirs s)  :
  Calls Tryz.prog 212 #[.pointer (some ⟨b,0,none⟩),.pointer (some ⟨g,0,none⟩)] w (fun e w'=>e = .returned (.int .i64 (s.c:Nat))/\Below w.heap.size w w'):=by
 have hb:=h.lt
 have hpol:=h.st.pol
 rw [hps] at hpol
 obtain ⟨hp,hc0,hst⟩:=hpol
 have HF:=Lib.hid (fld12 w b)
 have hcl:=(head_row hc).lt
 have HLD:Hid (∀ W:World,Below w.heap.size w W->W.cell? ⟨b,17,none⟩=some (.int .i64 (s.c:Nat))/\W.cell? ⟨b,18,none⟩=some (.slice x.s12.F x.s12.n x.s12.c)/\W.cell? ⟨b,19,none⟩=some (.slice x.q12.F x.q12.n x.q12.c)/\W.cell? ⟨g,9,none⟩=some (.func (.func 108) #[] #[])):=Lib.hid (fun W hW=>by
  obtain ⟨-,-,-,-,-,-,-,-,-,-,-,-,-,-,-,-,-,p17,p18,p19,-⟩:=box_cells ((hW.block b hb).trans h.box)
  rw [hc0] at p17
  exact ⟨p17,p18,p19,(head_row ((hW.block g hcl).trans hc)).cell (i:=9) (by simp)⟩)
 have c0:w.cell? ⟨g,0,none⟩=some (.func (.func 99) #[] #[]):=(head_row hc).cell (i:=0) (by simp)
 obtain ⟨k0,k1,k2,k3⟩:=HLD.out w (Below.refl _ _)
 have KT:Hid (∀ W,Below w.heap.size w W->Calls Tryz.prog 108 #[(.agg (l12C s.c (.slice x.s12.F x.s12.n x.s12.c) (.slice x.q12.F x.q12.n x.q12.c)))] W (fun e w'=>e = .returned (.int .i64 (s.c:Nat))/\Below W.heap.size W w')):=Lib.hid (fun W hW=>cap12 W s _ _ (⟨(hst.below hW).form1,(hst.below hW).form2⟩))
 have HL5:Hid (∀ W:World,Below w.heap.size w W->W.cell? ⟨b,17,none⟩=some (.int .i64 (s.c:Nat))/\W.cell? ⟨b,18,none⟩=some (.slice x.s12.F x.s12.n x.s12.c)/\W.cell? ⟨b,19,none⟩=some (.slice x.q12.F x.q12.n x.q12.c)/\W.cell? ⟨g,9,none⟩=some (.func (.func 108) #[] #[])/\W.cell? ⟨g,0,none⟩=some (.func (.func 99) #[] #[])):=Lib.hid (fun W hW=>by
  obtain ⟨j0,j1,j2,j3⟩:=HLD.out W hW
  exact ⟨j0,j1,j2,j3,(head_row ((hW.block g hcl).trans hc)).cell (i:=0) (by simp)⟩)
 clear hst hc0 hp h hps hc
 go_enter Tryz.func212,Tryz.ntmps212
 go_wp2_with fail
 go_region_held3 (fun w'=>w'.cell? ⟨b,17,none⟩=some (.int .i64 (s.c:Nat))/\w'.cell? ⟨b,18,none⟩=some (.slice x.s12.F x.s12.n x.s12.c)/\w'.cell? ⟨b,19,none⟩=some (.slice x.q12.F x.q12.n x.q12.c)/\w'.cell? ⟨g,9,none⟩=some (.func (.func 108) #[] #[])/\w'.cell? ⟨g,0,none⟩=some (.func (.func 99) #[] #[]))
  (first | with_reducible exact kk5 | go_keep)
  (first
  | (go_at_call 99;refine (fld12 _ b).mono ?_;rintro e w1 ⟨rfl,rfl⟩)
  | (go_at_call 108;refine (KT.out _ (below_drewn (Below.refl _ _) _)).mono ?_;rintro e w5 ⟨rfl,hb5⟩;have hbA:=(below_drewn (Below.refl w.heap.size w) _).trans hb5;have kk5:=HL5.out w5 hbA))
 all_goals
  go_wp2
  go_ret
  exact ⟨rfl,hbA⟩
end
set_option maxRecDepth 8000
section
variable {w:World} {b g:Nat} {m:M13} {x:V13} {s:L12}
set_option maxHeartbeats 4000000 in
theorem own12c (PO:Pol12Ok) (hc:w.heap[g]? = some (.cells cl12C CT12 (0,0))) (h:S13 w PT13 b m x) (hps:m.ps = .lirs s) (ok:s.Ok) {g2:Nat} (hr:w.heap[g2]? = some (.cells #[.func (.func 203) #[] #[.pointer (some ⟨g,0,none⟩)]] RT13_12 (0,0))) :
  Calls Tryz.prog 205 #[.pointer (some ⟨b,0,none⟩),.pointer (some ⟨g2,0,none⟩),.pointer (some ⟨g,0,none⟩)] w fun e w'=>e = .returned (.tuple #[])/\Ps w b m x (.lirs s) w':=by
 have hb:=h.lt
 have hpol:=h.st.pol
 rw [hps] at hpol
 obtain ⟨hp,hc0,hst⟩:=hpol
 have hcl:=(head_row hc).lt
 have hrl:=(head_row hr).lt
 have HSS:Hid (∀ W:World,Below w.heap.size w W->W.cell? ⟨g2,0,none⟩=some (.func (.func 203) #[] #[.pointer (some ⟨g,0,none⟩)])/\W.cell? ⟨g,0,none⟩=some (.func (.func 99) #[] #[])/\W.cell? ⟨g,9,none⟩=some (.func (.func 108) #[] #[])):=Lib.hid (fun W hW=>by
  exact ⟨(head_row ((hW.block g2 hrl).trans hr)).cell (i:=0) (by simp),(head_row ((hW.block g hcl).trans hc)).cell (i:=0) (by simp),(head_row ((hW.block g hcl).trans hc)).cell (i:=9) (by simp)⟩)
 have KC:Hid (∀ W F0 n0 d0 F1 n1 d1,Calls Tryz.prog 108 #[.agg (l12C s.c (.slice F0 n0 d0) (.slice F1 n1 d1))] W (fun e w'=>e = .returned (.int .i64 (s.c:Nat))/\Below W.heap.size W w')):=Lib.hid (fun W F0 n0 d0 F1 n1 d1=>cap12 W s _ _ (⟨⟨F0,n0,d0,rfl⟩,⟨F1,n1,d1,rfl⟩⟩))
 have hcap:=ok.cap
 have KR:Hid (∀ W,Below w.heap.size w W->Calls Tryz.prog 203 #[.pointer (some ⟨b,0,none⟩),.int .i64 (s.c:Nat),.pointer (some ⟨g,0,none⟩)] W (fun e w'=>∃ v,e = .returned v/\Ps w b m x (.lirs s) w')):=Lib.hid (fun W hW=>by
  refine (resize12c PO ((hW.block g hcl).trans hc) (h.below hW) hps ok (s.c:Nat) (by omega) (by omega)).mono ?_
  rintro e w' ⟨v,rfl,⟨h1,x',h2,h3⟩,_⟩
  rw [(L12.own ok).1] at h3
  exact ⟨v,rfl,⟨(Only.of_below hW).trans h1 (by simp),x',h2,h3⟩⟩)
 obtain ⟨k0,k1,k2⟩:=HSS.out w (Below.refl _ _)
 obtain ⟨-,-,-,-,-,-,-,-,-,-,-,-,-,-,-,-,-,p17,p18,p19,-⟩:=box_cells h.box
 rw [hc0] at p17
 clear hst hc0 hp h hps hc hr hcap
 go_enter Tryz.func205,Tryz.ntmps205
 go_wp2_with fail
 go_region_with (first | (go_at_call 99;refine (fld12 _ b).mono ?_;rintro e w1 ⟨rfl,rfl⟩) | (go_at_call 108;refine (KC.out _ _ _ _ _ _ _).mono ?_;rintro e w5 ⟨rfl,hb5⟩;have hbA:=(below_drewn (Below.refl w.heap.size w) _).trans hb5;obtain ⟨k0,k1,k2⟩:=HSS.out w5 hbA) | (go_at_call 203;refine (KR.out _ hbA).mono ?_;rintro e w6 ⟨v6,rfl,hp6⟩))
 all_goals
  go_wp2
  go_end0
  exact ⟨rfl,hp6⟩
end
set_option maxRecDepth 8000
section
variable {w:World} {b g:Nat} {m:M13} {x:V13} {s:L12}
set_option maxHeartbeats 4000000 in
theorem start12c (PO:Pol12Ok) (hc:w.heap[g]? = some (.cells cl12C CT12 (0,0))) (h:w.heap[b]? = some (.cells x.C PT13 (0,0))) (hp:x.p=5) (n:Int) (hn1 : -9223372036854775808<=n) (hn2:n<=9223372036854775807) :
  Calls Tryz.prog 204 #[.pointer (some ⟨b,0,none⟩),.int .i64 n,.pointer (some ⟨g,0,none⟩)] w fun e w'=>e = .returned (.tuple #[])/\Only [b] w w'/\∃ x':V13,x'.pr=x.pr/\x'.p=x.p/\x'.hi=x.hi/\x'.mi=x.mi/\x'.ev=x.ev/\w'.heap[b]? = some (.cells x'.C PT13 (0,0))/\PolIn w' x' (.lirs (L12.new n)):=by
 have hb:=(head_row h).lt
 have hcl:=(head_row hc).lt
 have KT:Hid (∀ W,Below w.heap.size w W->Calls Tryz.prog 100 #[.int .i64 n] W (P12 W (L12.new n))):=Lib.hid (fun W _=>PO.new W n hn1 hn2)
 have HLD:Hid (∀ W:World,Below w.heap.size w W->W.cell? ⟨g,0,none⟩=some (.func (.func 99) #[] #[])/\W.cell? ⟨g,1,none⟩=some (.func (.func 100) #[] #[])):=Lib.hid (fun W hW=>⟨(head_row ((hW.block g hcl).trans hc)).cell (i:=0) (by simp),(head_row ((hW.block g hcl).trans hc)).cell (i:=1) (by simp)⟩)
 have HFR:Hid (∀ W:World,Below w.heap.size w W->(W.frozen? ⟨b,17,none⟩=false/\W.frozen? ⟨b,18,none⟩=false/\W.frozen? ⟨b,19,none⟩=false)/\∃ v17 v18 v19,W.cell? ⟨b,17,none⟩=some v17/\W.cell? ⟨b,18,none⟩=some v18/\W.cell? ⟨b,19,none⟩=some v19):=Lib.hid (fun W hW=>by
  obtain ⟨-,-,-,-,-,-,-,-,-,-,-,-,-,-,-,-,-,p17,p18,p19,-⟩:=box_cells ((hW.block b hb).trans h)
  exact ⟨⟨box_free ((hW.block b hb).trans h) 17,box_free ((hW.block b hb).trans h) 18,box_free ((hW.block b hb).trans h) 19⟩,_,_,_,p17,p18,p19⟩)
 obtain ⟨k0,k1⟩:=HLD.out w (Below.refl _ _)
 have HEND:Hid (∀ W F0 n0 d0 F1 n1 d1,Below w.heap.size w W->St12 W (L12.new n) (.slice F0 n0 d0) (.slice F1 n1 d1)->Only [b] w (((W.setCell ⟨b,17,none⟩ (.int .i64 ((L12.new n).c:Nat))).setCell ⟨b,18,none⟩ (.slice F0 n0 d0)).setCell ⟨b,19,none⟩ (.slice F1 n1 d1))/\∃ x':V13,x'.pr=x.pr/\x'.p=x.p/\x'.hi=x.hi/\x'.mi=x.mi/\x'.ev=x.ev/\((((W.setCell ⟨b,17,none⟩ (.int .i64 ((L12.new n).c:Nat))).setCell ⟨b,18,none⟩ (.slice F0 n0 d0)).setCell ⟨b,19,none⟩ (.slice F1 n1 d1))).heap[b]? = some (.cells x'.C PT13 (0,0))/\PolIn (((W.setCell ⟨b,17,none⟩ (.int .i64 ((L12.new n).c:Nat))).setCell ⟨b,18,none⟩ (.slice F0 n0 d0)).setCell ⟨b,19,none⟩ (.slice F1 n1 d1)) x' (.lirs (L12.new n))):=Lib.hid (fun W F0 n0 d0 F1 n1 d1 hW hs=>by
  have hbx:∀ j∈[b],Bx W j:=fun j hj=>by
   have e:j=b:=by simpa using hj
   rw [e]
   exact ⟨_,_,(hW.block b hb).trans h,x.nou,by decide⟩
  obtain ⟨h1,h2⟩:=box_set12 ((hW.block b hb).trans h) ((L12.new n).c:Nat) F0 n0 d0 F1 n1 d1
  exact ⟨(Only.of_below hW).trans h2 (by simp),{ x with c12:=((L12.new n).c:Nat),s12:=⟨F0,n0,d0⟩,q12:=⟨F1,n1,d1⟩ },rfl,rfl,rfl,rfl,rfl,h1,⟨hp,rfl,⟨hs.g1.only h2 hbx,hs.g2.only h2 hbx⟩⟩⟩)
 clear h hc hp
 go_enter Tryz.func204,Tryz.ntmps204
 go_wp2_with fail
 go_region_with (first | (go_at_call 99;refine (fld12 _ b).mono ?_;rintro e w1 ⟨rfl,rfl⟩) | (go_at_call 100;refine (KT.out _ (below_drewn (Below.refl _ _) _)).mono ?_;rintro e w5 ⟨u50,u51,rfl,hb5,hk5⟩;obtain ⟨F50,n50,d50,rfl⟩:=hk5.form1;obtain ⟨F51,n51,d51,rfl⟩:=hk5.form2;have hbA:=(below_drewn (Below.refl w.heap.size w) _).trans hb5;obtain ⟨k0,k1⟩:=HLD.out w5 hbA;obtain ⟨⟨z0,z1,z2⟩,y17,y18,y19,y'17,y'18,y'19⟩:=HFR.out w5 hbA))
 all_goals
  go_wp2
  go_end0
  exact ⟨rfl,HEND.out _ _ _ _ _ _ _ hbA hk5⟩
end
end Go.Proofs.YtcpggonengkgiaaGreatDoor
